import PyProof.Rows.All
import Wide.All
import OpenK.AllK
import Wide.FinOn
import KE.KStateDown
import HandS.Base
import HandS.Call
import HandS.List
import HandS.Comp
import HandS.Iter
import HandS.Ends
import HandS.Words
import HandS.WordsList
import HandS.WordsExc
import HandS.Defaults
import HandS.Wide
import HandS.Gcd
import HandS.IsInst
import HandS.NoneIn
import HandS.Head0
import HandS.Head1
import HandS.Head2
import HandS.Head3
import HandS.HeadEnd
import HandS.HeadHook1
import HandS.HeadHook2
import PyProof.ReprRoads
import PyProof.ReprReads
import PyProof.ReprLen
import PyProof.FitsInt
import PySem.Challenge.RW_framecues_k05_values_of_steps
set_option Elab.async false
set_option linter.all false
set_option maxRecDepth 100000
set_option maxHeartbeats 4000000
set_option exponentiation.threshold 20000
/-! ### fractions as pairs; their sizes -/
namespace FC
open PySem PySem.Spec PyProof.Rows L2
/-- the pair of a fraction -/
def fr (q : Rat) : List V := [.int q.num, .int (q.den : Int)]
def Bd (n : Nat) (q : Rat) : Prop := q.num.natAbs < 2 ^ n ∧ q.den < 2 ^ n
theorem Bd.mono {n m : Nat} {q : Rat} (h : Bd n q) (l : n ≤ m) : Bd m q :=
  ⟨Nat.lt_of_lt_of_le h.1 (Nat.pow_le_pow_right (by decide) l), Nat.lt_of_lt_of_le h.2 (Nat.pow_le_pow_right (by decide) l)⟩
theorem den_pos (q : Rat) : 0 < q.den := Nat.pos_of_ne_zero q.den_nz
/-- the lowest terms are no greater -/
theorem mk_num_le (a : Int) (b : Nat) (hb : b ≠ 0) : (mkRat a b).num.natAbs ≤ a.natAbs := by
  rw [Rat.num_mkRat, if_neg hb]
  rw [Int.natAbs_ediv_of_dvd (Int.ofNat_dvd_left.mpr (Nat.gcd_dvd_right _ _))]
  exact Nat.div_le_self _ _
theorem mk_den_le (a : Int) (b : Nat) (hb : b ≠ 0) : (mkRat a b).den ≤ b := by
  rw [Rat.den_mkRat, if_neg hb]
  exact Nat.div_le_self _ _
theorem Bd.mk {n : Nat} {a : Int} {b : Nat} (hb : b ≠ 0) (h1 : a.natAbs < 2 ^ n) (h2 : b < 2 ^ n) : Bd n (mkRat a b) :=
  ⟨Nat.lt_of_le_of_lt (mk_num_le a b hb) h1, Nat.lt_of_le_of_lt (mk_den_le a b hb) h2⟩
theorem nmul {i j : Int} {a b : Nat} (ha : i.natAbs < 2 ^ a) (hb : j.natAbs < 2 ^ b) : (i * j).natAbs < 2 ^ (a + b) := by
  rw [Int.natAbs_mul, Nat.pow_add]
  exact Nat.mul_lt_mul'' ha hb
theorem nadd {i j : Int} {a : Nat} (ha : i.natAbs < 2 ^ a) (hb : j.natAbs < 2 ^ a) : (i + j).natAbs < 2 ^ (a + 1) := by
  have := Int.natAbs_add_le i j
  rw [Nat.pow_succ]
  omega
theorem nsub {i j : Int} {a : Nat} (ha : i.natAbs < 2 ^ a) (hb : j.natAbs < 2 ^ a) : (i - j).natAbs < 2 ^ (a + 1) := by
  have := Int.natAbs_sub_le i j
  rw [Nat.pow_succ]
  omega
theorem ndm {a b n m : Nat} (h1 : a < 2 ^ n) (h2 : b < 2 ^ m) : a * b < 2 ^ (n + m) := by
  rw [Nat.pow_add]
  exact Nat.mul_lt_mul'' h1 h2
theorem pow_up {x n m : Nat} (h : x < 2 ^ n) (l : n ≤ m) : x < 2 ^ m := Nat.lt_of_lt_of_le h (Nat.pow_le_pow_right (by decide) l)
theorem Bd.add {n m : Nat} {p q : Rat} (h1 : Bd n p) (h2 : Bd m q) : Bd (n + m + 1) (p + q) := by
  rw [Rat.add_def']
  refine Bd.mk (Nat.mul_ne_zero p.den_nz q.den_nz) (nadd (nmul h1.1 (by rw [Int.natAbs_natCast]; exact h2.2)) ?_) (pow_up (ndm h1.2 h2.2) (Nat.le_succ _))
  rw [Nat.add_comm n m]
  exact nmul h2.1 (by rw [Int.natAbs_natCast]; exact h1.2)
theorem Bd.sub {n m : Nat} {p q : Rat} (h1 : Bd n p) (h2 : Bd m q) : Bd (n + m + 1) (p - q) := by
  rw [Rat.sub_def']
  refine Bd.mk (Nat.mul_ne_zero p.den_nz q.den_nz) (nsub (nmul h1.1 (by rw [Int.natAbs_natCast]; exact h2.2)) ?_) (pow_up (ndm h1.2 h2.2) (Nat.le_succ _))
  rw [Nat.add_comm n m]
  exact nmul h2.1 (by rw [Int.natAbs_natCast]; exact h1.2)
theorem Bd.mul {n m : Nat} {p q : Rat} (h1 : Bd n p) (h2 : Bd m q) : Bd (n + m) (p * q) := by
  rw [Rat.mul_def']
  exact Bd.mk (Nat.mul_ne_zero p.den_nz q.den_nz) (nmul h1.1 h2.1) (ndm h1.2 h2.2)
theorem Bd.neg {n : Nat} {p : Rat} (h1 : Bd n p) : Bd n (-p) := ⟨by rw [Rat.neg_num, Int.natAbs_neg]; exact h1.1, h1.2⟩
theorem Bd.q0 : Bd 1 (0 : Rat) := ⟨by decide, by decide⟩
theorem Bd.q1 : Bd 1 (1 : Rat) := ⟨by decide, by decide⟩
theorem Bd.q2 : Bd 2 (2 : Rat) := ⟨by decide, by decide⟩
theorem Bd.q3 : Bd 2 (3 : Rat) := ⟨by decide, by decide⟩
theorem Bd.pos {n : Nat} {p : Rat} (h : Bd n p) : 0 < n := by
  cases n with
  | zero => have := h.2; have := den_pos p; omega
  | succ n => exact Nat.succ_pos n
/-- small enough for one step of reckoning -/
def Sm (q : Rat) : Prop := Bd 4000 q
theorem Sm.of {n : Nat} {q : Rat} (h : Bd n q) (l : n ≤ 4000) : Sm q := h.mono l
/-! ### the quotient in lowest terms -/
theorem ratio_num (a b : Int) (hb : 0 < b) : a / ((Nat.gcd a.natAbs b.natAbs : Nat) : Int) = (Rat.divInt a b).num := by
  obtain ⟨n, rfl⟩ := Int.eq_ofNat_of_zero_le (Int.le_of_lt hb)
  rw [Rat.divInt_ofNat, Rat.num_mkRat, if_neg (by omega), Int.natAbs_natCast, Nat.gcd_comm]
theorem ratio_den (a b : Int) (hb : 0 < b) : b / ((Nat.gcd a.natAbs b.natAbs : Nat) : Int) = ((Rat.divInt a b).den : Int) := by
  obtain ⟨n, rfl⟩ := Int.eq_ofNat_of_zero_le (Int.le_of_lt hb)
  rw [Rat.divInt_ofNat, Rat.den_mkRat, if_neg (by omega), Int.natAbs_natCast, Nat.gcd_comm]
  exact (Int.natCast_ediv _ _).symm
theorem d_add (p q : Rat) : Rat.divInt (p.num * (q.den : Int) + q.num * (p.den : Int)) ((p.den : Int) * (q.den : Int)) = p + q := by
  rw [← Rat.divInt_add_divInt _ _ (by exact_mod_cast p.den_nz) (by exact_mod_cast q.den_nz), Rat.num_divInt_den, Rat.num_divInt_den]
theorem d_sub (p q : Rat) : Rat.divInt (p.num * (q.den : Int) - q.num * (p.den : Int)) ((p.den : Int) * (q.den : Int)) = p - q := by
  rw [← Rat.divInt_sub_divInt _ _ (by exact_mod_cast p.den_nz) (by exact_mod_cast q.den_nz), Rat.num_divInt_den, Rat.num_divInt_den]
theorem d_mul (p q : Rat) : Rat.divInt (p.num * q.num) ((p.den : Int) * (q.den : Int)) = p * q := by
  rw [← Rat.divInt_mul_divInt, Rat.num_divInt_den, Rat.num_divInt_den]
theorem d_div (p q : Rat) : Rat.divInt (p.num * (q.den : Int)) ((p.den : Int) * q.num) = p / q := by
  rw [← Rat.divInt_mul_divInt, Rat.num_divInt_den, Rat.div_def, Rat.inv_def]
theorem gcd_one (q : Rat) : ((Nat.gcd q.num.natAbs (q.den : Int).natAbs : Nat) : Int) = 1 := by
  rw [Int.natAbs_natCast]
  exact_mod_cast q.reduced
theorem fr_inj {p q : Rat} (h1 : p.num = q.num) (h2 : (p.den : Int) = (q.den : Int)) : p = q := Rat.ext h1 (by exact_mod_cast h2)
theorem lt_num (p q : Rat) : decide (p.num * (q.den : Int) < q.num * (p.den : Int)) = decide (p < q) := decide_eq_decide.mpr (Rat.lt_iff p q).symm
end FC

namespace FC
open PySem L2
def BlPost (P : Bool → Hp → Prop) : VK := fun x H' => ∃ k, x = .bl k ∧ P k H'
def TupPost (Q : VK) : List V → Hp → Prop := fun xs H1 => xs.length ≤ sizeLine ∧ ∀ p, H1 p = none → Q (.ref p) (upd H1 p (.tup xs))
def LstPost (Q : VK) : List V → Hp → Prop := fun xs H1 => xs.length ≤ sizeLine ∧ ∀ p, H1 p = none → Q (.ref p) (upd H1 p (.lst xs))
def ParPost (i j : Nat) (σ : L2.St) (N : L2.St → Hp → Prop) : List V → Hp → Prop := fun vs H1 => ∃ v w, vs = [v, w] ∧ N ((σ.set i (some v)).set j (some w)) H1
section
variable {σ r : St} {H H' : Hp} {Q : VK} {D : Ends} {v w : V} {te ta tb : TE} {t u : TS} {tt tu : TT} {g : TG} {K : PySem.W.Frag} {o0 o1 o2 o3 o4 o5 o6 o7 o8 o9 : Option V}
/-! ### names -/
theorem v0 (q : Q v H) : tVar 0 (some v :: r) H Q := ⟨v, rfl, q⟩
theorem v1 (q : Q v H) : tVar 1 (o0 :: some v :: r) H Q := ⟨v, rfl, q⟩
theorem v2 (q : Q v H) : tVar 2 (o0 :: o1 :: some v :: r) H Q := ⟨v, rfl, q⟩
theorem v3 (q : Q v H) : tVar 3 (o0 :: o1 :: o2 :: some v :: r) H Q := ⟨v, rfl, q⟩
theorem v4 (q : Q v H) : tVar 4 (o0 :: o1 :: o2 :: o3 :: some v :: r) H Q := ⟨v, rfl, q⟩
theorem v5 (q : Q v H) : tVar 5 (o0 :: o1 :: o2 :: o3 :: o4 :: some v :: r) H Q := ⟨v, rfl, q⟩
theorem v6 (q : Q v H) : tVar 6 (o0 :: o1 :: o2 :: o3 :: o4 :: o5 :: some v :: r) H Q := ⟨v, rfl, q⟩
theorem v7 (q : Q v H) : tVar 7 (o0 :: o1 :: o2 :: o3 :: o4 :: o5 :: o6 :: some v :: r) H Q := ⟨v, rfl, q⟩
theorem v8 (q : Q v H) : tVar 8 (o0 :: o1 :: o2 :: o3 :: o4 :: o5 :: o6 :: o7 :: some v :: r) H Q := ⟨v, rfl, q⟩
theorem v9 (q : Q v H) : tVar 9 (o0 :: o1 :: o2 :: o3 :: o4 :: o5 :: o6 :: o7 :: o8 :: some v :: r) H Q := ⟨v, rfl, q⟩
theorem g0 {P : St → Hp → Prop} (q : P (some v :: r) H) : gName 0 v (o0 :: r) H P := q
theorem g1 {P : St → Hp → Prop} (q : P (o0 :: some v :: r) H) : gName 1 v (o0 :: o1 :: r) H P := q
theorem g2 {P : St → Hp → Prop} (q : P (o0 :: o1 :: some v :: r) H) : gName 2 v (o0 :: o1 :: o2 :: r) H P := q
theorem g3 {P : St → Hp → Prop} (q : P (o0 :: o1 :: o2 :: some v :: r) H) : gName 3 v (o0 :: o1 :: o2 :: o3 :: r) H P := q
theorem g4 {P : St → Hp → Prop} (q : P (o0 :: o1 :: o2 :: o3 :: some v :: r) H) : gName 4 v (o0 :: o1 :: o2 :: o3 :: o4 :: r) H P := q
theorem g5 {P : St → Hp → Prop} (q : P (o0 :: o1 :: o2 :: o3 :: o4 :: some v :: r) H) : gName 5 v (o0 :: o1 :: o2 :: o3 :: o4 :: o5 :: r) H P := q
theorem g6 {P : St → Hp → Prop} (q : P (o0 :: o1 :: o2 :: o3 :: o4 :: o5 :: some v :: r) H) : gName 6 v (o0 :: o1 :: o2 :: o3 :: o4 :: o5 :: o6 :: r) H P := q
theorem g7 {P : St → Hp → Prop} (q : P (o0 :: o1 :: o2 :: o3 :: o4 :: o5 :: o6 :: some v :: r) H) : gName 7 v (o0 :: o1 :: o2 :: o3 :: o4 :: o5 :: o6 :: o7 :: r) H P := q
theorem g8 {P : St → Hp → Prop} (q : P (o0 :: o1 :: o2 :: o3 :: o4 :: o5 :: o6 :: o7 :: some v :: r) H) : gName 8 v (o0 :: o1 :: o2 :: o3 :: o4 :: o5 :: o6 :: o7 :: o8 :: r) H P := q
theorem g9 {P : St → Hp → Prop} (q : P (o0 :: o1 :: o2 :: o3 :: o4 :: o5 :: o6 :: o7 :: o8 :: some v :: r) H) : gName 9 v (o0 :: o1 :: o2 :: o3 :: o4 :: o5 :: o6 :: o7 :: o8 :: o9 :: r) H P := q
theorem xc (q : Q v H) : tC v σ H Q := q
/-! ### statements -/
theorem xseq (q : t { D with nx := u D } σ H) : tSeq t u D σ H := q
theorem xnext (q : D.nx σ H) : tNext D σ H := q
theorem xasg (q : te σ H fun x H1 => g x σ H1 D.nx) : tAsg te g D σ H := q
theorem xret (q : te σ H D.rt) : tRet te D σ H := q
theorem xdrop (q : te σ H fun _ H1 => D.nx σ H1) : tDrop te D σ H := q
theorem xcont (q : D.ct σ H) : tCont D σ H := q
theorem xifs (q : tt σ H fun b H1 => if b = true then t D σ H1 else u D σ H1) : tIfS tt t u D σ H := q
theorem xpar {i j : Nat} {ta : TA} (q : ta σ H (ParPost i j σ D.nx)) : tPar i j ta D σ H := q
theorem xpar2 {i j : Nat} {N : L2.St → Hp → Prop} {x y : V} (q : N ((σ.set i (some x)).set j (some y)) H) : ParPost i j σ N [x, y] H := ⟨x, y, rfl, q⟩
/-! ### tests and values -/
theorem xtest {P : Bool → Hp → Prop} (q : te σ H (BlPost P)) : tTest te σ H P := q
theorem xtB {P : Bool → Hp → Prop} (q : te σ H (BlPost P)) : tB te σ H P := q
theorem xbl {P : Bool → Hp → Prop} {b : Bool} (q : P b H) : BlPost P (.bl b) H := ⟨b, rfl, q⟩
theorem xand {P : Bool → Hp → Prop} (q : tt σ H fun c H1 => if c = true then tu σ H1 P else P false H1) : tAnd tt tu σ H P := q
theorem xor {P : Bool → Hp → Prop} (q : tt σ H fun c H1 => if c = true then P true H1 else tu σ H1 P) : tOr tt tu σ H P := q
theorem xnot {P : Bool → Hp → Prop} (q : tt σ H fun c H1 => P (!c) H1) : tNot tt σ H P := q
theorem xandv (q : ta σ H (BlPost fun c H1 => if c = true then tb σ H1 Q else Q (.bl false) H1)) : tAndV ta tb σ H Q := q
theorem xorv (q : ta σ H (BlPost fun c H1 => if c = true then Q (.bl true) H1 else tb σ H1 Q)) : tOrV ta tb σ H Q := q
theorem xnotv (q : ta σ H (BlPost fun c H1 => Q (.bl (!c)) H1)) : tNotV ta σ H Q := q
theorem xif (q : tt σ H fun c H1 => if c = true then ta σ H1 Q else tb σ H1 Q) : tIf tt ta tb σ H Q := q
theorem xisN (q : ta σ H fun x H1 => Q (.bl (decide (x = .non))) H1) : tIsN ta σ H Q := q
theorem xnotN (q : ta σ H fun x H1 => Q (.bl (!decide (x = .non))) H1) : tNotN ta σ H Q := q
theorem xop {r : R2} (q : ta σ H fun x H1 => tb σ H1 fun y H2 => r x y H2 Q) : tOp r ta tb σ H Q := q
theorem xun {r : V → Hp → VK → Prop} (q : ta σ H fun x H1 => r x H1 Q) : tUn r ta σ H Q := q
theorem xnil {P : List V → Hp → Prop} (q : P [] H) : tNil σ H P := q
theorem xcons {tr : TA} {P : List V → Hp → Prop} (q : ta σ H fun x H1 => tr σ H1 fun xs H2 => P (x :: xs) H2) : tCons ta tr σ H P := q
theorem xcb {r : List V → Hp → VK → Prop} {t : TA} (q : t σ H fun vs H1 => r vs H1 Q) : tCB r t σ H Q := q
theorem xcall {sp : Sp} {E : XK} {t : TA} (q : t σ H fun vs H1 => sp vs H1 Q E) : tCall sp [] E t σ H Q := by
  show t σ H fun vs H1 => sp (vs ++ []) H1 Q E
  have e : (fun vs H1 => sp (vs ++ []) H1 Q E) = fun vs H1 => sp vs H1 Q E := by
    funext vs H1
    rw [List.append_nil]
  rw [e]
  exact q
theorem xtup {t : TA} (q : t σ H (TupPost Q)) : tTup t σ H Q := q
theorem xlst {t : TA} (q : t σ H (LstPost Q)) : tLst t σ H Q := q
theorem xbm {T : String} {r : V → List V → Hp → VK → Prop} {t : TA} (q : te σ H fun x H1 => tyV K T x H1 ∧ t σ H1 fun xs H2 => r x xs H2 Q) : tBM K T r te t σ H Q := q
theorem xsub {ti : TE} {ts : TSet} {P : St → Hp → Prop} (q : te σ H fun o H1 => ti σ H1 fun i H2 => ts o i v H2 fun H3 => P σ H3) : gSub te ti ts v σ H P := q
/-! ### ways -/
theorem wT {A B : Prop} {c : Bool} (e : c = true) (h : A) : if c = true then A else B := by
  rw [if_pos e]
  exact h
theorem wF {A B : Prop} {c : Bool} (e : c = false) (h : B) : if c = true then A else B := by
  rw [e, if_neg Bool.false_ne_true]
  exact h
theorem wD {A B : Prop} {P : Prop} [Decidable P] (h1 : P → A) (h2 : ¬ P → B) : if decide P = true then A else B := by
  by_cases c : P
  · rw [if_pos (decide_eq_true c)]
    exact h1 c
  · rw [if_neg (by rw [decide_eq_false c]; exact Bool.false_ne_true)]
    exact h2 c
theorem wN {A B : Prop} {P : Prop} [Decidable P] (h1 : ¬ P → A) (h2 : P → B) : if (!decide P) = true then A else B := by
  by_cases c : P
  · rw [decide_eq_true c, if_neg (by decide)]
    exact h2 c
  · rw [decide_eq_false c, if_pos (by decide)]
    exact h1 c
theorem wB {A B : Prop} {c : Bool} (h1 : c = true → A) (h2 : c = false → B) : if c = true then A else B := by
  cases c with
  | true =>
    rw [if_pos rfl]
    exact h1 rfl
  | false =>
    rw [if_neg Bool.false_ne_true]
    exact h2 rfl
/-! ### numbers -/
theorem nadd_ {i j : Int} (q : Q (.int (i + j)) H) : rI0 (fun i j => .int (i + j)) (.int i) (.int j) H Q := ⟨i, j, rfl, rfl, q⟩
theorem nsub_ {i j : Int} (q : Q (.int (i - j)) H) : rI0 (fun i j => .int (i - j)) (.int i) (.int j) H Q := ⟨i, j, rfl, rfl, q⟩
theorem nmul_ {i j : Int} (c : CMulW i j) (q : Q (.int (i * j)) H) : rI CMulW (fun i j => .int (i * j)) (.int i) (.int j) H Q := ⟨i, j, rfl, rfl, c, q⟩
theorem nmuls_ {i j : Int} (c : CMul i j) (q : Q (.int (i * j)) H) : rI CMul (fun i j => .int (i * j)) (.int i) (.int j) H Q := ⟨i, j, rfl, rfl, c, q⟩
theorem ndiv_ {i j : Int} (c : CDivW i j) (q : Q (.int (i / j)) H) : rI CDivW (fun i j => .int (i / j)) (.int i) (.int j) H Q := ⟨i, j, rfl, rfl, c, q⟩
theorem nmod_ {i j : Int} (c : 0 < j) (q : Q (.int (i % j)) H) : rI (fun _ j => 0 < j) (fun i j => .int (i % j)) (.int i) (.int j) H Q := ⟨i, j, rfl, rfl, c, q⟩
theorem npow_ {i j : Int} (c : CPow i j) (q : Q (.int (i ^ j.toNat)) H) : rI CPow (fun i j => .int (i ^ j.toNat)) (.int i) (.int j) H Q := ⟨i, j, rfl, rfl, c, q⟩
theorem nlt_ {i j : Int} (q : Q (.bl (decide (i < j))) H) : rI0 (fun i j => .bl (decide (i < j))) (.int i) (.int j) H Q := ⟨i, j, rfl, rfl, q⟩
theorem nle_ {i j : Int} (q : Q (.bl (decide (i ≤ j))) H) : rI0 (fun i j => .bl (decide (i ≤ j))) (.int i) (.int j) H Q := ⟨i, j, rfl, rfl, q⟩
theorem ngt_ {i j : Int} (q : Q (.bl (decide (j < i))) H) : rI0 (fun i j => .bl (decide (j < i))) (.int i) (.int j) H Q := ⟨i, j, rfl, rfl, q⟩
theorem nge_ {i j : Int} (q : Q (.bl (decide (j ≤ i))) H) : rI0 (fun i j => .bl (decide (j ≤ i))) (.int i) (.int j) H Q := ⟨i, j, rfl, rfl, q⟩
theorem nneg_ {i : Int} (q : Q (.int (-i)) H) : rU (fun i => .int (-i)) (.int i) H Q := ⟨i, rfl, q⟩
theorem neq_ {i j : Int} (q : Q (.bl (decide (i = j))) H) : rEq (.int i) (.int j) H Q := by
  refine ⟨rfl, ?_⟩
  have e : decide (V.int i = V.int j) = decide (i = j) := decide_eq_decide.mpr ⟨V.int.inj, congrArg V.int⟩
  rw [e]
  exact q
theorem nne_ {i j : Int} (q : Q (.bl (!decide (i = j))) H) : rNe (.int i) (.int j) H Q := by
  refine ⟨rfl, ?_⟩
  have e : decide (V.int i = V.int j) = decide (i = j) := decide_eq_decide.mpr ⟨V.int.inj, congrArg V.int⟩
  rw [e]
  exact q
theorem seq_ {i j : Str} (q : Q (.bl (decide (i = j))) H) : rEq (.str i) (.str j) H Q := by
  refine ⟨rfl, ?_⟩
  have e : decide (V.str i = V.str j) = decide (i = j) := decide_eq_decide.mpr ⟨V.str.inj, congrArg V.str⟩
  rw [e]
  exact q
/-! ### sequences -/
theorem ixT_ {p : Addr} {xs : List V} {i : Int} (h : SqT K H p xs) (ha : atI xs i = some v) (q : Q v H) : rIxT K (.ref p) (.int i) H Q := ⟨p, xs, i, v, rfl, rfl, h, ha, q⟩
theorem ixL_ {p : Addr} {xs : List V} {i : Int} (h : SqL K H p xs) (ha : atI xs i = some v) (q : Q v H) : rIxL K (.ref p) (.int i) H Q := ⟨p, xs, i, v, rfl, rfl, h, ha, q⟩
theorem same_upd {H : Hp} {p : Addr} {o : HO} (h : H p = none) : Same H (upd H p o) := fun b x e => by
  rw [upd_ne (ne_of_none e h)]
  exact e
theorem tup_ {xs : List V} (hl : xs.length ≤ sizeLine) (q : ∀ p H', H p = none → Same H H' → H' p = some (.tup xs) → Q (.ref p) H') : TupPost Q xs H :=
  ⟨hl, fun p hp => q p _ hp (same_upd hp) upd_same⟩
theorem lst_ {xs : List V} (hl : xs.length ≤ sizeLine) (q : ∀ p H', H p = none → Same H H' → H' p = some (.lst xs) → Q (.ref p) H') : LstPost Q xs H :=
  ⟨hl, fun p hp => q p _ hp (same_upd hp) upd_same⟩
theorem sz0 : ([] : List V).length ≤ sizeLine := Nat.zero_le _
theorem sz1 {a : V} : [a].length ≤ sizeLine := by show 1 ≤ sizeLine; decide
theorem sz2 {a b : V} : [a, b].length ≤ sizeLine := by show 2 ≤ sizeLine; decide
theorem sz3 {a b c : V} : [a, b, c].length ≤ sizeLine := by show 3 ≤ sizeLine; decide
theorem sz4 {a b c d : V} : [a, b, c, d].length ≤ sizeLine := by show 4 ≤ sizeLine; decide
theorem szN {n : Nat} (h : n ≤ 10000) : n ≤ sizeLine := Nat.le_trans h (by decide)
theorem isiT_ {p : Addr} {xs : List V} (h : SqT K H p xs) (q : Q (.bl true) H) : rIsi K [.ref p, .ty "tuple"] H Q := by
  rcases h with (h | ⟨o, h⟩) | ⟨o, its, n, h, c, _⟩
  · exact ⟨_, _, _, _, true, rfl, .ty _, .base (.tup h), kit_ty (by decide +kernel), q⟩
  · exact ⟨_, _, _, _, true, rfl, .ty _, .fTuple h, kit_ty (by decide +kernel), q⟩
  · exact ⟨_, _, _, _, true, rfl, .ty _, .kTuple h c, kit_ty (by decide +kernel), q⟩
theorem isiII_ {i : Int} (q : Q (.bl true) H) : rIsi K [.int i, .ty "int"] H Q := ⟨_, _, _, _, true, rfl, .ty _, .base (.int _), kit_ty (by decide +kernel), q⟩
theorem isiIB_ {i : Int} (q : Q (.bl false) H) : rIsi K [.int i, .ty "bool"] H Q := ⟨_, _, _, _, false, rfl, .ty _, .base (.int _), kit_ty (by decide +kernel), q⟩
theorem isiBB_ {b : Bool} (q : Q (.bl true) H) : rIsi K [.bl b, .ty "bool"] H Q := ⟨_, _, _, _, true, rfl, .ty _, .base (.bl _), kit_ty (by decide +kernel), q⟩
theorem isiSS_ {z : Str} (q : Q (.bl true) H) : rIsi K [.str z, .ty "str"] H Q := ⟨_, _, _, _, true, rfl, .ty _, .base (.str _), kit_ty (by decide +kernel), q⟩
theorem gcd_ {a b : Int} (q : Q (.int ((Nat.gcd a.natAbs b.natAbs : Nat) : Int)) H) : rGcd [.int a, .int b] H Q := ⟨a, b, rfl, q⟩
end
def rLenX (K : PySem.W.Frag) : List V → Hp → VK → Prop := fun xs H Q => ∃ p ys, xs = [V.ref p] ∧ (SqL K H p ys ∨ SqT K H p ys) ∧ Q (.int ys.length) H
def rAbsX : List V → Hp → VK → Prop := fun xs H Q => ∃ i, xs = [V.int i] ∧ Q (.int (if i < 0 then -i else i)) H
def rIntX : List V → Hp → VK → Prop := fun xs H Q => (∃ i, xs = [V.int i] ∧ Q (.int i) H) ∨ ∃ k, xs = [V.bl k] ∧ Q (.int (if k then 1 else 0)) H
def rMaxX : List V → Hp → VK → Prop := fun xs H Q => ∃ i j, xs = [V.int i, .int j] ∧ Q (.int (if j > i then j else i)) H
def rMinX : List V → Hp → VK → Prop := fun xs H Q => ∃ i j, xs = [V.int i, .int j] ∧ Q (.int (if j < i then j else i)) H
def rListX (K : PySem.W.Frag) : List V → Hp → VK → Prop := fun xs H Q => ∃ p ys, xs = [V.ref p] ∧ (SqL K H p ys ∨ SqT K H p ys) ∧ ∀ l, H l = none → Q (.ref l) (upd H l (.lst ys))
def rTupX (K : PySem.W.Frag) : List V → Hp → VK → Prop := fun xs H Q => ∃ p ys, xs = [V.ref p] ∧ ((SqL K H p ys ∧ ∀ l, H l = none → Q (.ref l) (upd H l (.tup ys))) ∨ (SqT K H p ys ∧ Q (.ref p) H))
theorem cr_len {X : Cx} : CallR X (.builtin "len") (rLenX X.K) := call_len_seq
theorem cr_abs {X : Cx} : CallR X (.builtin "abs") rAbsX := call_abs
theorem cr_int {X : Cx} : CallR X (.type "int") rIntX := call_int1
theorem cr_max2 {X : Cx} (hc : X.calm = true) : CallR X (.builtin "max") rMaxX := call_max2 hc
theorem cr_min2 {X : Cx} (hc : X.calm = true) : CallR X (.builtin "min") rMinX := call_min2 hc
theorem cr_list {X : Cx} : CallR X (.type "list") (rListX X.K) := call_list_of
theorem cr_tup {X : Cx} : CallR X (.type "tuple") (rTupX X.K) := call_tuple_of
section
variable {σ r : L2.St} {H H' : Hp} {Q : VK} {K : PySem.W.Frag}
theorem lenT_ {p : Addr} {xs : List V} (h : SqT K H p xs) (q : Q (.int xs.length) H) : rLenX K [.ref p] H Q := ⟨p, xs, rfl, .inr h, q⟩
theorem lenL_ {p : Addr} {xs : List V} (h : SqL K H p xs) (q : Q (.int xs.length) H) : rLenX K [.ref p] H Q := ⟨p, xs, rfl, .inl h, q⟩
theorem abs_ {i : Int} (q : Q (.int (i.natAbs : Int)) H) : rAbsX [.int i] H Q := by
  refine ⟨i, rfl, ?_⟩
  have e : (if i < 0 then -i else i) = (i.natAbs : Int) := by split <;> omega
  rw [e]
  exact q
theorem intI_ {i : Int} (q : Q (.int i) H) : rIntX [.int i] H Q := .inl ⟨i, rfl, q⟩
theorem intB_ {b : Bool} (q : Q (.int (if b then 1 else 0)) H) : rIntX [.bl b] H Q := .inr ⟨b, rfl, q⟩
theorem max_ {i j : Int} (q : Q (.int (if j > i then j else i)) H) : rMaxX [.int i, .int j] H Q := ⟨i, j, rfl, q⟩
theorem min_ {i j : Int} (q : Q (.int (if j < i then j else i)) H) : rMinX [.int i, .int j] H Q := ⟨i, j, rfl, q⟩
theorem listL_ {p : Addr} {xs : List V} (h : SqL K H p xs) (q : ∀ l H', H l = none → (∀ b o, H b = some o → H' b = some o) → H' l = some (.lst xs) → Q (.ref l) H') : rListX K [.ref p] H Q := ⟨p, xs, rfl, .inl h, fun l hl => q l _ hl (fun b x e => by rw [upd_ne (ne_of_none e hl)]; exact e) upd_same⟩
theorem tupL_ {p : Addr} {xs : List V} (h : SqL K H p xs) (q : ∀ l H', H l = none → (∀ b o, H b = some o → H' b = some o) → H' l = some (.tup xs) → Q (.ref l) H') : rTupX K [.ref p] H Q := ⟨p, xs, rfl, .inl ⟨h, fun l hl => q l _ hl (fun b x e => by rw [upd_ne (ne_of_none e hl)]; exact e) upd_same⟩⟩
/-- a rest, by its bounds alone -/
theorem nmodG {i j : Int} (c : 0 < j) (q : ∀ r, 0 ≤ r → r < j → Q (.int r) H) : rI (fun _ j => 0 < j) (fun i j => .int (i % j)) (.int i) (.int j) H Q := ⟨i, j, rfl, rfl, c, q _ (Int.emod_nonneg _ (by omega)) (Int.emod_lt_of_pos _ c)⟩
theorem ndivG {i j : Int} (c : CDivW i j) (q : ∀ r, Q (.int r) H) : rI CDivW (fun i j => .int (i / j)) (.int i) (.int j) H Q := ⟨i, j, rfl, rfl, c, q _⟩
theorem nmulR {i j : Int} (c : -(2 ^ 64) < j ∧ j < 2 ^ 64) (q : Q (.int (i * j)) H) : rI CMul (fun i j => .int (i * j)) (.int i) (.int j) H Q := ⟨i, j, rfl, rfl, .inr c, q⟩
theorem nmulL {i j : Int} (c : -(2 ^ 64) < i ∧ i < 2 ^ 64) (q : Q (.int (i * j)) H) : rI CMul (fun i j => .int (i * j)) (.int i) (.int j) H Q := ⟨i, j, rfl, rfl, .inl c, q⟩
/-! ### what stays -/
theorem Same.sqT {H H' : Hp} {a : Addr} {xs : List V} (e : Same H H') (h : SqT K H a xs) : SqT K H' a xs := by
  rcases h with (h | ⟨o, h⟩) | h
  · exact .inl (.inl (e _ _ h))
  · exact .inl (.inr ⟨o, e _ _ h⟩)
  · exact .inr h
theorem lit0 {H : Hp} {a : Addr} (h : SqT K H a [.int 0, .int 1]) : SqT K H a (fr 0) := h
theorem lit1 {H : Hp} {a : Addr} (h : SqT K H a [.int 1, .int 1]) : SqT K H a (fr 1) := h
theorem lit2 {H : Hp} {a : Addr} (h : SqT K H a [.int 2, .int 1]) : SqT K H a (fr 2) := h
theorem lit3 {H : Hp} {a : Addr} (h : SqT K H a [.int 3, .int 1]) : SqT K H a (fr 3) := h
theorem SqT.tr {H : Hp} {a : Addr} {xs : List V} (h : H a = some (.tup xs)) : SqT K H a xs := .inl (.inl h)
theorem SqL.tr {H : Hp} {a : Addr} {xs : List V} (h : H a = some (.lst xs)) : SqL K H a xs := .inl (.inl h)
end
theorem wTt {A B : Prop} (h : A) : if true = true then A else B := wT rfl h
theorem wFf {A B : Prop} (h : B) : if false = true then A else B := wF rfl h
theorem wNt {A B : Prop} (h : B) : if (!true) = true then A else B := wF rfl h
theorem wNf {A B : Prop} (h : A) : if (!false) = true then A else B := wT rfl h
theorem wDt {A B P : Prop} [Decidable P] (p : P) (h : A) : if decide P = true then A else B := wT (decide_eq_true p) h
theorem wDf {A B P : Prop} [Decidable P] (p : ¬ P) (h : B) : if decide P = true then A else B := wF (decide_eq_false p) h
theorem wNDt {A B P : Prop} [Decidable P] (p : P) (h : B) : if (!decide P) = true then A else B := wF (by rw [decide_eq_true p] <;> rfl) h
theorem wNDf {A B P : Prop} [Decidable P] (p : ¬ P) (h : A) : if (!decide P) = true then A else B := wT (by rw [decide_eq_false p] <;> rfl) h
theorem gtup2_ {K : PySem.W.Frag} {a : Addr} {xs : List V} {x y : V} {n : Nat} {σ : L2.St} {H : Hp} {P : L2.St → Hp → Prop} {ga gb : TG} (h : SqT K H a xs) (e : xs = [x, y]) (hn : n = 2) (q : ga x σ H fun σ' H' => gb y σ' H' P) : gTup K n (gCons ga (gCons gb gNil)) (.ref a) σ H P := by
  subst e hn
  refine ⟨a, _, rfl, h, rfl, x, [y], rfl, ?_⟩
  have e : (fun σ' H' => gCons gb gNil [y] σ' H' P) = fun σ' H' => gb y σ' H' P := by
    funext σ' H'
    refine propext ⟨fun ⟨v, r, e, q⟩ => ?_, fun q => ⟨y, [], rfl, ?_⟩⟩
    · injection e with e1 e2
      subst e1 e2
      have z : (fun σ' H' => gNil [] σ' H' P) = P := by
        funext σ' H'
        exact propext ⟨fun ⟨_, q⟩ => q, fun q => ⟨rfl, q⟩⟩
      rw [z] at q
      exact q
    · have z : (fun σ' H' => gNil [] σ' H' P) = P := by
        funext σ' H'
        exact propext ⟨fun ⟨_, q⟩ => q, fun q => ⟨rfl, q⟩⟩
      rw [z]
      exact q
  rw [e]
  exact q
end FC

namespace FC
open PySem L2
/-! ### a def of the text that keeps its promise -/
structure Good (P : Program) (w : World) (K : PySem.W.Frag) (mg : Str → Option Value) (base : Heap) (x : Str) (k : Nat) (ps : List Str) (sp : Sp) : Prop where
  g : mg x = some (.ref (He.ga K x))
  kp : PySem.W.keepIn K (.ref (He.ga K x)) = true
  fn : ∃ fd, Binds K fd ps [] ∧ FnOk P w K mg base CX0 k (He.ga K x) fd ps sp
theorem pe_good {X : Cx} {x : Str} {k : Nat} {ps : List Str} {sp : Sp} {e : Expr} {es : List Expr} {t : TA} {p pos : Pos} (G : Good X.prog X.w X.K X.mg X.base x k ps sp) (hr : Room k X.A) (ha : PA X (e :: es) t) (hg : Gl X x := by rfl) (hdb : (x == ("__debug__" : Str)) = false := by decide)
    (he : starEach (e :: es) X.env = (false, eval e X.env) :: starEach es X.env := by rfl) (hpl : (backTo pos (starEach es X.env)).any (·.1) = false := by rfl) : PE X (.Call (.Name x p) (e :: es) [] pos) (tCall sp [] E0 t) := by
  obtain ⟨fd, hb, F⟩ := G.fn
  exact pe_call F hr hg G.g G.kp hb .nil pass0 ha hdb he hpl
/-- what a def is in the written part -/
def DefOk (K : PySem.W.Frag) (mg : Str → Option Value) (d : He.DefD) : Prop := mg d.name = some (.ref (He.ga K d.name)) ∧ ∃ fd, FunD K d.name d.qual d.params d.body d.scope (d.dvs K) (d.kws K) (He.ga K d.name) fd
/-! ### the source of draws: a list of three ints; what a draw leaves as it is -/
def Src (H : Hp) (a : Addr) : Prop := ∃ i j k : Int, H a = some (.lst [.int i, .int j, .int k])
def Frm (a : Addr) (H H' : Hp) : Prop := ∀ b o, b ≠ a → H b = some o → H' b = some o
theorem Frm.refl (a : Addr) (H : Hp) : Frm a H H := fun _ _ _ h => h
theorem Frm.trans {a : Addr} {H H1 H2 : Hp} (x : Frm a H H1) (y : Frm a H1 H2) : Frm a H H2 := fun b o n h => y b o n (x b o n h)
theorem Frm.of {a : Addr} {H H1 : Hp} (x : Same H H1) : Frm a H H1 := fun b o _ h => x b o h
theorem Same.src {a : Addr} {H H1 : Hp} (x : Same H H1) (s : Src H a) : Src H1 a := by
  obtain ⟨i, j, k, h⟩ := s
  exact ⟨i, j, k, x _ _ h⟩
theorem Frm.sqT {K : PySem.W.Frag} {a b : Addr} {H H1 : Hp} {xs : List V} (f : Frm a H H1) (s : Src H a) (h : SqT K H b xs) : SqT K H1 b xs := by
  obtain ⟨i, j, k, hs⟩ := s
  rcases h with (h | ⟨o, h⟩) | h
  · exact .inl (.inl (f _ _ (ne_of h hs (by intro z; cases z)) h))
  · exact .inl (.inr ⟨o, f _ _ (ne_of h hs (by intro z; cases z)) h⟩)
  · exact .inr h
theorem Frm.sqL {K : PySem.W.Frag} {a b : Addr} {H H1 : Hp} {xs : List V} (f : Frm a H H1) (n : b ≠ a) (h : SqL K H b xs) : SqL K H1 b xs := by
  rcases h with (h | ⟨o, h⟩) | h
  · exact .inl (.inl (f _ _ n h))
  · exact .inl (.inr ⟨o, f _ _ n h⟩)
  · exact .inr h
theorem Src.ne {a b : Addr} {H : Hp} (s : Src H a) (h : H b = none) : b ≠ a := by
  obtain ⟨i, j, k, hs⟩ := s
  exact (ne_of_none hs h).symm
theorem upd_src {a : Addr} {H : Hp} {i j k : Int} : Src (upd H a (.lst [.int i, .int j, .int k])) a := ⟨i, j, k, upd_same⟩
theorem upd_frm {a : Addr} {H : Hp} {o : HO} : Frm a H (upd H a o) := fun b x n h => by
  rw [upd_ne n]
  exact h
/-! ### sizes that fit one step of reckoning -/
def Pr (p q : Rat) : Prop := ∃ n m, Bd n p ∧ Bd m q ∧ n + m ≤ 8990
theorem Pr.of {p q : Rat} (h1 : Sm p) (h2 : Sm q) : Pr p q := ⟨4000, 4000, h1, h2, by decide⟩
theorem Pr.bd {n m : Nat} {p q : Rat} (h1 : Bd n p) (h2 : Bd m q) (h : n + m ≤ 8990) : Pr p q := ⟨n, m, h1, h2, h⟩
/-! ### promises of the common defs -/
section
variable (K : PySem.W.Frag)
/-- two small fractions to a new one -/
def spBin (op : Rat → Rat → Rat) : Sp := fun vs H Q _ => ∃ (a b : Addr) (p q : Rat), vs = [.ref a, .ref b] ∧ SqT K H a (fr p) ∧ SqT K H b (fr q) ∧ Pr p q ∧ ∀ c H', Same H H' → SqT K H' c (fr (op p q)) → Q (.ref c) H'
def spOver : Sp := fun vs H Q _ => ∃ (a b : Addr) (p q : Rat), vs = [.ref a, .ref b] ∧ SqT K H a (fr p) ∧ SqT K H b (fr q) ∧ Pr p q ∧ 0 < q ∧ ∀ c H', Same H H' → SqT K H' c (fr (p / q)) → Q (.ref c) H'
def spLess : Sp := fun vs H Q _ => ∃ (a b : Addr) (p q : Rat), vs = [.ref a, .ref b] ∧ SqT K H a (fr p) ∧ SqT K H b (fr q) ∧ Pr p q ∧ Q (.bl (decide (p < q))) H
def spRatio : Sp := fun vs H Q _ => ∃ (i j : Int), vs = [.int i, .int j] ∧ 0 < j ∧ j.natAbs < 2 ^ 9000 ∧ ∀ c H', Same H H' → SqT K H' c (fr (Rat.divInt i j)) → Q (.ref c) H'
def spWhole : Sp := fun vs H Q _ => ∃ i : Int, vs = [.int i] ∧ Q (.bl true) H
def spIsRatio : Sp := fun vs H Q _ => ∃ (a : Addr) (q : Rat), vs = [.ref a] ∧ SqT K H a (fr q) ∧ Q (.bl true) H
/-! the law's own -/
def spCell : Sp := fun vs H Q _ => ∃ (a : Addr) (ns : List Int) (k : Int), vs = [.ref a, .int k] ∧ SqL K H a (ns.map V.int) ∧ 0 ≤ k ∧ ∀ i : Int, Q (.int i) H
def spMixed : Sp := fun vs H Q _ => ∃ (c k : Int), vs = [.int c, .int k] ∧ ∀ i : Int, Q (.int i) H
def spSource : Sp := fun vs H Q _ => ∃ (a : Addr) (ns : List Int) (k : Int), vs = [.ref a, .int k] ∧ SqL K H a (ns.map V.int) ∧ 0 ≤ k ∧ ∀ p H', H p = none → Same H H' → Src H' p → Q (.ref p) H'
def spNext : Sp := fun vs H Q _ => ∃ (a : Addr) (n : Int), vs = [.ref a, .int n] ∧ Src H a ∧ 0 < n ∧ n < 2 ^ 64 ∧ ∀ r H', 0 ≤ r → r < n → Src H' a → Frm a H H' → Q (.int r) H'
def spOne : Sp := fun vs H Q _ => ∃ (a t : Addr) (xs : List V), vs = [.ref a, .ref t] ∧ Src H a ∧ ((SqL K H t xs ∧ t ≠ a) ∨ SqT K H t xs) ∧ 0 < xs.length ∧ xs.length < 10000 ∧ ∀ v H', v ∈ xs → Src H' a → Frm a H H' → Q v H'
def spDivisor : Sp := fun vs H Q _ => ∃ (a b : Nat), vs = [.int a, .int b] ∧ Q (.int (Nat.gcd a b : Nat)) H
def spPart : Sp := fun vs H Q _ => ∃ (a : Addr), vs = [.ref a] ∧ Src H a ∧ ∀ p q H', SqT K H' p (fr q) → Bd 31 q → 0 ≤ q → Src H' a → Frm a H H' → Q (.ref p) H'
def spAnyPart : Sp := fun vs H Q _ => ∃ (a : Addr), vs = [.ref a] ∧ Src H a ∧ ∀ p q H', SqT K H' p (fr q) → Bd 31 q → Src H' a → Frm a H H' → Q (.ref p) H'
end
theorem CMulW.of {i j : Int} {a b : Nat} (ha : i.natAbs < 2 ^ a) (hb : j.natAbs < 2 ^ b) (h : a + b ≤ 900000) : CMulW i j := by
  refine wide_mul (a := a + 1) (b := b + 1) (pow_up ha (Nat.le_succ _)) (pow_up hb (Nat.le_succ _)) (Nat.succ_pos _) (Nat.succ_pos _) (by omega)
theorem Sm.nn {p q : Rat} (h1 : Sm p) (h2 : Sm q) : CMulW p.num q.num := CMulW.of h1.1 h2.1 (by decide)
theorem Sm.nd {p q : Rat} (h1 : Sm p) (h2 : Sm q) : CMulW p.num (q.den : Int) := CMulW.of h1.1 (by rw [Int.natAbs_natCast]; exact h2.2) (by decide)
theorem Sm.dn {p q : Rat} (h1 : Sm p) (h2 : Sm q) : CMulW (p.den : Int) q.num := CMulW.of (by rw [Int.natAbs_natCast]; exact h1.2) h2.1 (by decide)
theorem Sm.dd {p q : Rat} (h1 : Sm p) (h2 : Sm q) : CMulW (p.den : Int) (q.den : Int) := CMulW.of (by rw [Int.natAbs_natCast]; exact h1.2) (by rw [Int.natAbs_natCast]; exact h2.2) (by decide)
theorem Pr.nn {p q : Rat} (h : Pr p q) : CMulW p.num q.num := by
  obtain ⟨n, m, h1, h2, l⟩ := h
  exact CMulW.of h1.1 h2.1 (by omega)
theorem Pr.nd {p q : Rat} (h : Pr p q) : CMulW p.num (q.den : Int) := by
  obtain ⟨n, m, h1, h2, l⟩ := h
  exact CMulW.of h1.1 (by rw [Int.natAbs_natCast]; exact h2.2) (by omega)
theorem Pr.dn {p q : Rat} (h : Pr p q) : CMulW (p.den : Int) q.num := by
  obtain ⟨n, m, h1, h2, l⟩ := h
  exact CMulW.of (by rw [Int.natAbs_natCast]; exact h1.2) h2.1 (by omega)
theorem Pr.dd {p q : Rat} (h : Pr p q) : CMulW (p.den : Int) (q.den : Int) := by
  obtain ⟨n, m, h1, h2, l⟩ := h
  exact CMulW.of (by rw [Int.natAbs_natCast]; exact h1.2) (by rw [Int.natAbs_natCast]; exact h2.2) (by omega)
theorem Pr.ddn {p q : Rat} (h : Pr p q) : ((p.den : Int) * (q.den : Int)).natAbs < 2 ^ 9000 := by
  obtain ⟨n, m, h1, h2, l⟩ := h
  exact pow_up (nmul (by rw [Int.natAbs_natCast]; exact h1.2) (by rw [Int.natAbs_natCast]; exact h2.2)) (by omega)
theorem Pr.dnn {p q : Rat} (h : Pr p q) : ((p.den : Int) * q.num).natAbs < 2 ^ 9000 := by
  obtain ⟨n, m, h1, h2, l⟩ := h
  exact pow_up (nmul (by rw [Int.natAbs_natCast]; exact h1.2) h2.1) (by omega)
theorem Pr.symm {p q : Rat} (h : Pr p q) : Pr q p := by
  obtain ⟨n, m, h1, h2, l⟩ := h
  exact ⟨m, n, h2, h1, by omega⟩
theorem dd_pos (p q : Rat) : (0 : Int) < (p.den : Int) * (q.den : Int) := Int.mul_pos (by exact_mod_cast den_pos p) (by exact_mod_cast den_pos q)
theorem Sm.ddn {p q : Rat} (h1 : Sm p) (h2 : Sm q) : ((p.den : Int) * (q.den : Int)).natAbs < 2 ^ 9000 :=
  pow_up (nmul (a := 4000) (b := 4000) (by rw [Int.natAbs_natCast]; exact h1.2) (by rw [Int.natAbs_natCast]; exact h2.2)) (by decide)
theorem Sm.dnn {p q : Rat} (h1 : Sm p) (h2 : Sm q) : ((p.den : Int) * q.num).natAbs < 2 ^ 9000 :=
  pow_up (nmul (a := 4000) (b := 4000) (by rw [Int.natAbs_natCast]; exact h1.2) h2.1) (by decide)
theorem dn_pos {q : Rat} (p : Rat) (h : 0 < q) : (0 : Int) < (p.den : Int) * q.num := Int.mul_pos (by exact_mod_cast den_pos p) (by
  have h0 : (0 : Rat) ≤ q := Rat.le_of_lt h
  have h1 : 0 ≤ q.num := Rat.num_nonneg.mpr h0
  have h2 : q.num ≠ 0 := fun z => Rat.ne_of_gt h (Rat.num_eq_zero.mp z)
  omega)
theorem gcd_pos_of {a b : Int} (hb : 0 < b) : (0 : Int) < ((Nat.gcd a.natAbs b.natAbs : Nat) : Int) := by
  have : 0 < Nat.gcd a.natAbs b.natAbs := Nat.gcd_pos_of_pos_right _ (by omega)
  exact_mod_cast this
theorem gcd_small {a b : Int} (hb : 0 < b) (h : b.natAbs < 2 ^ 9000) : CDivW i ((Nat.gcd a.natAbs b.natAbs : Nat) : Int) := by
  refine wide_div (b := 9000) (gcd_pos_of hb) ?_ (by decide) (by decide)
  rw [Int.natAbs_natCast]
  exact Nat.lt_of_le_of_lt (Nat.gcd_le_right _ (by omega)) h
section
variable {K : PySem.W.Frag} {H : Hp} {Q : VK} {E : XK} {a b : Addr} {p q : Rat}
abbrev spPlus (K : PySem.W.Frag) : Sp := spBin K fun p q => p + q
abbrev spMinus (K : PySem.W.Frag) : Sp := spBin K fun p q => p - q
abbrev spTimes (K : PySem.W.Frag) : Sp := spBin K fun p q => p * q
theorem plus_ (h1 : SqT K H a (fr p)) (h2 : SqT K H b (fr q)) (h3 : Sm p) (h4 : Sm q) (k : ∀ c H', Same H H' → SqT K H' c (fr (p + q)) → Q (.ref c) H') : spBin K (fun p q => p + q) [.ref a, .ref b] H Q E := ⟨a, b, p, q, rfl, h1, h2, Pr.of h3 h4, k⟩
theorem minus_ (h1 : SqT K H a (fr p)) (h2 : SqT K H b (fr q)) (h3 : Sm p) (h4 : Sm q) (k : ∀ c H', Same H H' → SqT K H' c (fr (p - q)) → Q (.ref c) H') : spBin K (fun p q => p - q) [.ref a, .ref b] H Q E := ⟨a, b, p, q, rfl, h1, h2, Pr.of h3 h4, k⟩
theorem times_ (h1 : SqT K H a (fr p)) (h2 : SqT K H b (fr q)) (h3 : Sm p) (h4 : Sm q) (k : ∀ c H', Same H H' → SqT K H' c (fr (p * q)) → Q (.ref c) H') : spBin K (fun p q => p * q) [.ref a, .ref b] H Q E := ⟨a, b, p, q, rfl, h1, h2, Pr.of h3 h4, k⟩
theorem over_ (h1 : SqT K H a (fr p)) (h2 : SqT K H b (fr q)) (h3 : Sm p) (h4 : Sm q) (h5 : 0 < q) (k : ∀ c H', Same H H' → SqT K H' c (fr (p / q)) → Q (.ref c) H') : spOver K [.ref a, .ref b] H Q E := ⟨a, b, p, q, rfl, h1, h2, Pr.of h3 h4, h5, k⟩
theorem less_ (h1 : SqT K H a (fr p)) (h2 : SqT K H b (fr q)) (h3 : Sm p) (h4 : Sm q) (k : Q (.bl (decide (p < q))) H) : spLess K [.ref a, .ref b] H Q E := ⟨a, b, p, q, rfl, h1, h2, Pr.of h3 h4, k⟩
theorem plusP_ (h1 : SqT K H a (fr p)) (h2 : SqT K H b (fr q)) (h3 : Pr p q) (k : ∀ c H', Same H H' → SqT K H' c (fr (p + q)) → Q (.ref c) H') : spBin K (fun p q => p + q) [.ref a, .ref b] H Q E := ⟨a, b, p, q, rfl, h1, h2, h3, k⟩
theorem minusP_ (h1 : SqT K H a (fr p)) (h2 : SqT K H b (fr q)) (h3 : Pr p q) (k : ∀ c H', Same H H' → SqT K H' c (fr (p - q)) → Q (.ref c) H') : spBin K (fun p q => p - q) [.ref a, .ref b] H Q E := ⟨a, b, p, q, rfl, h1, h2, h3, k⟩
theorem timesP_ (h1 : SqT K H a (fr p)) (h2 : SqT K H b (fr q)) (h3 : Pr p q) (k : ∀ c H', Same H H' → SqT K H' c (fr (p * q)) → Q (.ref c) H') : spBin K (fun p q => p * q) [.ref a, .ref b] H Q E := ⟨a, b, p, q, rfl, h1, h2, h3, k⟩
theorem overP_ (h1 : SqT K H a (fr p)) (h2 : SqT K H b (fr q)) (h3 : Pr p q) (h5 : 0 < q) (k : ∀ c H', Same H H' → SqT K H' c (fr (p / q)) → Q (.ref c) H') : spOver K [.ref a, .ref b] H Q E := ⟨a, b, p, q, rfl, h1, h2, h3, h5, k⟩
theorem lessP_ (h1 : SqT K H a (fr p)) (h2 : SqT K H b (fr q)) (h3 : Pr p q) (k : Q (.bl (decide (p < q))) H) : spLess K [.ref a, .ref b] H Q E := ⟨a, b, p, q, rfl, h1, h2, h3, k⟩
theorem ratio_ {i j : Int} (h : 0 < j) (h2 : j.natAbs < 2 ^ 9000) (k : ∀ c H', Same H H' → SqT K H' c (fr (Rat.divInt i j)) → Q (.ref c) H') : spRatio K [.int i, .int j] H Q E := ⟨i, j, rfl, h, h2, k⟩
theorem whole_ {i : Int} (k : Q (.bl true) H) : spWhole [.int i] H Q E := ⟨i, rfl, k⟩
theorem isra_ (h1 : SqT K H a (fr q)) (k : Q (.bl true) H) : spIsRatio K [.ref a] H Q E := ⟨a, q, rfl, h1, k⟩
theorem mixed_ {c k : Int} (q : ∀ i : Int, Q (.int i) H) : spMixed [.int c, .int k] H Q E := ⟨c, k, rfl, q⟩
theorem next_ {n : Int} (s : Src H a) (h : 0 < n) (h2 : n < 2 ^ 64) (k : ∀ r H', 0 ≤ r → r < n → Src H' a → Frm a H H' → Q (.int r) H') : spNext [.ref a, .int n] H Q E := ⟨a, n, rfl, s, h, h2, k⟩
theorem part_ (s : Src H a) (k : ∀ p q H', SqT K H' p (fr q) → Bd 31 q → 0 ≤ q → Src H' a → Frm a H H' → Q (.ref p) H') : spPart K [.ref a] H Q E := ⟨a, rfl, s, k⟩
theorem anyp_ (s : Src H a) (k : ∀ p q H', SqT K H' p (fr q) → Bd 31 q → Src H' a → Frm a H H' → Q (.ref p) H') : spAnyPart K [.ref a] H Q E := ⟨a, rfl, s, k⟩
end
theorem bt_int : bootBuiltins "int" = some (.type "int") := by decide +kernel
theorem bt_bool : bootBuiltins "bool" = some (.type "bool") := by decide +kernel
theorem bt_str : bootBuiltins "str" = some (.type "str") := by decide +kernel
theorem bt_tuple : bootBuiltins "tuple" = some (.type "tuple") := by decide +kernel
theorem bt_list : bootBuiltins "list" = some (.type "list") := by decide +kernel
theorem bt_isinstance : bootBuiltins "isinstance" = some (.builtin "isinstance") := by decide +kernel
theorem bt_abs : bootBuiltins "abs" = some (.builtin "abs") := by decide +kernel
theorem bt_max : bootBuiltins "max" = some (.builtin "max") := by decide +kernel
theorem bt_min : bootBuiltins "min" = some (.builtin "min") := by decide +kernel
theorem bt_len : bootBuiltins "len" = some (.builtin "len") := by decide +kernel
theorem bt_repr : bootBuiltins "repr" = some (.builtin "repr") := by decide +kernel
theorem bt_sorted : bootBuiltins "sorted" = some (.builtin "sorted") := by decide +kernel
theorem bt_all : bootBuiltins "all" = some (.builtin "all") := by decide +kernel
theorem bt_any : bootBuiltins "any" = some (.builtin "any") := by decide +kernel
theorem set0_ {a : Addr} {H : Hp} {i j k z : Int} {P : Hp → Prop} (h : H a = some (.lst [.int i, .int j, .int k])) (q : P (upd H a (.lst [.int z, .int j, .int k]))) : rSetL (.ref a) (.int 0) (.int z) H P := ⟨a, _, 0, 0, rfl, rfl, h, rfl, q⟩
theorem set2_ {a : Addr} {H : Hp} {i j k z : Int} {P : Hp → Prop} (h : H a = some (.lst [.int i, .int j, .int k])) (q : P (upd H a (.lst [.int i, .int j, .int z]))) : rSetL (.ref a) (.int 2) (.int z) H P := ⟨a, _, 2, 2, rfl, rfl, h, rfl, q⟩
theorem fr_int (i : Int) : fr (i : Rat) = [.int i, .int 1] := rfl
theorem fr_neg (q : Rat) : fr (-q) = [.int (-q.num), .int (q.den : Int)] := rfl
theorem Bd.int {n : Nat} {i : Int} (h : i.natAbs < 2 ^ n) (h1 : 0 < n) : Bd n (i : Rat) := ⟨h, by
  rw [Rat.den_intCast]
  exact Nat.one_lt_two_pow (by omega)⟩
theorem Bd.div {n : Nat} {i j : Int} (hj : 0 < j) (h : i.natAbs < 2 ^ n) (h2 : j.natAbs < 2 ^ n) : Bd n (Rat.divInt i j) := by
  obtain ⟨m, rfl⟩ := Int.eq_ofNat_of_zero_le (Int.le_of_lt hj)
  rw [Rat.divInt_ofNat]
  exact Bd.mk (by omega) h (by rw [Int.natAbs_natCast] at h2; exact h2)

end FC

namespace FC
open PySem L2
/-! ### value_at: called with two values, with three, with before = .. -/
abbrev psV : List Str := ["curve", "x", "before"]
theorem kbinds1 {K : PySem.W.Frag} {x qual : Str} {params : Arguments} {body : List Stmt} {scope : Scope} {dvs : List V} {kws : List (Str × V)} {f : Addr} {fd : FuncData} {ps : List Str} (F : FunD K x qual params body scope dvs kws f fd) (n : Nat) (ks : List Str) (hd : dvs ≠ [])
    (h : ∀ (T : Addr) (kV doc pm : Value) (an : Option Addr) (cdv ct : Value) (us its ws : List Value), us.length = n → its.length = dvs.length → ws.length = ks.length →
      ∃ k, bindArgs (PySem.W.fnOf x qual params body scope (.ref T) kV doc pm an cdv ct) ⟨us, ks.zip ws⟩ = seqItems? (.ref T) >>= k ∧ k (some its.toArray) = pure (ps.zip (us ++ ws))) :
    KBn K fd ps n ks (fun us ws => us ++ ws) (fun vs zs => vs ++ zs) := by
  obtain ⟨oc, od, dV, kV, doc, pm, an, cdv, ct, osl, rfl, lk, hcd, hD, hK⟩ := F.ex
  rcases hD with ⟨e, _⟩ | ⟨_, T, o, its, m, rfl, lT, oT, rT⟩
  · exact absurd e hd
  · refine ⟨fun s us ws X l1 l2 => ?_, fun r1 r2 => r1.append r2⟩
    obtain ⟨k, e1, e2⟩ := h T kV doc pm an cdv ct us its ws l1 rT.length.symm l2
    refine BindsTo.of_looks fun M => ?_
    rw [e1]
    exact looks_items X lT oT (.of_pure e2)
structure GoodV (P : Program) (w : World) (K : PySem.W.Frag) (mg : Str → Option Value) (base : Heap) (k : Nat) (sp : Sp) : Prop where
  g : mg "value_at" = some (.ref (He.ga K "value_at"))
  kp : PySem.W.keepIn K (.ref (He.ga K "value_at")) = true
  fn : ∃ fd, (∃ ds, Vals [V.bl false] ds ∧ Binds K fd psV ds) ∧ (∃ ds, Vals [] ds ∧ Binds K fd psV ds) ∧ KBn K fd psV 2 ["before"] (fun us ws => us ++ ws) (fun vs zs => vs ++ zs) ∧ FnOk P w K mg base CX0 k (He.ga K "value_at") fd psV sp
section
variable {X : Cx} {k : Nat} {sp : Sp} {e : Expr} {es : List Expr} {t tk : TA} {p pos : Pos} {kws : List Keyword}
theorem pe_good2 (G : GoodV X.prog X.w X.K X.mg X.base k sp) (hr : Room k X.A) (ha : PA X (e :: es) t) (hg : Gl X "value_at" := by rfl)
    (he : starEach (e :: es) X.env = (false, eval e X.env) :: starEach es X.env := by rfl) (hpl : (backTo pos (starEach es X.env)).any (·.1) = false := by rfl) : PE X (.Call (.Name "value_at" p) (e :: es) [] pos) (tCall sp [.bl false] E0 t) := by
  obtain ⟨fd, ⟨ds, hv, hb⟩, _, _, F⟩ := G.fn
  exact pe_call F hr hg G.g G.kp hb hv pass0 ha (by decide) he hpl
theorem pe_good3 (G : GoodV X.prog X.w X.K X.mg X.base k sp) (hr : Room k X.A) (ha : PA X (e :: es) t) (hg : Gl X "value_at" := by rfl)
    (he : starEach (e :: es) X.env = (false, eval e X.env) :: starEach es X.env := by rfl) (hpl : (backTo pos (starEach es X.env)).any (·.1) = false := by rfl) : PE X (.Call (.Name "value_at" p) (e :: es) [] pos) (tCall sp [] E0 t) := by
  obtain ⟨fd, _, ⟨ds, hv, hb⟩, _, F⟩ := G.fn
  exact pe_call F hr hg G.g G.kp hb hv pass0 ha (by decide) he hpl
theorem pe_goodK (G : GoodV X.prog X.w X.K X.mg X.base k sp) (hr : Room k X.A) (ha : PA X (e :: es) t) (hk : PK X kws tk) (hg : Gl X "value_at" := by rfl)
    (hall : (backToKw pos (keywordEach kws X.env)).all (·.1.isSome) = true := by rfl) (hks : (backToKw pos (keywordEach kws X.env)).filterMap (·.1) = (["before"] : List Str) := by rfl)
    (he : starEach (e :: es) X.env = (false, eval e X.env) :: starEach es X.env := by rfl)
    (hpl : ((backTo pos (starEach (e :: es) X.env)).any (·.1) || (backToKw pos (keywordEach kws X.env)).any (·.1.isNone)) = false := by rfl) :
    PE X (.Call (.Name "value_at" p) (e :: es) kws pos) (tCallN 2 1 sp (fun vs zs => vs ++ zs) E0 t tk) := by
  obtain ⟨fd, _, _, hb, F⟩ := G.fn
  exact pe_callN F hr hg G.g G.kp hb pass0 ha hk hall hks (by decide) he hpl
end
section
variable {σ : L2.St} {H : Hp} {Q : VK} {E : XK} {sp : Sp} {t tk : TA}
def CatPost (ws : List V) (sp : Sp) (Q : VK) (E : XK) : List V → Hp → Prop := fun vs H1 => sp (vs ++ ws) H1 Q E
theorem xcall1 {d : V} (q : t σ H (CatPost [d] sp Q E)) : tCall sp [d] E t σ H Q := q
theorem cat2_ {a b d : V} (q : sp [a, b, d] H Q E) : CatPost [d] sp Q E [a, b] H := q
def KwPost (tk : TA) (σ : L2.St) (sp : Sp) (Q : VK) (E : XK) : List V → Hp → Prop := fun vs H1 => tk σ H1 fun zs H2 => vs.length = 2 ∧ zs.length = 1 ∧ sp (vs ++ zs) H2 Q E
def KwPost2 (vs : List V) (sp : Sp) (Q : VK) (E : XK) : List V → Hp → Prop := fun zs H2 => vs.length = 2 ∧ zs.length = 1 ∧ sp (vs ++ zs) H2 Q E
theorem xcallK (q : t σ H (KwPost tk σ sp Q E)) : tCallN 2 1 sp (fun vs zs => vs ++ zs) E t tk σ H Q := q
theorem kw1_ {vs : List V} (q : tk σ H (KwPost2 vs sp Q E)) : KwPost tk σ sp Q E vs H := q
theorem kw2_ {a b d : V} (q : sp [a, b, d] H Q E) : KwPost2 [a, b] sp Q E [d] H := ⟨rfl, rfl, q⟩
end
/-! ### what a tuple says stays -/
def Tp (K : PySem.W.Frag) (H H' : Hp) : Prop := ∀ b xs, SqT K H b xs → SqT K H' b xs
theorem Tp.refl (K : PySem.W.Frag) (H : Hp) : Tp K H H := fun _ _ h => h
theorem Tp.trans {K : PySem.W.Frag} {H H1 H2 : Hp} (a : Tp K H H1) (b : Tp K H1 H2) : Tp K H H2 := fun c xs h => b c xs (a c xs h)
theorem Tp.same {K : PySem.W.Frag} {H H1 : Hp} (e : Same H H1) : Tp K H H1 := fun _ _ h => Same.sqT e h
theorem Tp.frm {K : PySem.W.Frag} {a : Addr} {H H1 : Hp} (f : Frm a H H1) (s : Src H a) : Tp K H H1 := fun _ _ h => Frm.sqT f s h
theorem Tp.lst {K : PySem.W.Frag} {D : Addr} {H : Hp} {ys zs : List V} (h : H D = some (.lst ys)) : Tp K H (upd H D (.lst zs)) := fun b xs hb => by
  rcases hb with (hb | ⟨o, hb⟩) | hb
  · exact .inl (.inl (by rw [upd_ne (ne_of hb h (by intro z; cases z))]; exact hb))
  · exact .inl (.inr ⟨o, by rw [upd_ne (ne_of hb h (by intro z; cases z))]; exact hb⟩)
  · exact .inr hb
theorem Tp.new {K : PySem.W.Frag} {D : Addr} {H : Hp} {o : HO} (h : H D = none) : Tp K H (upd H D o) := Tp.same (same_upd h)
/-- a fraction of at most n bits -/
def Fr (K : PySem.W.Frag) (n : Nat) (y : V) (H : Hp) : Prop := ∃ p q, y = .ref p ∧ SqT K H p (fr q) ∧ Bd n q
theorem Fr.tp {K : PySem.W.Frag} {n : Nat} {y : V} {H H' : Hp} (h : Fr K n y H) (t : Tp K H H') : Fr K n y H' := by
  obtain ⟨p, q, e, hq, b⟩ := h
  exact ⟨p, q, e, t _ _ hq, b⟩
theorem Fr.mono {K : PySem.W.Frag} {n m : Nat} {y : V} {H : Hp} (h : Fr K n y H) (l : n ≤ m) : Fr K m y H := by
  obtain ⟨p, q, e, hq, b⟩ := h
  exact ⟨p, q, e, hq, b.mono l⟩
/-! ### comprehensions -/
section
variable {K : PySem.W.Frag} {σ : L2.St} {H : Hp} {Q : VK} {te tl : TE} {ta : TA} {g : TG} {tt : TT} {vs : List Nat} {a : Addr}
theorem xyes {P : Bool → Hp → Prop} (q : P true H) : tYes σ H P := q
def LcBody (D : Addr) (N : Hp → Prop) : VK := fun y H4 => ∃ acc, H4 D = some (.lst acc) ∧ acc.length < sizeLine ∧ N (upd H4 D (.lst (acc ++ [y])))
def LcT (K : PySem.W.Frag) (g : TG) (tt : TT) (te : TE) (vs : List Nat) (σ : L2.St) (Q : VK) : VK := fun x H1 => ∃ a, x = .ref a ∧ (∃ xs, SqT K H1 a xs) ∧ ∀ D, H1 D = none → ∃ W : Nat → Nat → Hp → Prop, (∃ m, W 0 m (upd H1 D (.lst []))) ∧ ∀ i m H, W i m H →
  ((Itt K a).stop i H ∧ Q (.ref D) H) ∨ ((Itt K a).go i H ∧ ∃ Nx : Hp → Prop, (∀ H', Nx H' → ∃ m', m' < m ∧ W (i + 1) m' H') ∧ ∀ x H', (Itt K a).yld i H x H' → g x (wipe σ vs) H' fun σ2 H2 => wipe σ2 vs = wipe σ vs ∧ tt σ2 H2 fun b H3 =>
    if b = true then te σ2 H3 fun y H4 => ∃ acc, H4 D = some (.lst acc) ∧ acc.length < sizeLine ∧ Nx (upd H4 D (.lst (acc ++ [y]))) else Nx H3)
def LcL (K : PySem.W.Frag) (g : TG) (tt : TT) (te : TE) (vs : List Nat) (σ : L2.St) (Q : VK) : VK := fun x H1 => ∃ a, x = .ref a ∧ (∃ xs, SqL K H1 a xs) ∧ ∀ D, H1 D = none → ∃ W : Nat → Nat → Hp → Prop, (∃ m, W 0 m (upd H1 D (.lst []))) ∧ ∀ i m H, W i m H →
  ((Itl K a).stop i H ∧ Q (.ref D) H) ∨ ((Itl K a).go i H ∧ ∃ Nx : Hp → Prop, (∀ H', Nx H' → ∃ m', m' < m ∧ W (i + 1) m' H') ∧ ∀ x H', (Itl K a).yld i H x H' → g x (wipe σ vs) H' fun σ2 H2 => wipe σ2 vs = wipe σ vs ∧ tt σ2 H2 fun b H3 =>
    if b = true then te σ2 H3 fun y H4 => ∃ acc, H4 D = some (.lst acc) ∧ acc.length < sizeLine ∧ Nx (upd H4 D (.lst (acc ++ [y]))) else Nx H3)
def LcR (lo : Int) (n : Nat) (g : TG) (tt : TT) (te : TE) (vs : List Nat) (σ : L2.St) (Q : VK) (H1 : Hp) : Prop := ∀ D, H1 D = none → ∃ W : Nat → Nat → Hp → Prop, (∃ m, W 0 m (upd H1 D (.lst []))) ∧ ∀ i m H, W i m H →
  ((Itr lo n).stop i H ∧ Q (.ref D) H) ∨ ((Itr lo n).go i H ∧ ∃ Nx : Hp → Prop, (∀ H', Nx H' → ∃ m', m' < m ∧ W (i + 1) m' H') ∧ ∀ x H', (Itr lo n).yld i H x H' → g x (wipe σ vs) H' fun σ2 H2 => wipe σ2 vs = wipe σ vs ∧ tt σ2 H2 fun b H3 =>
    if b = true then te σ2 H3 fun y H4 => ∃ acc, H4 D = some (.lst acc) ∧ acc.length < sizeLine ∧ Nx (upd H4 D (.lst (acc ++ [y]))) else Nx H3)
theorem xlcT (q : tl σ H (LcT K g tt te vs σ Q)) : tLc (iTup K tl) g tt te vs σ H Q := q
theorem xlcL (q : tl σ H (LcL K g tt te vs σ Q)) : tLc (iList K tl) g tt te vs σ H Q := q
def RngPost (P : Int → Nat → Hp → Prop) : List V → Hp → Prop := fun xs H1 => ∃ j : Int, xs = [.int j] ∧ -(2 ^ 62) ≤ j ∧ j < 2 ^ 62 ∧ P 0 j.toNat H1
theorem xlcR (q : ta σ H (RngPost fun lo n H1 => LcR lo n g tt te vs σ Q H1)) : tLc (iRng1 ta) g tt te vs σ H Q := q
theorem rng_ {P : Int → Nat → Hp → Prop} {j : Int} (h0 : -(2 ^ 62) ≤ j) (h1 : j < 2 ^ 62) (q : P 0 j.toNat H) : RngPost P [.int j] H := ⟨j, rfl, h0, h1, q⟩
def Rng2Post (P : Int → Nat → Hp → Prop) : List V → Hp → Prop := fun xs H1 => ∃ i j : Int, xs = [.int i, .int j] ∧ (-(2 ^ 62) ≤ i ∧ i < 2 ^ 62 ∧ -(2 ^ 62) ≤ j ∧ j < 2 ^ 62) ∧ P i (j - i).toNat H1
theorem xlcR2 (q : ta σ H (Rng2Post fun lo n H1 => LcR lo n g tt te vs σ Q H1)) : tLc (iRng2 ta) g tt te vs σ H Q := q
theorem rng2_ {P : Int → Nat → Hp → Prop} {i j : Int} (h0 : -(2 ^ 62) ≤ i ∧ i < 2 ^ 62 ∧ -(2 ^ 62) ≤ j ∧ j < 2 ^ 62) (q : P i (j - i).toNat H) : Rng2Post P [.int i, .int j] H := ⟨i, j, rfl, h0, q⟩
/-- all made items, told by their turn -/
def AllAt (Item : Nat → V → Hp → Prop) (ys : List V) (H : Hp) : Prop := ∀ i y, ys[i]? = some y → Item i y H
theorem AllAt.add {Item : Nat → V → Hp → Prop} {ys : List V} {y : V} {H H' : Hp} (h : AllAt Item ys H) (st : ∀ i y, Item i y H → Item i y H') (hy : Item ys.length y H') : AllAt Item (ys ++ [y]) H' := by
  intro i z hz
  by_cases hi : i < ys.length
  · rw [List.getElem?_append_left hi] at hz
    exact st i z (h i z hz)
  · rw [List.getElem?_append_right (by omega)] at hz
    have : i - ys.length = 0 := by
      cases e : i - ys.length with
      | zero => rfl
      | succ k =>
        rw [e] at hz
        simp at hz
    rw [this] at hz
    have e : i = ys.length := by omega
    subst e
    have : y = z := Option.some.inj hz
    subst this
    exact hy
/-- what holds ahead of turn i of a comprehension whose items may draw from the source at a: D the list -/
def LcInvF (a : Addr) (Item : Nat → V → Hp → Prop) (H0 : Hp) (D : Addr) (i : Nat) (H : Hp) : Prop := Src H a ∧ Frm a H0 H ∧ ∃ ys, H D = some (.lst ys) ∧ ys.length = i ∧ AllAt Item ys H
theorem LcInvF.next {Item : Nat → V → Hp → Prop} {H0 H H' : Hp} {D : Addr} {i n : Nat} {y : V} (st : ∀ i y H H', Item i y H → Tp K H H' → Item i y H') (hD : H0 D = none) (ne : D ≠ a) (v : LcInvF a Item H0 D i H) (hi : i < n) (hn : n ≤ 100000) (s : Src H' a) (f : Frm a H H') (hy : Item i y H') :
    LcBody D (LcInvF a Item H0 D (i + 1)) y H' := by
  obtain ⟨s0, f0, ys, e, l, al⟩ := v
  have e' : H' D = some (.lst ys) := f _ _ ne e
  refine ⟨ys, e', Nat.lt_of_lt_of_le (by omega : ys.length < 100000) (by decide), ?_, ?_, ys ++ [y], upd_same, by simp [l], ?_⟩
  · obtain ⟨i1, j1, k1, hs⟩ := s
    exact ⟨i1, j1, k1, by rw [upd_ne ne.symm]; exact hs⟩
  · intro b o nb hb
    rw [upd_ne (ne_of_none hb hD)]
    exact f _ _ nb (f0 _ _ nb hb)
  · have t : Tp K H (upd H' D (.lst (ys ++ [y]))) := (Tp.frm f s0).trans (Tp.lst e')
    refine al.add (fun i z hz => st i z _ _ hz t) ?_
    rw [l]
    exact st _ _ _ _ hy (Tp.lst e')
/-- over a tuple -/
theorem lcTF {b : Addr} {xs : List V} {i0 : Nat} (Item : Nat → V → Hp → Prop) (st : ∀ i y H H', Item i y H → Tp K H H' → Item i y H') (h : SqT K H b xs) (s : Src H a) (hn : xs.length ≤ 100000)
    (body : ∀ i x H' (Q' : VK), xs[i]? = some x → Src H' a → Frm a H H' → (∀ y H'', Src H'' a → Frm a H' H'' → Item i y H'' → Q' y H'') → te ((wipe σ [i0]).set i0 (some x)) H' Q')
    (k : ∀ D ys H', H D = none → Src H' a → Frm a H H' → H' D = some (.lst ys) → ys.length = xs.length → AllAt Item ys H' → Q (.ref D) H') :
    LcT K (gName i0) tYes te [i0] σ Q (.ref b) H := by
  refine ⟨b, rfl, ⟨_, h⟩, fun D hD => ?_⟩
  have ne : D ≠ a := s.ne hD
  refine lc_tup (K := K) (a := b) (xs := xs) (LcInvF a Item H D) ⟨?_, ?_, [], upd_same, rfl, fun i y e => by simp at e⟩ ?_ ?_ ?_
  · obtain ⟨i1, j1, k1, hs⟩ := s
    exact ⟨i1, j1, k1, by rw [upd_ne ne.symm]; exact hs⟩
  · exact Frm.of (same_upd hD)
  · intro i H' _ v
    exact Frm.sqT v.2.1 s h
  · intro i x H' hx v
    refine ⟨?_, ?_⟩
    · show wipe (((wipe σ [i0])).set i0 (some x)) [i0] = wipe σ [i0]
      show (((σ.set i0 none).set i0 (some x)).set i0 none) = σ.set i0 none
      rw [List.set_set, List.set_set]
    · refine xyes ?_
      refine wTt ?_
      refine body i x H' _ hx v.1 v.2.1 fun y H'' s2 f2 it => ?_
      have hi : i < xs.length := (List.getElem?_eq_some_iff.mp hx).1
      exact LcInvF.next (K := K) st hD ne v hi hn s2 f2 it
  · rintro H' ⟨s2, f2, ys, e, l, al⟩
    exact k D ys H' hD s2 f2 e l al
/-- over a range from 0 -/
theorem lcRF {n : Nat} {i0 : Nat} (Item : Nat → V → Hp → Prop) (st : ∀ i y H H', Item i y H → Tp K H H' → Item i y H') (s : Src H a) (hn : n ≤ 100000)
    (body : ∀ i H' (Q' : VK), i < n → Src H' a → Frm a H H' → (∀ y H'', Src H'' a → Frm a H' H'' → Item i y H'' → Q' y H'') → te ((wipe σ [i0]).set i0 (some (.int (0 + (i : Int))))) H' Q')
    (k : ∀ D ys H', H D = none → Src H' a → Frm a H H' → H' D = some (.lst ys) → ys.length = n → AllAt Item ys H' → Q (.ref D) H') :
    LcR 0 n (gName i0) tYes te [i0] σ Q H := by
  intro D hD
  have ne : D ≠ a := s.ne hD
  refine lc_range (lo := 0) (n := n) (LcInvF a Item H D) ⟨?_, ?_, [], upd_same, rfl, fun i y e => by simp at e⟩ ?_ ?_
  · obtain ⟨i1, j1, k1, hs⟩ := s
    exact ⟨i1, j1, k1, by rw [upd_ne ne.symm]; exact hs⟩
  · exact Frm.of (same_upd hD)
  · intro i H' hi v
    refine ⟨?_, ?_⟩
    · show (((σ.set i0 none).set i0 (some (.int (0 + (i : Int))))).set i0 none) = σ.set i0 none
      rw [List.set_set, List.set_set]
    · refine xyes ?_
      refine wTt ?_
      refine body i H' _ hi v.1 v.2.1 fun y H'' s2 f2 it => ?_
      exact LcInvF.next (K := K) st hD ne v hi hn s2 f2 it
  · rintro H' ⟨s2, f2, ys, e, l, al⟩
    exact k D ys H' hD s2 f2 e l al
end
end FC

namespace FC
open PySem L2
/-! ### == of fractions and of lists of fractions -/
def frD (q : Rat) : PyData := .tuple [.int q.num, .int (q.den : Int)]
section
variable {K : PySem.W.Frag} {H : Hp} {Q : VK}
theorem dp_fr {p : Addr} {q : Rat} (h : SqT K H p (fr q)) : Dp K H (.ref p) (frD q) := .tup h (.cons (.int _) (.cons (.int _) .nil))
theorem sh_fr (q : Rat) : SeqAt.shaped (frD q) = true := by
  unfold SeqAt.shaped frD
  rfl
theorem eqv_fr (p q : Rat) : PyData.eqv (frD p) (frD q) = decide (p = q) := by
  unfold frD
  simp only [PyData.eqv, PyData.eqvAll, Bool.and_true]
  by_cases h : p = q
  · subst h
    simp
  · rw [decide_eq_false h]
    cases e : (p.num == q.num) with
    | false => rfl
    | true =>
      have e1 : p.num = q.num := by simpa using e
      have e2 : ¬ (p.den : Int) = (q.den : Int) := fun z => h (fr_inj e1 z)
      simpa using e2
theorem neD_ {a b : Addr} {p q : Rat} (h1 : SqT K H a (fr p)) (h2 : SqT K H b (fr q)) (k : Q (.bl (!decide (p = q))) H) : rNeD K (.ref a) (.ref b) H Q :=
  ⟨_, _, dp_fr h1, dp_fr h2, sh_fr p, sh_fr q, by rw [eqv_fr]; exact k⟩
theorem eqD_ {a b : Addr} {p q : Rat} (h1 : SqT K H a (fr p)) (h2 : SqT K H b (fr q)) (k : Q (.bl (decide (p = q))) H) : rEqD K (.ref a) (.ref b) H Q :=
  ⟨_, _, dp_fr h1, dp_fr h2, sh_fr p, sh_fr q, by rw [eqv_fr]; exact k⟩
/-- a list of these fractions -/
def FrL (K : PySem.W.Frag) (H : Hp) : List V → List Rat → Prop
  | [], [] => True
  | y :: ys, q :: qs => (∃ p, y = .ref p ∧ SqT K H p (fr q)) ∧ FrL K H ys qs
  | _, _ => False
theorem FrL.tp {H' : Hp} : ∀ {ys : List V} {qs : List Rat}, FrL K H ys qs → Tp K H H' → FrL K H' ys qs
  | [], [], _, _ => trivial
  | y :: ys, q :: qs, h, t => by
    obtain ⟨⟨p, e, hp⟩, r⟩ := h
    exact ⟨⟨p, e, t _ _ hp⟩, FrL.tp r t⟩
  | [], _ :: _, h, _ => h.elim
  | _ :: _, [], h, _ => h.elim
theorem FrL.dp : ∀ {ys : List V} {qs : List Rat}, FrL K H ys qs → DpAll K H ys (qs.map frD)
  | [], [], _ => .nil
  | y :: ys, q :: qs, h => by
    obtain ⟨⟨p, e, hp⟩, r⟩ := h
    subst e
    exact .cons (dp_fr hp) (FrL.dp r)
  | [], _ :: _, h => h.elim
  | _ :: _, [], h => h.elim
theorem FrL.of : ∀ {ys : List V} {qs : List Rat}, ys.length = qs.length → (∀ (i : Nat) (y : V) (q : Rat), ys[i]? = some y → qs[i]? = some q → ∃ p, y = .ref p ∧ SqT K H p (fr q)) → FrL K H ys qs
  | [], [], _, _ => trivial
  | y :: ys, q :: qs, l, h => ⟨h 0 y q rfl rfl, FrL.of (by simpa using l) fun i z r h1 h2 => h (i + 1) z r h1 h2⟩
  | [], _ :: _, l, _ => by simp at l
  | _ :: _, [], l, _ => by simp at l
theorem eqvAll_fr : ∀ (ps : List Rat), PyData.eqvAll (ps.map frD) (ps.map frD) = true
  | [] => rfl
  | p :: ps => by
    show (PyData.eqv (frD p) (frD p) && PyData.eqvAll (ps.map frD) (ps.map frD)) = true
    rw [eqv_fr, eqvAll_fr ps]
    simp
theorem neL_ {a b : Addr} {xs ys : List V} {qs : List Rat} (h1 : SqL K H a xs) (h2 : SqL K H b ys) (f1 : FrL K H xs qs) (f2 : FrL K H ys qs) (hs : SeqAt.shaped (.list (qs.map frD)) = true) (k : Q (.bl false) H) : rNeD K (.ref a) (.ref b) H Q :=
  ⟨.list (qs.map frD), .list (qs.map frD), .lst h1 f1.dp, .lst h2 f2.dp, hs, hs, by
    have e : PyData.eqv (.list (qs.map frD)) (.list (qs.map frD)) = true := by
      simp only [PyData.eqv]
      exact eqvAll_fr qs
    rw [e]
    exact k⟩
theorem eqL_ {a b : Addr} {xs ys : List V} {qs : List Rat} (h1 : SqL K H a xs) (h2 : SqL K H b ys) (f1 : FrL K H xs qs) (f2 : FrL K H ys qs) (hs : SeqAt.shaped (.list (qs.map frD)) = true) (k : Q (.bl true) H) : rEqD K (.ref a) (.ref b) H Q :=
  ⟨.list (qs.map frD), .list (qs.map frD), .lst h1 f1.dp, .lst h2 f2.dp, hs, hs, by
    have e : PyData.eqv (.list (qs.map frD)) (.list (qs.map frD)) = true := by
      simp only [PyData.eqv]
      exact eqvAll_fr qs
    rw [e]
    exact k⟩
end
/-! ### what holds ahead of turn i of a comprehension that changes nothing -/
section
variable {K : PySem.W.Frag} {σ : L2.St} {H : Hp} {Q : VK} {te : TE} {a : Addr}
def LcInvS (Item : Nat → V → Hp → Prop) (H0 : Hp) (D : Addr) (i : Nat) (H : Hp) : Prop := Same H0 H ∧ ∃ ys, H D = some (.lst ys) ∧ ys.length = i ∧ AllAt Item ys H
theorem LcInvS.next {Item : Nat → V → Hp → Prop} {H0 H H' : Hp} {D : Addr} {i n : Nat} {y : V} (st : ∀ i y H H', Item i y H → Tp K H H' → Item i y H') (hD : H0 D = none) (v : LcInvS Item H0 D i H) (hi : i < n) (hn : n ≤ 100000) (f : Same H H') (hy : Item i y H') :
    LcBody D (LcInvS Item H0 D (i + 1)) y H' := by
  obtain ⟨f0, ys, e, l, al⟩ := v
  have e' : H' D = some (.lst ys) := f _ _ e
  refine ⟨ys, e', Nat.lt_of_lt_of_le (by omega : ys.length < 100000) (by decide), ?_, ys ++ [y], upd_same, by simp [l], ?_⟩
  · intro b o hb
    rw [upd_ne (ne_of_none hb hD)]
    exact f _ _ (f0 _ _ hb)
  · have t : Tp K H (upd H' D (.lst (ys ++ [y]))) := (Tp.same f).trans (Tp.lst e')
    refine al.add (fun i z hz => st i z _ _ hz t) ?_
    rw [l]
    exact st _ _ _ _ hy (Tp.lst e')
/-- over a list that stays, nothing else changed -/
theorem lcLS {b : Addr} {xs : List V} {i0 : Nat} (Item : Nat → V → Hp → Prop) (st : ∀ i y H H', Item i y H → Tp K H H' → Item i y H') (h : SqL K H b xs) (hn : xs.length ≤ 100000)
    (body : ∀ i x H' (Q' : VK), xs[i]? = some x → Same H H' → (∀ y H'', Same H' H'' → Item i y H'' → Q' y H'') → te ((wipe σ [i0]).set i0 (some x)) H' Q')
    (k : ∀ D ys H', H D = none → Same H H' → H' D = some (.lst ys) → ys.length = xs.length → AllAt Item ys H' → Q (.ref D) H') :
    LcL K (gName i0) tYes te [i0] σ Q (.ref b) H := by
  refine ⟨b, rfl, ⟨_, h⟩, fun D hD => ?_⟩
  refine lc_list (K := K) (a := b) (xs := xs) (LcInvS Item H D) ⟨same_upd hD, [], upd_same, rfl, fun i y e => by simp at e⟩ ?_ ?_ ?_
  · intro i H' _ v
    exact Same.seq v.1 h
  · intro i x H' hx v
    refine ⟨?_, ?_⟩
    · show (((σ.set i0 none).set i0 (some x)).set i0 none) = σ.set i0 none
      rw [List.set_set, List.set_set]
    · refine xyes ?_
      refine wTt ?_
      refine body i x H' _ hx v.1 fun y H'' f2 it => ?_
      have hi : i < xs.length := (List.getElem?_eq_some_iff.mp hx).1
      exact LcInvS.next (K := K) st hD v hi hn f2 it
  · rintro H' ⟨f2, ys, e, l, al⟩
    exact k D ys H' hD f2 e l al
theorem lcTS {b : Addr} {xs : List V} {i0 : Nat} (Item : Nat → V → Hp → Prop) (st : ∀ i y H H', Item i y H → Tp K H H' → Item i y H') (h : SqT K H b xs) (hn : xs.length ≤ 100000)
    (body : ∀ i x H' (Q' : VK), xs[i]? = some x → Same H H' → (∀ y H'', Same H' H'' → Item i y H'' → Q' y H'') → te ((wipe σ [i0]).set i0 (some x)) H' Q')
    (k : ∀ D ys H', H D = none → Same H H' → H' D = some (.lst ys) → ys.length = xs.length → AllAt Item ys H' → Q (.ref D) H') :
    LcT K (gName i0) tYes te [i0] σ Q (.ref b) H := by
  refine ⟨b, rfl, ⟨_, h⟩, fun D hD => ?_⟩
  refine lc_tup (K := K) (a := b) (xs := xs) (LcInvS Item H D) ⟨same_upd hD, [], upd_same, rfl, fun i y e => by simp at e⟩ ?_ ?_ ?_
  · intro i H' _ v
    exact Same.sqT v.1 h
  · intro i x H' hx v
    refine ⟨?_, ?_⟩
    · show (((σ.set i0 none).set i0 (some x)).set i0 none) = σ.set i0 none
      rw [List.set_set, List.set_set]
    · refine xyes ?_
      refine wTt ?_
      refine body i x H' _ hx v.1 fun y H'' f2 it => ?_
      have hi : i < xs.length := (List.getElem?_eq_some_iff.mp hx).1
      exact LcInvS.next (K := K) st hD v hi hn f2 it
  · rintro H' ⟨f2, ys, e, l, al⟩
    exact k D ys H' hD f2 e l al
end
/-! ### lists joined, drawn from -/
theorem cat_ {l b : Addr} {xs zs : List V} {H : Hp} {Q : VK} (h1 : H l = some (.lst xs)) (h2 : H b = some (.lst zs)) (hn : xs.length + zs.length ≤ 10000) (q : ∀ p H', H p = none → Same H H' → H' p = some (.lst (xs ++ zs)) → Q (.ref p) H') : rCat (.ref l) (.ref b) H Q :=
  ⟨l, b, xs, zs, rfl, rfl, h1, h2, szN hn, fun p hp => q p _ hp (same_upd hp) upd_same⟩
theorem one_ {K : PySem.W.Frag} {a t : Addr} {xs : List V} {H : Hp} {Q : VK} {E : XK} (s : Src H a) (h : (SqL K H t xs ∧ t ≠ a) ∨ SqT K H t xs) (h0 : 0 < xs.length) (h1 : xs.length < 10000) (q : ∀ v H', v ∈ xs → Src H' a → Frm a H H' → Q v H') : spOne K [.ref a, .ref t] H Q E := ⟨a, t, xs, rfl, s, h, h0, h1, q⟩
theorem Src.neL {a b : Addr} {H H' : Hp} {xs : List V} (s : Src H a) (hn : H b = none) : b ≠ a := s.ne hn
/-! ### loops -/
section
variable {K : PySem.W.Frag} {σ : L2.St} {H : Hp} {D : Ends} {g : TG} {tb : TS} {tl : TE} {ta : TA}
def ForL (K : PySem.W.Frag) (g : TG) (tb : TS) (D : Ends) (σ : L2.St) : VK := fun x H1 => ∃ a, x = .ref a ∧ (∃ xs, SqL K H1 a xs) ∧ ∃ W : Nat → Nat → L2.St → Hp → Prop, (∃ m, W 0 m σ H1) ∧ ∀ i m σ H, W i m σ H →
  ((Itl K a).stop i H ∧ D.nx σ H) ∨ ((Itl K a).go i H ∧ ∃ N : L2.St → Hp → Prop, (∀ σ' H', N σ' H' → ∃ m', m' < m ∧ W (i + 1) m' σ' H') ∧ ∀ x H', (Itl K a).yld i H x H' → g x σ H' fun σ2 H2 => tb { D with nx := N, ct := N, bk := D.nx } σ2 H2)
def ForT (K : PySem.W.Frag) (g : TG) (tb : TS) (D : Ends) (σ : L2.St) : VK := fun x H1 => ∃ a, x = .ref a ∧ (∃ xs, SqT K H1 a xs) ∧ ∃ W : Nat → Nat → L2.St → Hp → Prop, (∃ m, W 0 m σ H1) ∧ ∀ i m σ H, W i m σ H →
  ((Itt K a).stop i H ∧ D.nx σ H) ∨ ((Itt K a).go i H ∧ ∃ N : L2.St → Hp → Prop, (∀ σ' H', N σ' H' → ∃ m', m' < m ∧ W (i + 1) m' σ' H') ∧ ∀ x H', (Itt K a).yld i H x H' → g x σ H' fun σ2 H2 => tb { D with nx := N, ct := N, bk := D.nx } σ2 H2)
def ForR (g : TG) (tb : TS) (D : Ends) (σ : L2.St) (lo : Int) (n : Nat) (H1 : Hp) : Prop := ∃ W : Nat → Nat → L2.St → Hp → Prop, (∃ m, W 0 m σ H1) ∧ ∀ i m σ H, W i m σ H →
  ((Itr lo n).stop i H ∧ D.nx σ H) ∨ ((Itr lo n).go i H ∧ ∃ N : L2.St → Hp → Prop, (∀ σ' H', N σ' H' → ∃ m', m' < m ∧ W (i + 1) m' σ' H') ∧ ∀ x H', (Itr lo n).yld i H x H' → g x σ H' fun σ2 H2 => tb { D with nx := N, ct := N, bk := D.nx } σ2 H2)
theorem xforL (q : tl σ H (ForL K g tb D σ)) : tFor (iList K tl) g tb D σ H := q
theorem xforT (q : tl σ H (ForT K g tb D σ)) : tFor (iTup K tl) g tb D σ H := q
theorem xforR (q : ta σ H (RngPost (ForR g tb D σ))) : tFor (iRng1 ta) g tb D σ H := q
theorem xforR2 (q : ta σ H (Rng2Post (ForR g tb D σ))) : tFor (iRng2 ta) g tb D σ H := q
theorem forL_ {b : Addr} {xs : List V} (h : SqL K H b xs) (Pv : Nat → L2.St → Hp → Prop) (h0 : Pv 0 σ H) (hl : ∀ i σ H, i ≤ xs.length → Pv i σ H → SqL K H b xs)
    (hs : ∀ i x σ H, xs[i]? = some x → Pv i σ H → g x σ H fun σ2 H2 => tb { D with nx := Pv (i + 1), ct := Pv (i + 1), bk := D.nx } σ2 H2) (hd : ∀ σ H, Pv xs.length σ H → D.nx σ H) : ForL K g tb D σ (.ref b) H :=
  ⟨b, rfl, ⟨_, h⟩, for_list Pv h0 hl hs hd⟩
theorem forT_ {b : Addr} {xs : List V} (h : SqT K H b xs) (Pv : Nat → L2.St → Hp → Prop) (h0 : Pv 0 σ H) (hl : ∀ i σ H, i ≤ xs.length → Pv i σ H → SqT K H b xs)
    (hs : ∀ i x σ H, xs[i]? = some x → Pv i σ H → g x σ H fun σ2 H2 => tb { D with nx := Pv (i + 1), ct := Pv (i + 1), bk := D.nx } σ2 H2) (hd : ∀ σ H, Pv xs.length σ H → D.nx σ H) : ForT K g tb D σ (.ref b) H :=
  ⟨b, rfl, ⟨_, h⟩, for_tup Pv h0 hl hs hd⟩
theorem forR_ {lo : Int} {n : Nat} (Pv : Nat → L2.St → Hp → Prop) (h0 : Pv 0 σ H)
    (hs : ∀ i σ H, i < n → Pv i σ H → g (.int (lo + i)) σ H fun σ2 H2 => tb { D with nx := Pv (i + 1), ct := Pv (i + 1), bk := D.nx } σ2 H2) (hd : ∀ σ H, Pv n σ H → D.nx σ H) : ForR g tb D σ lo n H := for_range Pv h0 hs hd
end
theorem SqL.keepN {K : PySem.W.Frag} {H H' : Hp} {b p : Addr} {xs : List V} (h : SqL K H b xs) (n : H p = none) (f : ∀ c o, c ≠ p → H c = some o → H' c = some o) : SqL K H' b xs := by
  rcases h with (h | ⟨o, h⟩) | h
  · exact .inl (.inl (f _ _ (ne_of_none h n) h))
  · exact .inl (.inr ⟨o, f _ _ (ne_of_none h n) h⟩)
  · exact .inr h
def spRight : Sp := fun vs H Q _ => ∃ a : Addr, vs = [.ref a] ∧ Src H a ∧ ∀ H', Src H' a → Frm a H H' → Q (.bl true) H'
theorem right_ {a : Addr} {H : Hp} {Q : VK} {E : XK} (s : Src H a) (k : ∀ H', Src H' a → Frm a H H' → Q (.bl true) H') : spRight [.ref a] H Q E := ⟨a, rfl, s, k⟩
def spLaw (K : PySem.W.Frag) : Sp := fun vs H Q _ => ∃ (a : Addr) (ns : List Int), vs = [.ref a] ∧ SqL K H a (ns.map V.int) ∧ ns.length ≤ 63 ∧ ∀ H', Q (.bl true) H'
theorem Same.trk {H H' : Hp} {b : Addr} {o : HO} (e : Same H H') (h : H b = some o) : H' b = some o := e _ _ h
theorem Frm.trk {a : Addr} {H H' : Hp} {b : Addr} {o : HO} (f : Frm a H H') (n : b ≠ a) (h : H b = some o) : H' b = some o := f _ _ n h
theorem small9 {n : Nat} (h : n < 2 ^ 64) : n < 2 ^ 9000 := pow_up h (by decide)
theorem mem4 {α : Type} {P : α → Prop} {a b c d : α} (h1 : P a) (h2 : P b) (h3 : P c) (h4 : P d) : ∀ v ∈ [a, b, c, d], P v := by
  intro v hv
  simp only [List.mem_cons, List.not_mem_nil, or_false] at hv
  rcases hv with rfl | rfl | rfl | rfl <;> assumption
theorem mem2 {α : Type} {P : α → Prop} {a b : α} (h1 : P a) (h2 : P b) : ∀ v ∈ [a, b], P v := by
  intro v hv
  simp only [List.mem_cons, List.not_mem_nil, or_false] at hv
  rcases hv with rfl | rfl <;> assumption
theorem memA {α : Type} {P : α → Prop} {xs ys : List α} (h1 : ∀ v ∈ xs, P v) (h2 : ∀ v ∈ ys, P v) : ∀ v ∈ xs ++ ys, P v := fun v hv => (List.mem_append.mp hv).elim (h1 v) (h2 v)
theorem AllAt.mem {Item : V → Hp → Prop} {ys : List V} {H : Hp} (h : AllAt (fun _ => Item) ys H) : ∀ y ∈ ys, Item y H := fun y hy => by
  obtain ⟨i, hi⟩ := List.getElem?_of_mem hy
  exact h i y hi
theorem gunl2_ {K : PySem.W.Frag} {a : Addr} {x y : V} {n : Nat} {σ : L2.St} {H : Hp} {P : L2.St → Hp → Prop} {ga gb : TG} (h : SqL K H a [x, y]) (hn : n = 2) (q : ga x σ H fun σ' H' => gb y σ' H' P) : gUnl K n (gCons ga (gCons gb gNil)) (.ref a) σ H P := by
  subst hn
  refine ⟨a, _, rfl, h, rfl, x, [y], rfl, ?_⟩
  have e : (fun σ' H' => gCons gb gNil [y] σ' H' P) = fun σ' H' => gb y σ' H' P := by
    funext σ' H'
    have z : (fun σ' H' => gNil [] σ' H' P) = P := by
      funext σ' H'
      exact propext ⟨fun ⟨_, q⟩ => q, fun q => ⟨rfl, q⟩⟩
    refine propext ⟨fun ⟨v, r, e, q⟩ => ?_, fun q => ⟨y, [], rfl, ?_⟩⟩
    · injection e with e1 e2
      subst e1 e2
      rw [z] at q
      exact q
    · rw [z]
      exact q
  rw [e]
  exact q
theorem FrL.get {K : PySem.W.Frag} {H : Hp} : ∀ {ys : List V} {qs : List Rat} {i : Nat} {y : V}, FrL K H ys qs → ys[i]? = some y → ∃ q p, qs[i]? = some q ∧ y = .ref p ∧ SqT K H p (fr q)
  | [], _, _, _, _, h => by simp at h
  | _ :: _, [], _, _, f, _ => f.elim
  | z :: ys, q :: qs, 0, y, f, h => by
    obtain ⟨⟨p, e, hp⟩, _⟩ := f
    have : z = y := Option.some.inj h
    subst this
    exact ⟨q, p, rfl, e, hp⟩
  | z :: ys, q :: qs, i + 1, y, f, h => FrL.get (i := i) f.2 h
theorem FrL.all {K : PySem.W.Frag} {H : Hp} {ys : List V} {qs : List Rat} (l : ys.length = qs.length) (h : AllAt (fun i y H => ∃ q p, qs[i]? = some q ∧ y = V.ref p ∧ SqT K H p (fr q)) ys H) : FrL K H ys qs :=
  FrL.of l fun i y q h1 h2 => by
    obtain ⟨q', p, e, ey, hp⟩ := h i y h1
    rw [h2] at e
    obtain rfl := Option.some.inj e
    exact ⟨p, ey, hp⟩
theorem FrQ.tp {K : PySem.W.Frag} {qs : List Rat} (i : Nat) (y : V) (H H' : Hp) (h : ∃ q p, qs[i]? = some q ∧ y = V.ref p ∧ SqT K H p (fr q)) (t : Tp K H H') : ∃ q p, qs[i]? = some q ∧ y = V.ref p ∧ SqT K H' p (fr q) := by
  obtain ⟨q, p, e, ey, hp⟩ := h
  exact ⟨q, p, e, ey, t _ _ hp⟩
theorem SqT.lit {K : PySem.W.Frag} {p : Addr} {q : Rat} {H : Hp} {xs : List V} (e : fr q = xs) (h : SqT K H p xs) : SqT K H p (fr q) := by rw [e]; exact h
end FC

namespace FC
open PySem L2
open PyProof.Rows (envOfC)
/-! ### a promise that holds where no object is being shown (guards: none) -/
structure FnG (P : Program) (w : World) (K : PySem.W.Frag) (mg : Str → Option Value) (base : Heap) (CX : CXT) (k : Nat) (f : Addr) (fd : FuncData) (ps : List Str) (sp : Sp) : Prop where
  ln : ∀ {vs H Q E}, sp vs H Q E → vs.length = ps.length
  go : ∀ {A : Around} {fr : List Env} {s : Shared} {H : Hp} {args : Args} {us : List Value} {vs : List V} {Q : VK} {E : XK}, A.guards = some [] → Room k A → Env0 P w K mg base A fr s H → BindsTo s fd args (ps.zip us) → Vals vs us → sp vs H Q E →
    codeAny (model P w) A (.call (.ref f) args) (CR CX fr P w H s Q E) s
theorem FnOk.toG {P : Program} {w : World} {K : PySem.W.Frag} {mg : Str → Option Value} {base : Heap} {CX : CXT} {k : Nat} {f : Addr} {fd : FuncData} {ps : List Str} {sp : Sp} (F : FnOk P w K mg base CX k f fd ps sp) : FnG P w K mg base CX k f fd ps sp :=
  ⟨fun h => F.len _ _ _ _ h, fun _ hr e b v h => F.run _ _ _ _ _ _ _ _ _ hr e b v h⟩
/-- by the body, whose reading may lean on the guards -/
theorem fnG_mk {CX : CXT} {P : Program} {w : World} {K : PySem.W.Frag} {mg : Str → Option Value} {base : Heap} {x qual : Str} {params : Arguments} {body : List Stmt} {scope : Scope} {dvs : List V} {kws : List (Str × V)} {f : Addr} {fd : FuncData} {N ps : List Str} {k : Nat} {sp : Sp}
    (F : FunD K x qual params body scope dvs kws f fd) (S : FnScope N ps scope) (ln : ∀ vs H Q E, sp vs H Q E → vs.length = ps.length)
    (bd : ∀ (cdv : Value) (A : Around) (fr : List Env) (s : Shared) (H : Hp) (vs : List V) (Q : VK) (E : XK), (A.deeper (envOfC qual scope s.heap.objs.size f cdv)).guards = some [] → Room k (A.deeper (envOfC qual scope s.heap.objs.size f cdv)) → sp vs H Q E →
      ∃ t, PSs (cxOf CX P w K mg base N qual scope f cdv A fr s H E) body t ∧ t { nx := fun _ H' => Q .non H', rt := Q } (start N vs) H) : FnG P w K mg base CX (k + 1) f fd ps sp := by
  obtain ⟨oc, od, dV, kV, doc, pm, an, cdv, ct, osl, rfl, lk, hcd, _, _⟩ := F.ex
  constructor
  · intro vs H Q E h
    exact ln vs H Q E h
  · intro A fr s H args us vs Q E gd room en hb rv hsp
    have old : ∀ b o, base.get? b = some o → s.heap.get? b = some o := fun b o z => (en.bs b o z).1
    have inK : K.In s.heap := en.mod.kin.keeps old
    have kinds : ∀ y ∈ ps.zip us, scope.names.lookup y.1 = some .local ∨ (scope.names.lookup y.1 = some .cell ∧ ((cellsFrom (s.heap.objs.size + 1) scope.names []).lookup y.1).isSome = true) := by
      intro y hy
      have q := S.par y.1 (List.of_mem_zip (a := y.1) (b := y.2) hy).1
      exact q.elim .inl fun q => .inr ⟨q, PySem.W.cellsFrom_some _ _ _ (.inl q)⟩
    refine codeAny_call_function room.depth (inK _ _ lk) rfl S.co S.gen rfl (PySem.W.codeRec_of inK hcd) (hb _ _ _ _ ?_)
    refine wpAny_newFunctionEnv_cells S.kind kinds fun env henv s1 x1 => ?_
    subst henv
    refine ⟨(en.mod.nolimit.keeps old).keeps x1.toInCall.keep, codeAny_func ?_⟩
    obtain ⟨t, ht, rd⟩ := bd cdv A fr s H vs Q E gd (room.deeper _) hsp
    have I1 := inv_start (CX := CX) (E := E) S room.hd en (ln _ _ _ _ hsp) rv x1
    refine wpAny_mono (ht.run [] s1 (start N vs) H _ I1 rd) ?_ (fun _ _ z => z)
    intro fl s2 h2
    match fl, h2 with
    | .ret u, h2 =>
      obtain ⟨v, σ2, H2, J, r2, q2⟩ := h2
      exact ⟨v, H2, J.os, J.bare, J.base, J.hok, r2, q2⟩
    | .next, h2 =>
      obtain ⟨σ2, H2, J, q2⟩ := h2
      exact ⟨V.non, H2, J.os, J.bare, J.base, J.hok, rfl, q2⟩
    | .brk, h2 =>
      obtain ⟨_, _, _, q2⟩ := h2
      exact q2.elim
    | .cont, h2 =>
      obtain ⟨_, _, _, q2⟩ := h2
      exact q2.elim
/-- such a def called -/
structure GoodG (P : Program) (w : World) (K : PySem.W.Frag) (mg : Str → Option Value) (base : Heap) (x : Str) (k : Nat) (ps : List Str) (sp : Sp) : Prop where
  g : mg x = some (.ref (He.ga K x))
  kp : PySem.W.keepIn K (.ref (He.ga K x)) = true
  fn : ∃ fd, Binds K fd ps [] ∧ FnG P w K mg base CX0 k (He.ga K x) fd ps sp
theorem pe_goodG {X : Cx} {x : Str} {k : Nat} {ps : List Str} {sp : Sp} {e : Expr} {es : List Expr} {t : TA} {p pos : Pos} (G : GoodG X.prog X.w X.K X.mg X.base x k ps sp) (gd : X.A.guards = some []) (hr : Room k X.A) (ha : PA X (e :: es) t) (hg : Gl X x := by rfl) (hdb : (x == ("__debug__" : Str)) = false := by decide)
    (he : starEach (e :: es) X.env = (false, eval e X.env) :: starEach es X.env := by rfl) (hpl : (backTo pos (starEach es X.env)).any (·.1) = false := by rfl) : PE X (.Call (.Name x p) (e :: es) [] pos) (tCall sp [] E0 t) := by
  obtain ⟨fd, hb, F⟩ := G.fn
  constructor
  intro pins s σ H Q I h
  refine wpAny_Call_Name_kw (ld_glob I hg G.g ?_ hdb)
  refine PySem.W.callWith_K (h₀ := X.base) I.ok.mod.kin G.kp (thn (ha.run pos pins s σ H _ I h) ?_) he hpl
  rintro us s1 ⟨vs, H1, I1, r1, q1⟩
  refine ⟨I1.kIn, ?_⟩
  rw [List.append_nil] at q1
  have len1 : us.length = ps.length := r1.length.symm.trans (F.ln q1)
  have b1 := hb s1 us I1.kIn (by rw [List.append_nil]; exact len1)
  rw [List.append_nil] at b1
  refine wpAny_call (codeAny_mono (F.go gd hr I1.env0 b1 r1 q1) ?_)
  intro r s2 h2
  match r, h2 with
  | .error e, h2 => exact h2.elim
  | .ok (.ret u), h2 => exact I1.after h2
  | .ok .next, h2 => exact h2.elim
  | .ok .brk, h2 => exact h2.elim
  | .ok .cont, h2 => exact h2.elim
/-! ### repr of a small pair -/
def rRepr (K : PySem.W.Frag) : List V → Hp → VK → Prop := fun xs H Q => ∃ v d, xs = [.ref v] ∧ Dp K H (.ref v) d ∧ PyData.showable d = true ∧ d.hasDict = false ∧ d.depth ≤ 8 ∧ d.shown.length ≤ sizeLine ∧ Q (.str d.shown) H
theorem cr_repr {X : Cx} (gd : X.A.guards = some []) (hu : X.A.units + 64 < cLine) : CallR X (.builtin "repr") (rRepr X.K) := by
  intro pins s σ H xs us Q I r h
  obtain ⟨v, d, rfl, hd, sh, nd, dp, sz, q⟩ := h
  cases r with
  | cons r0 rn =>
    cases rn
    obtain ⟨as, rd⟩ := Dp.reads I d _ _ hd r0
    cases (show _ = Value.ref v from r0)
    refine repr_of_reads' rd sh (fun z => by rw [nd] at z; cases z) gd (by omega) (fun _ _ z => z) (fun h' u tk hk => ?_) sz
    refine ⟨.str d.shown, H, ?_, ⟨u, rfl⟩, q⟩
    exact I.kept (t' := tk) hk
/-! ### the law's call, where its promise leans on the guards: the caller shows none -/
section
variable {P : Program} {w : World} {K : PySem.W.Frag} {mg mb : Str → Option Value} {k : Nat} {fa a : Addr} {fd : FuncData} {x : Str} {sp : Sp} {s1 : Shared} {vs : List Value} {ns : List Int}
/-- from one abstract heap that tracks the script at most -/
theorem lawG_from (inK : K.In s1.heap) (hm : s1.heap.Ns mainGlobals mg) (hbl : s1.heap.Ns builtinsNs mb) (bb : ∀ y : Str, y ≠ "__name__" → mb y = bootBuiltins y) (lim : s1.heap.NoLimit) (gn : s1.gens = #[])
    (ob : s1.heap.get? a = some { cls := .type "list", data := .seq vs.toArray }) (room : Room k callerA) (F : ∀ base : Heap, K.In base → base.Ns mainGlobals mg → FnG P w K mg base CX0 k fa fd [x] sp)
    (bind : ∀ (s : Shared) (u : Value), BindsTo s fd ⟨[u], []⟩ [(x, u)]) {H : Hp} (only : ∀ b, H b = none ∨ (b = a ∧ ∃ o xs, H b = some (.frz o (.lst xs)))) (hok : HOk P w H s1.heap) (nK : H a ≠ none → K.lookup a = none) (hsp : sp [.ref a] H (fun v _ => v = .bl true) fun _ _ _ => False) :
    codeAny (model P w) callerA (.call (.ref fa) ⟨[.ref a], []⟩) (fun r s' => r = .ok (.ret (.bool true)) ∧ OldK s1.heap s'.heap ∧ s'.os = s1.os ∧ PyProof.Rows.AllBare s'.gens) s1 := by
  -- what is no list is not tracked
  have free : ∀ {b : Addr} {o : Obj}, s1.heap.get? b = some o → (∀ es ep, o.data = .dict es ep → H b = none) := by
    intro b o e es ep d
    rcases only b with z | ⟨z, _⟩
    · exact z
    · rw [z, ob] at e
      rw [← Option.some.inj e] at d
      cases d
  have ns1 : ∀ {b : Addr} {m : Str → Option Value}, s1.heap.Ns b m → (hidT s1.heap H).Ns b m := by
    rintro b m ⟨o, es, ep, e, d, r⟩
    exact ⟨o, es, ep, hidT_get e (free e es ep d), d, r⟩
  have inB : K.In (hidT s1.heap H) := by
    intro b o e
    refine hidT_get (inK b o e) ?_
    rcases only b with z | ⟨z, _⟩
    · exact z
    · subst z
      cases q : H b with
      | none => rfl
      | some u =>
        have z2 := nK (by rw [q]; exact fun y => by cases y)
        rw [e] at z2
        cases z2
  obtain ⟨mc, l1, l2⟩ := lim
  have md : Mod K mg (hidT s1.heap H) := ⟨inB, ns1 hm, ⟨mb, ns1 hbl, bb⟩, mc, ns1 l1, l2⟩
  have en : Env0 P w K mg (hidT s1.heap H) callerA [] s1 H := ⟨rfl, md, fun b o e => of_hidT e, Nat.le_of_eq (hidT_size _ _), trivial, fun b hb => absurd (show b ∈ ([] : List Addr) from hb) List.not_mem_nil, hok, .of_eq gn⟩
  refine codeAny_mono ((F _ inB (ns1 hm)).go (us := [.ref a]) (vs := [.ref a]) rfl room en (bind s1 (.ref a)) (.cons rfl .nil) hsp) ?_
  intro r s2 h2
  match r, h2 with
  | .error e, h2 => exact h2.elim
  | .ok .next, h2 => exact h2.elim
  | .ok .brk, h2 => exact h2.elim
  | .ok .cont, h2 => exact h2.elim
  | .ok (.ret u), ⟨v, H2, os, bare, un, hok2, rv, q⟩ =>
    subst q
    cases rv
    refine ⟨rfl, OldK.of_keep ?_, os, bare⟩
    intro b o e
    rcases only b with z | ⟨_, o1, xs, z⟩
    · exact un.keep b o e z List.not_mem_nil List.not_mem_nil
    · have e1 := (hok b _ z).1
      have e2 := (hok2 b _ (un.frzs b o1 _ z)).1
      rw [e] at e1
      rw [Option.some.inj e1]
      exact e2
theorem lawG (inK : K.In s1.heap) (hm : s1.heap.Ns mainGlobals mg) (hbl : s1.heap.Ns builtinsNs mb) (bb : ∀ y : Str, y ≠ "__name__" → mb y = bootBuiltins y) (lim : s1.heap.NoLimit) (gn : s1.gens = #[])
    (ob : s1.heap.get? a = some { cls := .type "list", data := .seq vs.toArray }) (hin : PyProof.Rows.IntsAre vs ns) (hl : ns.length ≤ sizeLine) (room : Room k callerA) (F : ∀ base : Heap, K.In base → base.Ns mainGlobals mg → FnG P w K mg base CX0 k fa fd [x] sp)
    (bind : ∀ (s : Shared) (u : Value), BindsTo s fd ⟨[u], []⟩ [(x, u)]) (hsp : ∀ H : Hp, SqL K H a (ns.map V.int) → sp [.ref a] H (fun v _ => v = .bl true) fun _ _ _ => False) :
    codeAny (model P w) callerA (.call (.ref fa) ⟨[.ref a], []⟩) (fun r s' => r = .ok (.ret (.bool true)) ∧ OldK s1.heap s'.heap ∧ s'.os = s1.os ∧ PyProof.Rows.AllBare s'.gens) s1 := by
  have rv := vals_ints hin
  cases hk : K.lookup a with
  | some o =>
    have e := inK a o hk
    rw [ob] at e
    obtain rfl := Option.some.inj e
    have sz : vs.toArray.size ≤ sizeLine := by
      rw [List.size_toArray, hin.length]
      exact hl
    exact lawG_from inK hm hbl bb lim gn ob room F bind (H := fun _ => none) (fun _ => .inl rfl) (fun b u z => by cases (show (none : Option HO) = some u from z)) (fun z => absurd rfl z) (hsp _ (.inr ⟨_, vs.toArray, _, hk, rfl, rfl, rfl, sz, by simpa using rv⟩))
  | none =>
    let H0 : Hp := fun b => if b = a then some (.frz { cls := .type "list", data := .seq vs.toArray } (.lst (ns.map V.int))) else none
    have at_a : H0 a = some (.frz { cls := .type "list", data := .seq vs.toArray } (.lst (ns.map V.int))) := if_pos rfl
    have off : ∀ b, b ≠ a → H0 b = none := fun b hb => if_neg hb
    refine lawG_from inK hm hbl bb lim gn ob room F bind (H := H0) (fun b => ?_) (fun b u z => ?_) (fun _ => hk) (hsp _ (.inl (.inr ⟨_, at_a⟩)))
    · by_cases hb : b = a
      · subst hb
        exact .inr ⟨rfl, _, _, at_a⟩
      · exact .inl (off b hb)
    · by_cases hb : b = a
      · subst hb
        rw [at_a] at z
        cases z
        exact ⟨ob, by rw [List.length_map]; exact hl, vs, _, rv, ob⟩
      · rw [off b hb] at z
        cases z
end
theorem walk_G {l : PySem.W.OpenLaw} {n k : Nat} {q : Program} {loose : List Str} {XP : (Str → Option Value) → Heap → Prop} {YP : World → Heap → Prop} {d : DefRec} {x : Str} (hn : l.most = some n) (hn2 : n ≤ sizeLine) (hdf : d.params.defaults = []) (room : Room k callerA)
    (F : ∀ (w : World) (mg : Str → Option Value) (fa : Addr) (h : Heap), YP w h → h.Ns mainGlobals mg → mg d.name = some (.ref fa) →
      ∃ (K : PySem.W.Frag) (fd : FuncData) (sp : Sp), K.In h ∧ (∀ (s : Shared) (u : Value), BindsTo s fd ⟨[u], []⟩ [(x, u)]) ∧
        (∀ (H : Hp) (a : Addr) (ns : List Int), ns.length ≤ n → SqL K H a (ns.map V.int) → sp [.ref a] H (fun v _ => v = .bl true) fun _ _ _ => False) ∧
        ∀ base : Heap, K.In base → base.Ns mainGlobals mg → FnG l.prog w K mg base CX0 k fa fd [x] sp) :
    PySem.W.WalkO q loose XP YP l.row.toRowW d [] (fun f vs => PySem.call f vs) := by
  refine Att.attach_call hn hdf ?_
  intro w s0 s1 mg mb fa o pm cd doc a vs ns G Y ho hd hcd hmg hob hin hlen hg
  obtain ⟨K, fd, sp, inK, bind, hsp, hF⟩ := F w mg fa _ Y G.T.g hmg
  exact lawG inK G.T.g G.T.b G.T.builtins G.T.nolimit hg hob hin (Nat.le_trans hlen hn2) room hF bind fun H hS => hsp H a ns hlen hS
/-! ### ways joined -/
section
variable {D : Ends} {σ : L2.St} {H : Hp} {i : Nat} {a b : Int} {t u : TS} {c : Bool} {tt tu : TT} {Q : VK}
theorem ifj (ha : D.nx (σ.set i (some (.int a))) H → t D σ H) (hb : D.nx (σ.set i (some (.int b))) H → u D σ H) (q : D.nx (σ.set i (some (.int (if c = true then a else b)))) H) : if c = true then t D σ H else u D σ H := by
  cases c with
  | true =>
    rw [if_pos rfl] at q ⊢
    exact ha q
  | false =>
    rw [if_neg Bool.false_ne_true] at q ⊢
    exact hb q
theorem andj {c1 c2 : Bool} {P : Bool → Hp → Prop} (h1 : ∀ P : Bool → Hp → Prop, P c1 H → tt σ H P) (h2 : ∀ P : Bool → Hp → Prop, P c2 H → tu σ H P) (q : P (c1 && c2) H) : tAnd tt tu σ H P := by
  refine h1 _ ?_
  cases c1 with
  | true =>
    rw [if_pos rfl]
    exact h2 P q
  | false =>
    rw [if_neg Bool.false_ne_true]
    exact q
theorem orj {c1 c2 : Bool} {P : Bool → Hp → Prop} (h1 : ∀ P : Bool → Hp → Prop, P c1 H → tt σ H P) (h2 : ∀ P : Bool → Hp → Prop, P c2 H → tu σ H P) (q : P (c1 || c2) H) : tOr tt tu σ H P := by
  refine h1 _ ?_
  cases c1 with
  | true =>
    rw [if_pos rfl]
    exact q
  | false =>
    rw [if_neg Bool.false_ne_true]
    exact h2 P q
theorem sne_ {i j : Str} (q : Q (.bl (!decide (i = j))) H) : rNe (.str i) (.str j) H Q := by
  refine ⟨rfl, ?_⟩
  have e : decide (V.str i = V.str j) = decide (i = j) := decide_eq_decide.mpr ⟨V.str.inj, congrArg V.str⟩
  rw [e]
  exact q
end
theorem ifvj {σ : L2.St} {H : Hp} {ta tb : TE} {c : Bool} {x y : Int} {Q : VK} (h1 : ∀ Q : VK, Q (.int x) H → ta σ H Q) (h2 : ∀ Q : VK, Q (.int y) H → tb σ H Q) (q : Q (.int (if c = true then x else y)) H) : if c = true then ta σ H Q else tb σ H Q := by
  cases c with
  | true =>
    rw [if_pos rfl] at q ⊢
    exact h1 Q q
  | false =>
    rw [if_neg Bool.false_ne_true] at q ⊢
    exact h2 Q q
/-! ### repr of a fraction -/
theorem text_len {i : Int} (h : i.natAbs < 2 ^ 1000) : (Str.ofString (toString i)).length ≤ 1001 := by
  rw [ofString_length]
  cases i with
  | ofNat m =>
    have e : toString (Int.ofNat m) = Nat.repr m := rfl
    rw [e]
    exact Nat.le_succ_of_le (nat_repr_length_le (by decide) h)
  | negSucc m =>
    have e : toString (Int.negSucc m) = "-" ++ Nat.repr (m + 1) := rfl
    rw [e, String.length_append]
    have e1 : "-".length = 1 := rfl
    have e2 := nat_repr_length_le (k := 1000) (by decide) (show m + 1 < 2 ^ 1000 from h)
    omega
theorem log_lt {n : Nat} (h : n < 2 ^ 1000) : n.log2 < 1920 := by
  by_cases z : n = 0
  · rw [z]; decide
  · exact Nat.lt_trans ((Nat.log2_lt z).mpr h) (by decide)
theorem shows_fr {q : Rat} (b : Bd 1000 q) : PyData.showable (frD q) = true ∧ (frD q).shown.length ≤ sizeLine := by
  have h2 : ((q.den : Int)).natAbs < 2 ^ 1000 := by rw [Int.natAbs_natCast]; exact b.2
  constructor
  · unfold frD
    simp only [PyData.showable, PyData.showableAll, Bool.and_true]
    rw [decide_eq_true (log_lt b.1), decide_eq_true (log_lt h2)]
    rfl
  · have e : (frD q).shown = tupleText [Str.ofString (toString q.num), Str.ofString (toString (q.den : Int))] := by
      unfold frD
      simp only [PyData.shown, PyData.shownAll]
    rw [e]
    have t := tupleText_len_le [Str.ofString (toString q.num), Str.ofString (toString (q.den : Int))]
    have t1 := text_len b.1
    have t2 := text_len h2
    simp only [List.map_cons, List.map_nil, List.sum_cons, List.sum_nil, List.length_cons, List.length_nil] at t
    rw [sizeLine_eq]
    omega
theorem repr_ {K : PySem.W.Frag} {p : Addr} {q : Rat} {H : Hp} {Q : VK} (h : SqT K H p (fr q)) (b : Bd 1000 q) (k : Q (.str (frD q).shown) H) : rRepr K [.ref p] H Q :=
  ⟨p, frD q, rfl, dp_fr h, (shows_fr b).1, rfl, by unfold frD; simp [PyData.depth, PyData.depthAll], (shows_fr b).2, k⟩
theorem sneS_ {i : Str} {H : Hp} {Q : VK} (q : Q (.bl false) H) : rNe (.str i) (.str i) H Q := by
  refine sne_ ?_
  rw [decide_eq_true rfl]
  exact q
end FC

namespace FC
open PySem L2
def topS (i : Nat) : Stmt := PySem.Challenge.pw_framecues_k05_values_of_steps.main.body.getD i (.Pass ⟨0, 0, 0, 0⟩)
abbrev s_is_whole : Stmt := topS 9
abbrev s_is_ratio : Stmt := topS 10
abbrev s_ratio : Stmt := topS 11
abbrev s_plus : Stmt := topS 12
abbrev s_minus : Stmt := topS 13
abbrev s_times : Stmt := topS 14
abbrev s_over : Stmt := topS 15
abbrev s_less : Stmt := topS 16
abbrev s_even_step : Stmt := topS 17
abbrev s_even_place : Stmt := topS 18
abbrev s_is_curve : Stmt := topS 20
abbrev s_value_at : Stmt := topS 21
abbrev s_curve_value : Stmt := topS 22
abbrev s__are_points : Stmt := topS 23
abbrev s__are_steps : Stmt := topS 24
abbrev s__line_value : Stmt := topS 25
abbrev s__stretch : Stmt := topS 26
abbrev s__told_stretch : Stmt := topS 27
abbrev s__cubic_value : Stmt := topS 28
abbrev s__step_value : Stmt := topS 29
abbrev s__most_steps : Stmt := topS 30
abbrev s__law_cell_at : Stmt := topS 32
abbrev s__law_mixed : Stmt := topS 33
abbrev s__law_source : Stmt := topS 34
abbrev s__law_next : Stmt := topS 35
abbrev s__law_one : Stmt := topS 36
abbrev s__law_divisor : Stmt := topS 37
abbrev s__law_ratio : Stmt := topS 38
abbrev s__law_plus : Stmt := topS 39
abbrev s__law_minus : Stmt := topS 40
abbrev s__law_less : Stmt := topS 41
abbrev s__law_part : Stmt := topS 42
abbrev s__law_any_part : Stmt := topS 43
abbrev s__law_steps : Stmt := topS 44
abbrev s__law_places : Stmt := topS 45
abbrev s__law_turned_right : Stmt := topS 46
abbrev s__law_right : Stmt := topS 47
abbrev s_law : Stmt := topS 48
def d_is_whole : He.DefD := ⟨("is_whole", none), "is_whole", "is_whole", defArgs s_is_whole, defBody s_is_whole, defScope s_is_whole, [], []⟩
def d_is_ratio : He.DefD := ⟨("is_ratio", none), "is_ratio", "is_ratio", defArgs s_is_ratio, defBody s_is_ratio, defScope s_is_ratio, [], []⟩
def d_ratio : He.DefD := ⟨("ratio", none), "ratio", "ratio", defArgs s_ratio, defBody s_ratio, defScope s_ratio, [], []⟩
def d_plus : He.DefD := ⟨("plus", none), "plus", "plus", defArgs s_plus, defBody s_plus, defScope s_plus, [], []⟩
def d_minus : He.DefD := ⟨("minus", none), "minus", "minus", defArgs s_minus, defBody s_minus, defScope s_minus, [], []⟩
def d_times : He.DefD := ⟨("times", none), "times", "times", defArgs s_times, defBody s_times, defScope s_times, [], []⟩
def d_over : He.DefD := ⟨("over", none), "over", "over", defArgs s_over, defBody s_over, defScope s_over, [], []⟩
def d_less : He.DefD := ⟨("less", none), "less", "less", defArgs s_less, defBody s_less, defScope s_less, [], []⟩
def d_even_step : He.DefD := ⟨("even_step", none), "even_step", "even_step", defArgs s_even_step, defBody s_even_step, defScope s_even_step, [], []⟩
def d_even_place : He.DefD := ⟨("even_place", none), "even_place", "even_place", defArgs s_even_place, defBody s_even_place, defScope s_even_place, [], []⟩
def d_is_curve : He.DefD := ⟨("is_curve", none), "is_curve", "is_curve", defArgs s_is_curve, defBody s_is_curve, defScope s_is_curve, [], []⟩
def d_value_at : He.DefD := ⟨("value_at", none), "value_at", "value_at", defArgs s_value_at, defBody s_value_at, defScope s_value_at, [.bl false], []⟩
def d_curve_value : He.DefD := ⟨("curve_value", none), "curve_value", "curve_value", defArgs s_curve_value, defBody s_curve_value, defScope s_curve_value, [], []⟩
def d__are_points : He.DefD := ⟨("_are_points", none), "_are_points", "_are_points", defArgs s__are_points, defBody s__are_points, defScope s__are_points, [], []⟩
def d__are_steps : He.DefD := ⟨("_are_steps", none), "_are_steps", "_are_steps", defArgs s__are_steps, defBody s__are_steps, defScope s__are_steps, [], []⟩
def d__line_value : He.DefD := ⟨("_line_value", none), "_line_value", "_line_value", defArgs s__line_value, defBody s__line_value, defScope s__line_value, [], []⟩
def d__stretch : He.DefD := ⟨("_stretch", none), "_stretch", "_stretch", defArgs s__stretch, defBody s__stretch, defScope s__stretch, [], []⟩
def d__told_stretch : He.DefD := ⟨("_told_stretch", none), "_told_stretch", "_told_stretch", defArgs s__told_stretch, defBody s__told_stretch, defScope s__told_stretch, [], []⟩
def d__cubic_value : He.DefD := ⟨("_cubic_value", none), "_cubic_value", "_cubic_value", defArgs s__cubic_value, defBody s__cubic_value, defScope s__cubic_value, [], []⟩
def d__step_value : He.DefD := ⟨("_step_value", none), "_step_value", "_step_value", defArgs s__step_value, defBody s__step_value, defScope s__step_value, [], []⟩
def d__most_steps : He.DefD := ⟨("_most_steps", none), "_most_steps", "_most_steps", defArgs s__most_steps, defBody s__most_steps, defScope s__most_steps, [], []⟩
def d__law_cell_at : He.DefD := ⟨("_law_cell_at", none), "_law_cell_at", "_law_cell_at", defArgs s__law_cell_at, defBody s__law_cell_at, defScope s__law_cell_at, [], []⟩
def d__law_mixed : He.DefD := ⟨("_law_mixed", none), "_law_mixed", "_law_mixed", defArgs s__law_mixed, defBody s__law_mixed, defScope s__law_mixed, [], []⟩
def d__law_source : He.DefD := ⟨("_law_source", none), "_law_source", "_law_source", defArgs s__law_source, defBody s__law_source, defScope s__law_source, [], []⟩
def d__law_next : He.DefD := ⟨("_law_next", none), "_law_next", "_law_next", defArgs s__law_next, defBody s__law_next, defScope s__law_next, [], []⟩
def d__law_one : He.DefD := ⟨("_law_one", none), "_law_one", "_law_one", defArgs s__law_one, defBody s__law_one, defScope s__law_one, [], []⟩
def d__law_divisor : He.DefD := ⟨("_law_divisor", none), "_law_divisor", "_law_divisor", defArgs s__law_divisor, defBody s__law_divisor, defScope s__law_divisor, [], []⟩
def d__law_ratio : He.DefD := ⟨("_law_ratio", none), "_law_ratio", "_law_ratio", defArgs s__law_ratio, defBody s__law_ratio, defScope s__law_ratio, [], []⟩
def d__law_plus : He.DefD := ⟨("_law_plus", none), "_law_plus", "_law_plus", defArgs s__law_plus, defBody s__law_plus, defScope s__law_plus, [], []⟩
def d__law_minus : He.DefD := ⟨("_law_minus", none), "_law_minus", "_law_minus", defArgs s__law_minus, defBody s__law_minus, defScope s__law_minus, [], []⟩
def d__law_less : He.DefD := ⟨("_law_less", none), "_law_less", "_law_less", defArgs s__law_less, defBody s__law_less, defScope s__law_less, [], []⟩
def d__law_part : He.DefD := ⟨("_law_part", none), "_law_part", "_law_part", defArgs s__law_part, defBody s__law_part, defScope s__law_part, [], []⟩
def d__law_any_part : He.DefD := ⟨("_law_any_part", none), "_law_any_part", "_law_any_part", defArgs s__law_any_part, defBody s__law_any_part, defScope s__law_any_part, [], []⟩
def d__law_steps : He.DefD := ⟨("_law_steps", none), "_law_steps", "_law_steps", defArgs s__law_steps, defBody s__law_steps, defScope s__law_steps, [], []⟩
def d__law_places : He.DefD := ⟨("_law_places", none), "_law_places", "_law_places", defArgs s__law_places, defBody s__law_places, defScope s__law_places, [], []⟩
def d__law_turned_right : He.DefD := ⟨("_law_turned_right", none), "_law_turned_right", "_law_turned_right", defArgs s__law_turned_right, defBody s__law_turned_right, defScope s__law_turned_right, [], []⟩
def d__law_right : He.DefD := ⟨("_law_right", none), "_law_right", "_law_right", defArgs s__law_right, defBody s__law_right, defScope s__law_right, [], []⟩
def d_law : He.DefD := ⟨("law", none), "law", "law", defArgs s_law, defBody s_law, defScope s_law, [], []⟩
def fn : List He.DefD := [d_is_whole, d_is_ratio, d_ratio, d_plus, d_minus, d_times, d_over, d_less, d_even_step, d_even_place, d_is_curve, d_value_at, d_curve_value, d__are_points, d__are_steps, d__line_value, d__stretch, d__told_stretch, d__cubic_value, d__step_value, d__most_steps, d__law_cell_at, d__law_mixed, d__law_source, d__law_next, d__law_one, d__law_divisor, d__law_ratio, d__law_plus, d__law_minus, d__law_less, d__law_part, d__law_any_part, d__law_steps, d__law_places, d__law_turned_right, d__law_right, d_law]
def frees : List Str := ["isinstance", "len", "range", "abs", "int", "bool", "str", "max", "min", "tuple", "repr"]
structure Txt (K : PySem.W.Frag) (mg : Str → Option Value) : Prop where
  defs : ∀ (i : Nat) (d : He.DefD), fn[i]? = some d → DefOk K mg d
  free : ∀ (i : Nat) (x : Str), frees[i]? = some x → mg x = none
  gcd : mg "gcd" = some (.builtin "math.gcd")
  gZ : mg "ZERO" = some (.ref (He.ga K "ZERO"))
  gO : mg "ONE" = some (.ref (He.ga K "ONE"))
  zero : ∀ H, SqT K H (He.ga K "ZERO") (fr 0)
  one : ∀ H, SqT K H (He.ga K "ONE") (fr 1)
section
variable {P : Program} {w : World} {K : PySem.W.Frag} {mg : Str → Option Value} {base : Heap}
theorem dk_is_whole (T : Txt K mg) : DefOk K mg d_is_whole := T.defs 0 _ rfl
theorem dk_is_ratio (T : Txt K mg) : DefOk K mg d_is_ratio := T.defs 1 _ rfl
theorem dk_ratio (T : Txt K mg) : DefOk K mg d_ratio := T.defs 2 _ rfl
theorem dk_plus (T : Txt K mg) : DefOk K mg d_plus := T.defs 3 _ rfl
theorem dk_minus (T : Txt K mg) : DefOk K mg d_minus := T.defs 4 _ rfl
theorem dk_times (T : Txt K mg) : DefOk K mg d_times := T.defs 5 _ rfl
theorem dk_over (T : Txt K mg) : DefOk K mg d_over := T.defs 6 _ rfl
theorem dk_less (T : Txt K mg) : DefOk K mg d_less := T.defs 7 _ rfl
theorem dk_even_step (T : Txt K mg) : DefOk K mg d_even_step := T.defs 8 _ rfl
theorem dk_even_place (T : Txt K mg) : DefOk K mg d_even_place := T.defs 9 _ rfl
theorem dk_is_curve (T : Txt K mg) : DefOk K mg d_is_curve := T.defs 10 _ rfl
theorem dk_value_at (T : Txt K mg) : DefOk K mg d_value_at := T.defs 11 _ rfl
theorem dk_curve_value (T : Txt K mg) : DefOk K mg d_curve_value := T.defs 12 _ rfl
theorem dk__are_points (T : Txt K mg) : DefOk K mg d__are_points := T.defs 13 _ rfl
theorem dk__are_steps (T : Txt K mg) : DefOk K mg d__are_steps := T.defs 14 _ rfl
theorem dk__line_value (T : Txt K mg) : DefOk K mg d__line_value := T.defs 15 _ rfl
theorem dk__stretch (T : Txt K mg) : DefOk K mg d__stretch := T.defs 16 _ rfl
theorem dk__told_stretch (T : Txt K mg) : DefOk K mg d__told_stretch := T.defs 17 _ rfl
theorem dk__cubic_value (T : Txt K mg) : DefOk K mg d__cubic_value := T.defs 18 _ rfl
theorem dk__step_value (T : Txt K mg) : DefOk K mg d__step_value := T.defs 19 _ rfl
theorem dk__most_steps (T : Txt K mg) : DefOk K mg d__most_steps := T.defs 20 _ rfl
theorem dk__law_cell_at (T : Txt K mg) : DefOk K mg d__law_cell_at := T.defs 21 _ rfl
theorem dk__law_mixed (T : Txt K mg) : DefOk K mg d__law_mixed := T.defs 22 _ rfl
theorem dk__law_source (T : Txt K mg) : DefOk K mg d__law_source := T.defs 23 _ rfl
theorem dk__law_next (T : Txt K mg) : DefOk K mg d__law_next := T.defs 24 _ rfl
theorem dk__law_one (T : Txt K mg) : DefOk K mg d__law_one := T.defs 25 _ rfl
theorem dk__law_divisor (T : Txt K mg) : DefOk K mg d__law_divisor := T.defs 26 _ rfl
theorem dk__law_ratio (T : Txt K mg) : DefOk K mg d__law_ratio := T.defs 27 _ rfl
theorem dk__law_plus (T : Txt K mg) : DefOk K mg d__law_plus := T.defs 28 _ rfl
theorem dk__law_minus (T : Txt K mg) : DefOk K mg d__law_minus := T.defs 29 _ rfl
theorem dk__law_less (T : Txt K mg) : DefOk K mg d__law_less := T.defs 30 _ rfl
theorem dk__law_part (T : Txt K mg) : DefOk K mg d__law_part := T.defs 31 _ rfl
theorem dk__law_any_part (T : Txt K mg) : DefOk K mg d__law_any_part := T.defs 32 _ rfl
theorem dk__law_steps (T : Txt K mg) : DefOk K mg d__law_steps := T.defs 33 _ rfl
theorem dk__law_places (T : Txt K mg) : DefOk K mg d__law_places := T.defs 34 _ rfl
theorem dk__law_turned_right (T : Txt K mg) : DefOk K mg d__law_turned_right := T.defs 35 _ rfl
theorem dk__law_right (T : Txt K mg) : DefOk K mg d__law_right := T.defs 36 _ rfl
theorem dk_law (T : Txt K mg) : DefOk K mg d_law := T.defs 37 _ rfl
theorem m_isinstance (T : Txt K mg) : mg "isinstance" = none := T.free 0 _ rfl
theorem m_len (T : Txt K mg) : mg "len" = none := T.free 1 _ rfl
theorem m_range (T : Txt K mg) : mg "range" = none := T.free 2 _ rfl
theorem m_abs (T : Txt K mg) : mg "abs" = none := T.free 3 _ rfl
theorem m_int (T : Txt K mg) : mg "int" = none := T.free 4 _ rfl
theorem m_bool (T : Txt K mg) : mg "bool" = none := T.free 5 _ rfl
theorem m_str (T : Txt K mg) : mg "str" = none := T.free 6 _ rfl
theorem m_max (T : Txt K mg) : mg "max" = none := T.free 7 _ rfl
theorem m_min (T : Txt K mg) : mg "min" = none := T.free 8 _ rfl
theorem m_tuple (T : Txt K mg) : mg "tuple" = none := T.free 9 _ rfl
theorem m_repr (T : Txt K mg) : mg "repr" = none := T.free 10 _ rfl
abbrev n_is_whole : List Str := ["thing"]
theorem st_is_whole (x0 : V) : L2.start n_is_whole [x0] = [some x0] := rfl
theorem sc_is_whole : FnScope n_is_whole ["thing"] (defScope s_is_whole) := ⟨rfl, rfl, rfl, by decide +kernel, rfl, by decide +kernel, by decide +kernel⟩
abbrev n_is_ratio : List Str := ["thing", "top", "bottom"]
theorem st_is_ratio (x0 : V) : L2.start n_is_ratio [x0] = [some x0, none, none] := rfl
theorem sc_is_ratio : FnScope n_is_ratio ["thing"] (defScope s_is_ratio) := ⟨rfl, rfl, rfl, by decide +kernel, rfl, by decide +kernel, by decide +kernel⟩
abbrev n_ratio : List Str := ["top", "bottom", "shared"]
theorem st_ratio (x0 x1 : V) : L2.start n_ratio [x0, x1] = [some x0, some x1, none] := rfl
theorem sc_ratio : FnScope n_ratio ["top", "bottom"] (defScope s_ratio) := ⟨rfl, rfl, rfl, by decide +kernel, rfl, by decide +kernel, by decide +kernel⟩
abbrev n_plus : List Str := ["a", "b"]
theorem st_plus (x0 x1 : V) : L2.start n_plus [x0, x1] = [some x0, some x1] := rfl
theorem sc_plus : FnScope n_plus ["a", "b"] (defScope s_plus) := ⟨rfl, rfl, rfl, by decide +kernel, rfl, by decide +kernel, by decide +kernel⟩
abbrev n_minus : List Str := ["a", "b"]
theorem st_minus (x0 x1 : V) : L2.start n_minus [x0, x1] = [some x0, some x1] := rfl
theorem sc_minus : FnScope n_minus ["a", "b"] (defScope s_minus) := ⟨rfl, rfl, rfl, by decide +kernel, rfl, by decide +kernel, by decide +kernel⟩
abbrev n_times : List Str := ["a", "b"]
theorem st_times (x0 x1 : V) : L2.start n_times [x0, x1] = [some x0, some x1] := rfl
theorem sc_times : FnScope n_times ["a", "b"] (defScope s_times) := ⟨rfl, rfl, rfl, by decide +kernel, rfl, by decide +kernel, by decide +kernel⟩
abbrev n_over : List Str := ["a", "b"]
theorem st_over (x0 x1 : V) : L2.start n_over [x0, x1] = [some x0, some x1] := rfl
theorem sc_over : FnScope n_over ["a", "b"] (defScope s_over) := ⟨rfl, rfl, rfl, by decide +kernel, rfl, by decide +kernel, by decide +kernel⟩
abbrev n_less : List Str := ["a", "b"]
theorem st_less (x0 x1 : V) : L2.start n_less [x0, x1] = [some x0, some x1] := rfl
theorem sc_less : FnScope n_less ["a", "b"] (defScope s_less) := ⟨rfl, rfl, rfl, by decide +kernel, rfl, by decide +kernel, by decide +kernel⟩
abbrev n_even_step : List Str := ["low", "high", "k", "count", "bottom"]
theorem st_even_step (x0 x1 x2 x3 : V) : L2.start n_even_step [x0, x1, x2, x3] = [some x0, some x1, some x2, some x3, none] := rfl
theorem sc_even_step : FnScope n_even_step ["low", "high", "k", "count"] (defScope s_even_step) := ⟨rfl, rfl, rfl, by decide +kernel, rfl, by decide +kernel, by decide +kernel⟩
abbrev n_even_place : List Str := ["low", "high", "count", "x", "way", "gone"]
theorem st_even_place (x0 x1 x2 x3 : V) : L2.start n_even_place [x0, x1, x2, x3] = [some x0, some x1, some x2, some x3, none, none] := rfl
theorem sc_even_place : FnScope n_even_place ["low", "high", "count", "x"] (defScope s_even_place) := ⟨rfl, rfl, rfl, by decide +kernel, rfl, by decide +kernel, by decide +kernel⟩
abbrev n_is_curve : List Str := ["thing"]
theorem st_is_curve (x0 : V) : L2.start n_is_curve [x0] = [some x0] := rfl
theorem sc_is_curve : FnScope n_is_curve ["thing"] (defScope s_is_curve) := ⟨rfl, rfl, rfl, by decide +kernel, rfl, by decide +kernel, by decide +kernel⟩
abbrev n_value_at : List Str := ["curve", "x", "before"]
theorem st_value_at (x0 x1 x2 : V) : L2.start n_value_at [x0, x1, x2] = [some x0, some x1, some x2] := rfl
theorem sc_value_at : FnScope n_value_at ["curve", "x", "before"] (defScope s_value_at) := ⟨rfl, rfl, rfl, by decide +kernel, rfl, by decide +kernel, by decide +kernel⟩
abbrev n_curve_value : List Str := ["curve", "x", "before"]
theorem st_curve_value (x0 x1 x2 : V) : L2.start n_curve_value [x0, x1, x2] = [some x0, some x1, some x2] := rfl
theorem sc_curve_value : FnScope n_curve_value ["curve", "x", "before"] (defScope s_curve_value) := ⟨rfl, rfl, rfl, by decide +kernel, rfl, by decide +kernel, by decide +kernel⟩
abbrev n__are_points : List Str := ["thing", "point", "value", "place"]
theorem st__are_points (x0 : V) : L2.start n__are_points [x0] = [some x0, none, none, none] := rfl
theorem sc__are_points : FnScope n__are_points ["thing"] (defScope s__are_points) := ⟨rfl, rfl, rfl, by decide +kernel, rfl, by decide +kernel, by decide +kernel⟩
abbrev n__are_steps : List Str := ["count", "where"]
theorem st__are_steps (x0 x1 : V) : L2.start n__are_steps [x0, x1] = [some x0, some x1] := rfl
theorem sc__are_steps : FnScope n__are_steps ["count", "where"] (defScope s__are_steps) := ⟨rfl, rfl, rfl, by decide +kernel, rfl, by decide +kernel, by decide +kernel⟩
abbrev n__line_value : List Str := ["points", "x", "low", "high", "part", "first", "low_place", "high_place"]
theorem st__line_value (x0 x1 : V) : L2.start n__line_value [x0, x1] = [some x0, some x1, none, none, none, none, none, none] := rfl
theorem sc__line_value : FnScope n__line_value ["points", "x"] (defScope s__line_value) := ⟨rfl, rfl, rfl, by decide +kernel, rfl, by decide +kernel, by decide +kernel⟩
abbrev n__stretch : List Str := ["points", "x", "count", "start", "low", "low_place", "high", "high_place", "gone"]
theorem st__stretch (x0 x1 : V) : L2.start n__stretch [x0, x1] = [some x0, some x1, none, none, none, none, none, none, none] := rfl
theorem sc__stretch : FnScope n__stretch ["points", "x"] (defScope s__stretch) := ⟨rfl, rfl, rfl, by decide +kernel, rfl, by decide +kernel, by decide +kernel⟩
abbrev n__told_stretch : List Str := ["points", "x", "last", "low", "low_place", "at", "place", "top", "bottom"]
theorem st__told_stretch (x0 x1 : V) : L2.start n__told_stretch [x0, x1] = [some x0, some x1, none, none, none, none, none, none, none] := rfl
theorem sc__told_stretch : FnScope n__told_stretch ["points", "x"] (defScope s__told_stretch) := ⟨rfl, rfl, rfl, by decide +kernel, rfl, by decide +kernel, by decide +kernel⟩
abbrev n__cubic_value : List Str := ["a", "b", "x", "rest", "bend"]
theorem st__cubic_value (x0 x1 x2 : V) : L2.start n__cubic_value [x0, x1, x2] = [some x0, some x1, some x2, none, none] := rfl
theorem sc__cubic_value : FnScope n__cubic_value ["a", "b", "x"] (defScope s__cubic_value) := ⟨rfl, rfl, rfl, by decide +kernel, rfl, by decide +kernel, by decide +kernel⟩
abbrev n__step_value : List Str := ["count", "where", "x", "before", "scaled", "done", "most"]
theorem st__step_value (x0 x1 x2 x3 : V) : L2.start n__step_value [x0, x1, x2, x3] = [some x0, some x1, some x2, some x3, none, none, none] := rfl
theorem sc__step_value : FnScope n__step_value ["count", "where", "x", "before"] (defScope s__step_value) := ⟨rfl, rfl, rfl, by decide +kernel, rfl, by decide +kernel, by decide +kernel⟩
abbrev n__most_steps : List Str := ["count", "where"]
theorem st__most_steps (x0 x1 : V) : L2.start n__most_steps [x0, x1] = [some x0, some x1] := rfl
theorem sc__most_steps : FnScope n__most_steps ["count", "where"] (defScope s__most_steps) := ⟨rfl, rfl, rfl, by decide +kernel, rfl, by decide +kernel, by decide +kernel⟩
abbrev n__law_cell_at : List Str := ["_law_script", "_law_k"]
theorem st__law_cell_at (x0 x1 : V) : L2.start n__law_cell_at [x0, x1] = [some x0, some x1] := rfl
theorem sc__law_cell_at : FnScope n__law_cell_at ["_law_script", "_law_k"] (defScope s__law_cell_at) := ⟨rfl, rfl, rfl, by decide +kernel, rfl, by decide +kernel, by decide +kernel⟩
abbrev n__law_mixed : List Str := ["_law_cell", "_law_k", "_law_low"]
theorem st__law_mixed (x0 x1 : V) : L2.start n__law_mixed [x0, x1] = [some x0, some x1, none] := rfl
theorem sc__law_mixed : FnScope n__law_mixed ["_law_cell", "_law_k"] (defScope s__law_mixed) := ⟨rfl, rfl, rfl, by decide +kernel, rfl, by decide +kernel, by decide +kernel⟩
abbrev n__law_source : List Str := ["_law_script", "_law_k", "_law_cell"]
theorem st__law_source (x0 x1 : V) : L2.start n__law_source [x0, x1] = [some x0, some x1, none] := rfl
theorem sc__law_source : FnScope n__law_source ["_law_script", "_law_k"] (defScope s__law_source) := ⟨rfl, rfl, rfl, by decide +kernel, rfl, by decide +kernel, by decide +kernel⟩
abbrev n__law_next : List Str := ["_law_source_here", "_law_many", "_law_found"]
theorem st__law_next (x0 x1 : V) : L2.start n__law_next [x0, x1] = [some x0, some x1, none] := rfl
theorem sc__law_next : FnScope n__law_next ["_law_source_here", "_law_many"] (defScope s__law_next) := ⟨rfl, rfl, rfl, by decide +kernel, rfl, by decide +kernel, by decide +kernel⟩
abbrev n__law_one : List Str := ["_law_source_here", "_law_things"]
theorem st__law_one (x0 x1 : V) : L2.start n__law_one [x0, x1] = [some x0, some x1] := rfl
theorem sc__law_one : FnScope n__law_one ["_law_source_here", "_law_things"] (defScope s__law_one) := ⟨rfl, rfl, rfl, by decide +kernel, rfl, by decide +kernel, by decide +kernel⟩
abbrev n__law_divisor : List Str := ["_law_one_here", "_law_other"]
theorem st__law_divisor (x0 x1 : V) : L2.start n__law_divisor [x0, x1] = [some x0, some x1] := rfl
theorem sc__law_divisor : FnScope n__law_divisor ["_law_one_here", "_law_other"] (defScope s__law_divisor) := ⟨rfl, rfl, rfl, by decide +kernel, rfl, by decide +kernel, by decide +kernel⟩
abbrev n__law_ratio : List Str := ["_law_top", "_law_bottom", "_law_measure"]
theorem st__law_ratio (x0 x1 : V) : L2.start n__law_ratio [x0, x1] = [some x0, some x1, none] := rfl
theorem sc__law_ratio : FnScope n__law_ratio ["_law_top", "_law_bottom"] (defScope s__law_ratio) := ⟨rfl, rfl, rfl, by decide +kernel, rfl, by decide +kernel, by decide +kernel⟩
abbrev n__law_plus : List Str := ["_law_one_here", "_law_other"]
theorem st__law_plus (x0 x1 : V) : L2.start n__law_plus [x0, x1] = [some x0, some x1] := rfl
theorem sc__law_plus : FnScope n__law_plus ["_law_one_here", "_law_other"] (defScope s__law_plus) := ⟨rfl, rfl, rfl, by decide +kernel, rfl, by decide +kernel, by decide +kernel⟩
abbrev n__law_minus : List Str := ["_law_one_here", "_law_other"]
theorem st__law_minus (x0 x1 : V) : L2.start n__law_minus [x0, x1] = [some x0, some x1] := rfl
theorem sc__law_minus : FnScope n__law_minus ["_law_one_here", "_law_other"] (defScope s__law_minus) := ⟨rfl, rfl, rfl, by decide +kernel, rfl, by decide +kernel, by decide +kernel⟩
abbrev n__law_less : List Str := ["_law_one_here", "_law_other"]
theorem st__law_less (x0 x1 : V) : L2.start n__law_less [x0, x1] = [some x0, some x1] := rfl
theorem sc__law_less : FnScope n__law_less ["_law_one_here", "_law_other"] (defScope s__law_less) := ⟨rfl, rfl, rfl, by decide +kernel, rfl, by decide +kernel, by decide +kernel⟩
abbrev n__law_part : List Str := ["_law_source_here", "_law_way"]
theorem st__law_part (x0 : V) : L2.start n__law_part [x0] = [some x0, none] := rfl
theorem sc__law_part : FnScope n__law_part ["_law_source_here"] (defScope s__law_part) := ⟨rfl, rfl, rfl, by decide +kernel, rfl, by decide +kernel, by decide +kernel⟩
abbrev n__law_any_part : List Str := ["_law_source_here", "_law_found"]
theorem st__law_any_part (x0 : V) : L2.start n__law_any_part [x0] = [some x0, none] := rfl
theorem sc__law_any_part : FnScope n__law_any_part ["_law_source_here"] (defScope s__law_any_part) := ⟨rfl, rfl, rfl, by decide +kernel, rfl, by decide +kernel, by decide +kernel⟩
abbrev n__law_steps : List Str := ["_law_many", "_law_where", "_law_x", "_law_is_early", "_law_found", "_law_jumps"]
theorem st__law_steps (x0 x1 x2 x3 : V) : L2.start n__law_steps [x0, x1, x2, x3] = [some x0, some x1, some x2, some x3, none, none] := rfl
theorem sc__law_steps : FnScope n__law_steps ["_law_many", "_law_where", "_law_x", "_law_is_early"] (defScope s__law_steps) := ⟨rfl, rfl, rfl, by decide +kernel, rfl, by decide +kernel, by decide +kernel⟩
abbrev n__law_places : List Str := ["_law_source_here", "_law_many", "_law_found", "_law_k", "_law_place", "_law_tiny"]
theorem st__law_places (x0 x1 : V) : L2.start n__law_places [x0, x1] = [some x0, some x1, none, none, none, none] := rfl
theorem sc__law_places : FnScope n__law_places ["_law_source_here", "_law_many"] (defScope s__law_places) := ⟨rfl, rfl, rfl, by decide +kernel, rfl, by decide +kernel, by decide +kernel⟩
abbrev n__law_turned_right : List Str := ["_law_many", "_law_where", "_law_x", "_law_other", "_law_is_early", "_law_one_here", "_law_image"]
theorem st__law_turned_right (x0 x1 x2 : V) : L2.start n__law_turned_right [x0, x1, x2] = [some x0, some x1, some x2, none, none, none, none] := rfl
theorem sc__law_turned_right : FnScope n__law_turned_right ["_law_many", "_law_where", "_law_x"] (defScope s__law_turned_right) := ⟨rfl, rfl, rfl, by decide +kernel, rfl, by decide +kernel, by decide +kernel⟩
abbrev n__law_right : List Str := ["_law_source_here", "_law_where", "_law_many", "_law_x", "_law_is_early", "_law_due", "_law_found"]
theorem st__law_right (x0 : V) : L2.start n__law_right [x0] = [some x0, none, none, none, none, none, none] := rfl
theorem sc__law_right : FnScope n__law_right ["_law_source_here"] (defScope s__law_right) := ⟨rfl, rfl, rfl, by decide +kernel, rfl, by decide +kernel, by decide +kernel⟩
abbrev n_law : List Str := ["_law_script", "_law_k", "_law_some", "_law_source_here", "_law_turn", "_law_where"]
theorem st_law (x0 : V) : L2.start n_law [x0] = [some x0, none, none, none, none, none] := rfl
theorem sc_law : FnScope n_law ["_law_script"] (defScope s_law) := ⟨rfl, rfl, rfl, by decide +kernel, rfl, by decide +kernel, by decide +kernel⟩
end
end FC
namespace FC
open PySem L2
section
variable {P : Program} {w : World} {K : PySem.W.Frag} {mg : Str → Option Value} {base : Heap}
local macro_rules | `(tactic| walk_at "mul") => `(tactic| first
  | assumption
  | exact Sm.nn (by assumption) (by assumption)
  | exact Sm.nd (by assumption) (by assumption)
  | exact Sm.dn (by assumption) (by assumption)
  | exact Sm.dd (by assumption) (by assumption)
  | exact Pr.nn (by assumption)
  | exact Pr.nd (by assumption)
  | exact Pr.dn (by assumption)
  | exact Pr.dd (by assumption)
  | exact Pr.nd (Pr.symm (by assumption)))
local macro_rules | `(tactic| walk_at "bd") => `(tactic| first
  | assumption
  | exact Bd.q0 | exact Bd.q1 | exact Bd.q2 | exact Bd.q3
  | (with_reducible apply Bd.add; walk_at "bd"; walk_at "bd")
  | (with_reducible apply Bd.sub; walk_at "bd"; walk_at "bd")
  | (with_reducible apply Bd.mul; walk_at "bd"; walk_at "bd"))
local macro_rules | `(tactic| walk_at "sm") => `(tactic| first
  | assumption
  | (with_reducible apply Sm.of; walk_at "bd"; decide))
local macro_rules | `(tactic| walk_at "pr") => `(tactic| first
  | assumption
  | (with_reducible apply Pr.bd; walk_at "bd"; walk_at "bd"; decide))
local macro_rules | `(tactic| walk_at "src") => `(tactic| first
  | assumption
  | (refine Same.src (by assumption) ?_; walk_at "src"))
local macro_rules | `(tactic| walk_at "frm") => `(tactic| first
  | assumption
  | exact Frm.refl _ _
  | (refine Frm.trans ?_ (by assumption); walk_at "frm")
  | (refine Frm.trans ?_ (Frm.of (by assumption)); walk_at "frm"))
local macro_rules | `(tactic| walk_at "trk") => `(tactic| first
  | assumption
  | (with_reducible apply Same.trk; assumption; walk_at "trk")
  | (with_reducible apply Frm.trk; assumption; assumption; walk_at "trk"))
local macro_rules | `(tactic| walk_at "same") => `(tactic| first
  | assumption
  | exact Same.refl _
  | (refine Same.trans ?_ (by assumption); walk_at "same"))
local macro_rules | `(tactic| walk_at "sq") => `(tactic| first
  | assumption
  | (with_reducible exact (by assumption : ∀ H, SqT _ H _ _) _)
  | (with_reducible apply SqT.tr; assumption)
  | (with_reducible apply lit0; first | assumption | (with_reducible apply SqT.tr; assumption))
  | (with_reducible apply lit1; first | assumption | (with_reducible apply SqT.tr; assumption))
  | (with_reducible apply lit2; first | assumption | (with_reducible apply SqT.tr; assumption))
  | (with_reducible apply lit3; first | assumption | (with_reducible apply SqT.tr; assumption))
  | (with_reducible apply Same.sqT; assumption; walk_at "sq")
  | (with_reducible apply Frm.sqT; assumption; walk_at "src"; walk_at "sq"))
local macro_rules | `(tactic| walk_at "sl") => `(tactic| first
  | assumption
  | (with_reducible apply SqL.tr; assumption)
  | (with_reducible apply Same.seq; assumption; walk_at "sl"))
local macro_rules | `(tactic| walk_at "v") => `(tactic| first
  | with_reducible apply v0
  | with_reducible apply v1
  | with_reducible apply v2
  | with_reducible apply v3
  | with_reducible apply v4
  | with_reducible apply v5
  | with_reducible apply v6
  | with_reducible apply v7
  | with_reducible apply v8
  | with_reducible apply v9
  | with_reducible apply g0
  | with_reducible apply g1
  | with_reducible apply g2
  | with_reducible apply g3
  | with_reducible apply g4
  | with_reducible apply g5
  | with_reducible apply g6
  | with_reducible apply g7
  | with_reducible apply g8
  | with_reducible apply g9)
local macro_rules | `(tactic| walk_at "x") => `(tactic| first
  | with_reducible apply xseq
  | with_reducible apply xasg
  | with_reducible apply xop
  | with_reducible apply xc
  | with_reducible apply xcons
  | with_reducible apply xnil
  | with_reducible apply xcall
  | with_reducible apply xcb
  | with_reducible apply xret
  | with_reducible apply xifs
  | with_reducible apply xtest
  | with_reducible apply xtB
  | with_reducible apply xbl
  | with_reducible apply xtup
  | with_reducible apply xlst
  | with_reducible apply xnot
  | with_reducible apply xandv
  | with_reducible apply xorv
  | with_reducible apply xnotv
  | with_reducible apply xif
  | with_reducible apply xisN
  | with_reducible apply xnotN
  | with_reducible apply xun
  | with_reducible apply xnext
  | with_reducible apply xdrop
  | with_reducible apply xcont
  | with_reducible apply xpar
  | (with_reducible apply xpar2; dsimp only [List.set_cons_zero, List.set_cons_succ])
  | with_reducible apply xcall1
  | with_reducible apply xcallK
  | with_reducible apply cat2_
  | with_reducible apply kw1_
  | with_reducible apply kw2_
  | with_reducible apply xforL
  | with_reducible apply xforT
  | with_reducible apply xforR
  | with_reducible apply xforR2
  | (with_reducible apply rng_; decide; decide)
  | with_reducible apply xlcT
  | with_reducible apply xlcL
  | with_reducible apply xlcR
  | with_reducible apply xlcR2
  | with_reducible apply xsub)
local macro_rules | `(tactic| walk_at "n") => `(tactic| first
  | with_reducible apply nadd_
  | with_reducible apply nsub_
  | with_reducible apply nlt_
  | with_reducible apply nle_
  | with_reducible apply ngt_
  | with_reducible apply nge_
  | with_reducible apply nneg_
  | (with_reducible apply nmul_; walk_at "mul")
  | with_reducible apply neq_
  | with_reducible apply nne_
  | with_reducible apply seq_
  | with_reducible apply isiII_
  | with_reducible apply isiIB_
  | with_reducible apply isiBB_
  | with_reducible apply isiSS_
  | (with_reducible apply isiT_; walk_at "sq")
  | with_reducible apply gcd_
  | with_reducible apply abs_
  | with_reducible apply intI_
  | with_reducible apply intB_
  | with_reducible apply max_
  | with_reducible apply min_
  | (with_reducible apply tup_; (first | exact sz2 | exact sz3 | exact sz1 | exact sz4 | exact sz0 | (with_unfolding_all refine szN ?_; simp only [List.length_cons, List.length_nil]; omega)); intro _ _ _ _ _)
  | (with_reducible apply lst_; (first | exact sz2 | exact sz3 | exact sz1 | exact sz4 | exact sz0 | (with_unfolding_all refine szN ?_; simp only [List.length_cons, List.length_nil]; omega)); intro _ _ _ _ _))
local macro_rules | `(tactic| walk_at "ix") => `(tactic| first
  | (with_reducible apply ixT_; walk_at "sq"; with_unfolding_all exact rfl)
  | (with_reducible apply lenT_; walk_at "sq")
  | (with_reducible apply lenL_; walk_at "sl")
  | (with_reducible apply ixL_; walk_at "sl"; with_unfolding_all exact rfl))
local macro_rules | `(tactic| walk_at "call") => `(tactic| first
  | (with_reducible apply plus_; walk_at "sq"; walk_at "sq"; walk_at "sm"; walk_at "sm"; intro _ _ _ _)
  | (with_reducible apply minus_; walk_at "sq"; walk_at "sq"; walk_at "sm"; walk_at "sm"; intro _ _ _ _)
  | (with_reducible apply times_; walk_at "sq"; walk_at "sq"; walk_at "sm"; walk_at "sm"; intro _ _ _ _)
  | (with_reducible apply less_; walk_at "sq"; walk_at "sq"; walk_at "sm"; walk_at "sm")
  | (with_reducible apply plusP_; walk_at "sq"; walk_at "sq"; walk_at "pr"; intro _ _ _ _)
  | (with_reducible apply minusP_; walk_at "sq"; walk_at "sq"; walk_at "pr"; intro _ _ _ _)
  | (with_reducible apply timesP_; walk_at "sq"; walk_at "sq"; walk_at "pr"; intro _ _ _ _)
  | (with_reducible apply lessP_; walk_at "sq"; walk_at "sq"; walk_at "pr")
  | with_reducible apply whole_
  | (with_reducible apply isra_; walk_at "sq")
  | (with_reducible apply part_; walk_at "src"; intro _ _ _ _ _ _ _ _)
  | (with_reducible apply anyp_; walk_at "src"; intro _ _ _ _ _ _ _)
  | (with_reducible apply mixed_; intro _)
  | (with_reducible apply next_; walk_at "src"; decide; decide; intro _ _ _ _ _ _))
local macro_rules | `(tactic| walk_at "no") => `(tactic| first | assumption | omega | decide | (simp only [List.length_cons, List.length_nil]; omega))
local macro_rules | `(tactic| walk_at "yes") => `(tactic| first | assumption | exact rfl | omega)
local macro_rules | `(tactic| walk_at "w") => `(tactic| first
  | with_reducible apply wTt
  | with_reducible apply wFf
  | with_reducible apply wNt
  | with_reducible apply wNf
  | (with_reducible apply wDt; with_unfolding_all walk_at "yes")
  | (with_reducible apply wDf; with_unfolding_all walk_at "no")
  | (with_reducible apply wNDt; with_unfolding_all walk_at "yes")
  | (with_reducible apply wNDf; with_unfolding_all walk_at "no")
  | (with_reducible apply gtup2_; walk_at "sq"; with_unfolding_all exact rfl; with_unfolding_all exact rfl))
local macro_rules | `(tactic| walk_at "ao") => `(tactic| first
  | with_reducible apply xand
  | with_reducible apply xor)
local macro_rules | `(tactic| walk_at "sn") => `(tactic| first
  | walk_at "v"
  | walk_at "x"
  | walk_at "n"
  | walk_at "ix"
  | walk_at "call"
  | walk_at "w")
local macro_rules | `(tactic| walk_at "gn") => `(tactic| (repeat walk_at "sn"))
local macro_rules | `(tactic| walk_at "st") => `(tactic| first
  | walk_at "sn"
  | walk_at "ao")
local macro_rules | `(tactic| walk_at "go") => `(tactic| (repeat walk_at "st"))

theorem ok_is_whole (T : Txt K mg) : Good P w K mg base "is_whole" 1 ["thing"] (spWhole) := by
  obtain ⟨gM, fd, F⟩ := dk_is_whole T
  have z0 : ∀ H, SqT K H (He.ga K "ZERO") (fr 0) := T.zero
  have z1 : ∀ H, SqT K H (He.ga K "ONE") (fr 1) := T.one
  refine ⟨gM, F.kp, fd, F.bindsN (fun _ _ _ _ _ _ us hl => match us, hl with | [_], _ => rfl), F.ok sc_is_whole ?_ (fun cdv A outer s H vs Q E hr h => ⟨_, PSs.nox (pss_one (ps_ret (pe_and (pe_callB call_isi (by rfl) (m_isinstance T) bt_isinstance (pa_cons (pv 0) (pa_cons (pe_bltn (v := .ty "int") (by rfl) (m_int T) bt_int rfl) pa_nil))) (pe_one (pe_not (pe_callB call_isi (by rfl) (m_isinstance T) bt_isinstance (pa_cons (pv 0) (pa_cons (pe_bltn (v := .ty "bool") (by rfl) (m_bool T) bt_bool rfl) pa_nil)))))))), ?_⟩)⟩
  · rintro vs H Q E ⟨_, rfl, _⟩; rfl
  obtain ⟨i, rfl, q⟩ := h
  rw [st_is_whole]; try dsimp only [L2.cxOf]
  walk_at "go"
  exact q
theorem ok_is_ratio (T : Txt K mg) : Good P w K mg base "is_ratio" 1 ["thing"] (spIsRatio K) := by
  obtain ⟨gM, fd, F⟩ := dk_is_ratio T
  have z0 : ∀ H, SqT K H (He.ga K "ZERO") (fr 0) := T.zero
  have z1 : ∀ H, SqT K H (He.ga K "ONE") (fr 1) := T.one
  refine ⟨gM, F.kp, fd, F.bindsN (fun _ _ _ _ _ _ us hl => match us, hl with | [_], _ => rfl), F.ok sc_is_ratio ?_ (fun cdv A outer s H vs Q E hr h => ⟨_, PSs.nox (pss_cons (ps_if (PW.pt (pw_or (pt_not (pt_val (pe_callB call_isi (by rfl) (m_isinstance T) bt_isinstance (pa_cons (pv 0) (pa_cons (pe_bltn (v := .ty "tuple") (by rfl) (m_tuple T) bt_tuple rfl) pa_nil))))) (pw_or1 (pt_cmpR op_ne (pe_callB cr_len (by rfl) (m_len T) PySem.boot_len (pa_cons (pv 0) pa_nil)) pe_int (nomark _))))) (pss_one (ps_ret pe_bl)) pss_nil)
    (pss_cons (ps_asg (pv 0) (pg_tup rfl (pgs_cons (pg_name (i := 1) sc_is_ratio.nd rfl (Or.inl rfl)) (pgs_cons (pg_name (i := 2) sc_is_ratio.nd rfl (Or.inl rfl)) pgs_nil))))
    (pss_cons (ps_if (PW.pt (pw_or (pt_not (pt_val (pe_callB call_isi (by rfl) (m_isinstance T) bt_isinstance (pa_cons (pv 1) (pa_cons (pe_bltn (v := .ty "int") (by rfl) (m_int T) bt_int rfl) pa_nil))))) (pw_or (pt_not (pt_val (pe_callB call_isi (by rfl) (m_isinstance T) bt_isinstance (pa_cons (pv 2) (pa_cons (pe_bltn (v := .ty "int") (by rfl) (m_int T) bt_int rfl) pa_nil))))) (pw_or (pt_val (pe_callB call_isi (by rfl) (m_isinstance T) bt_isinstance (pa_cons (pv 1) (pa_cons (pe_bltn (v := .ty "bool") (by rfl) (m_bool T) bt_bool rfl) pa_nil)))) (pw_or1 (pt_val (pe_callB call_isi (by rfl) (m_isinstance T) bt_isinstance (pa_cons (pv 2) (pa_cons (pe_bltn (v := .ty "bool") (by rfl) (m_bool T) bt_bool rfl) pa_nil))))))))) (pss_one (ps_ret pe_bl)) pss_nil)
    (pss_one (ps_ret (pe_or (pe_cmpR op_eq (pv 2) pe_int (nomark _)) (pe_one (pe_and (pe_cmpR op_gt (pv 2) pe_int (nomark _)) (pe_one (pe_cmpR op_eq (pe_callBfun cr_gcd (by rfl) T.gcd (pa_cons (pv 1) (pa_cons (pv 2) pa_nil))) pe_int (nomark _))))))))))), ?_⟩)⟩
  · rintro vs H Q E ⟨_, _, rfl, _⟩; rfl
  obtain ⟨a, q, rfl, hq, k⟩ := h
  have hd := den_pos q
  rw [st_is_ratio]; try dsimp only [L2.cxOf]
  walk_at "go"
  refine wD (fun c => ?_) (fun c => ?_)
  · exact k
  walk_at "go"
  rw [decide_eq_true (gcd_one q)]
  exact k
theorem ok_ratio (T : Txt K mg) : Good P w K mg base "ratio" 1 ["top", "bottom"] (spRatio K) := by
  obtain ⟨gM, fd, F⟩ := dk_ratio T
  have z0 : ∀ H, SqT K H (He.ga K "ZERO") (fr 0) := T.zero
  have z1 : ∀ H, SqT K H (He.ga K "ONE") (fr 1) := T.one
  refine ⟨gM, F.kp, fd, F.bindsN (fun _ _ _ _ _ _ us hl => match us, hl with | [_, _], _ => rfl), F.ok sc_ratio ?_ (fun cdv A outer s H vs Q E hr h => ⟨_, PSs.nox (pss_cons (ps_set (i := 2) sc_ratio.nd rfl (Or.inl rfl) (pe_callBfun cr_gcd (by rfl) T.gcd (pa_cons (pv 0) (pa_cons (pv 1) pa_nil))))
    (pss_cons (ps_if (pt_cmpR op_lt (pv 1) pe_int (nomark _)) pss_never pss_nil)
    (pss_one (ps_ret (pe_tup (pa_cons (pe_op op_fdivW (pv 0) (pv 2)) (pa_cons (pe_op op_fdivW (pv 1) (pv 2)) pa_nil))))))), ?_⟩)⟩
  · rintro vs H Q E ⟨_, _, rfl, _⟩; rfl
  obtain ⟨i, j, rfl, hj, hb, k⟩ := h
  rw [st_ratio]; try dsimp only [L2.cxOf]
  walk_at "go"
  refine ndiv_ (gcd_small hj hb) ?_
  walk_at "go"
  refine ndiv_ (gcd_small hj hb) ?_
  walk_at "go"
  rename_i hz
  rw [ratio_num i j hj, ratio_den i j hj] at hz
  exact k _ _ (by assumption) (SqT.tr hz)
theorem ok_plus (T : Txt K mg) : Good P w K mg base "plus" 2 ["a", "b"] (spPlus K) := by
  have G_ratio := ok_ratio (P := P) (w := w) (base := base) T
  obtain ⟨gM, fd, F⟩ := dk_plus T
  have z0 : ∀ H, SqT K H (He.ga K "ZERO") (fr 0) := T.zero
  have z1 : ∀ H, SqT K H (He.ga K "ONE") (fr 1) := T.one
  refine ⟨gM, F.kp, fd, F.bindsN (fun _ _ _ _ _ _ us hl => match us, hl with | [_, _], _ => rfl), F.ok sc_plus ?_ (fun cdv A outer s H vs Q E hr h => ⟨_, PSs.nox (pss_one (ps_ret (pe_good G_ratio (hr.mono (by decide)) (pa_cons (pe_op op_add (pe_op op_mulW (pe_ix ix_tup (pv 0) pe_int (fun _ _ => rfl)) (pe_ix ix_tup (pv 1) pe_int (fun _ _ => rfl))) (pe_op op_mulW (pe_ix ix_tup (pv 1) pe_int (fun _ _ => rfl)) (pe_ix ix_tup (pv 0) pe_int (fun _ _ => rfl)))) (pa_cons (pe_op op_mulW (pe_ix ix_tup (pv 0) pe_int (fun _ _ => rfl)) (pe_ix ix_tup (pv 1) pe_int (fun _ _ => rfl))) pa_nil))))), ?_⟩)⟩
  · rintro vs H Q E ⟨_, _, _, _, rfl, _⟩; rfl
  obtain ⟨a, b, p, q, rfl, ha, hb, pr, k⟩ := h
  rw [st_plus]; try dsimp only [L2.cxOf]
  walk_at "go"
  refine ratio_ (dd_pos p q) pr.ddn fun c H' e hc => k c H' e ?_
  rw [d_add] at hc
  exact hc
theorem ok_minus (T : Txt K mg) : Good P w K mg base "minus" 2 ["a", "b"] (spMinus K) := by
  have G_ratio := ok_ratio (P := P) (w := w) (base := base) T
  obtain ⟨gM, fd, F⟩ := dk_minus T
  have z0 : ∀ H, SqT K H (He.ga K "ZERO") (fr 0) := T.zero
  have z1 : ∀ H, SqT K H (He.ga K "ONE") (fr 1) := T.one
  refine ⟨gM, F.kp, fd, F.bindsN (fun _ _ _ _ _ _ us hl => match us, hl with | [_, _], _ => rfl), F.ok sc_minus ?_ (fun cdv A outer s H vs Q E hr h => ⟨_, PSs.nox (pss_one (ps_ret (pe_good G_ratio (hr.mono (by decide)) (pa_cons (pe_op op_sub (pe_op op_mulW (pe_ix ix_tup (pv 0) pe_int (fun _ _ => rfl)) (pe_ix ix_tup (pv 1) pe_int (fun _ _ => rfl))) (pe_op op_mulW (pe_ix ix_tup (pv 1) pe_int (fun _ _ => rfl)) (pe_ix ix_tup (pv 0) pe_int (fun _ _ => rfl)))) (pa_cons (pe_op op_mulW (pe_ix ix_tup (pv 0) pe_int (fun _ _ => rfl)) (pe_ix ix_tup (pv 1) pe_int (fun _ _ => rfl))) pa_nil))))), ?_⟩)⟩
  · rintro vs H Q E ⟨_, _, _, _, rfl, _⟩; rfl
  obtain ⟨a, b, p, q, rfl, ha, hb, pr, k⟩ := h
  rw [st_minus]; try dsimp only [L2.cxOf]
  walk_at "go"
  refine ratio_ (dd_pos p q) pr.ddn fun c H' e hc => k c H' e ?_
  rw [d_sub] at hc
  exact hc
theorem ok_times (T : Txt K mg) : Good P w K mg base "times" 2 ["a", "b"] (spTimes K) := by
  have G_ratio := ok_ratio (P := P) (w := w) (base := base) T
  obtain ⟨gM, fd, F⟩ := dk_times T
  have z0 : ∀ H, SqT K H (He.ga K "ZERO") (fr 0) := T.zero
  have z1 : ∀ H, SqT K H (He.ga K "ONE") (fr 1) := T.one
  refine ⟨gM, F.kp, fd, F.bindsN (fun _ _ _ _ _ _ us hl => match us, hl with | [_, _], _ => rfl), F.ok sc_times ?_ (fun cdv A outer s H vs Q E hr h => ⟨_, PSs.nox (pss_one (ps_ret (pe_good G_ratio (hr.mono (by decide)) (pa_cons (pe_op op_mulW (pe_ix ix_tup (pv 0) pe_int (fun _ _ => rfl)) (pe_ix ix_tup (pv 1) pe_int (fun _ _ => rfl))) (pa_cons (pe_op op_mulW (pe_ix ix_tup (pv 0) pe_int (fun _ _ => rfl)) (pe_ix ix_tup (pv 1) pe_int (fun _ _ => rfl))) pa_nil))))), ?_⟩)⟩
  · rintro vs H Q E ⟨_, _, _, _, rfl, _⟩; rfl
  obtain ⟨a, b, p, q, rfl, ha, hb, pr, k⟩ := h
  rw [st_times]; try dsimp only [L2.cxOf]
  walk_at "go"
  refine ratio_ (dd_pos p q) pr.ddn fun c H' e hc => k c H' e ?_
  rw [d_mul] at hc
  exact hc
theorem ok_less (T : Txt K mg) : Good P w K mg base "less" 1 ["a", "b"] (spLess K) := by
  obtain ⟨gM, fd, F⟩ := dk_less T
  have z0 : ∀ H, SqT K H (He.ga K "ZERO") (fr 0) := T.zero
  have z1 : ∀ H, SqT K H (He.ga K "ONE") (fr 1) := T.one
  refine ⟨gM, F.kp, fd, F.bindsN (fun _ _ _ _ _ _ us hl => match us, hl with | [_, _], _ => rfl), F.ok sc_less ?_ (fun cdv A outer s H vs Q E hr h => ⟨_, PSs.nox (pss_one (ps_ret (pe_cmpR op_lt (pe_op op_mulW (pe_ix ix_tup (pv 0) pe_int (fun _ _ => rfl)) (pe_ix ix_tup (pv 1) pe_int (fun _ _ => rfl))) (pe_op op_mulW (pe_ix ix_tup (pv 1) pe_int (fun _ _ => rfl)) (pe_ix ix_tup (pv 0) pe_int (fun _ _ => rfl))) (nomark _)))), ?_⟩)⟩
  · rintro vs H Q E ⟨_, _, _, _, rfl, _⟩; rfl
  obtain ⟨a, b, p, q, rfl, ha, hb, pr, k⟩ := h
  rw [st_less]; try dsimp only [L2.cxOf]
  walk_at "go"
  rw [lt_num]
  exact k
theorem ok__law_cell_at (T : Txt K mg) : Good P w K mg base "_law_cell_at" 1 ["_law_script", "_law_k"] (spCell K) := by
  obtain ⟨gM, fd, F⟩ := dk__law_cell_at T
  have z0 : ∀ H, SqT K H (He.ga K "ZERO") (fr 0) := T.zero
  have z1 : ∀ H, SqT K H (He.ga K "ONE") (fr 1) := T.one
  refine ⟨gM, F.kp, fd, F.bindsN (fun _ _ _ _ _ _ us hl => match us, hl with | [_, _], _ => rfl), F.ok sc__law_cell_at ?_ (fun cdv A outer s H vs Q E hr h => ⟨_, PSs.nox (pss_cons (ps_if (pt_cmpR op_lt (pv 1) (pe_callB cr_len (by rfl) (m_len T) PySem.boot_len (pa_cons (pv 0) pa_nil)) (nomark _)) (pss_one (ps_ret (pe_ix ix_list (pv 0) (pv 1) (fun _ _ => rfl)))) pss_nil)
    (pss_one (ps_ret pe_int))), ?_⟩)⟩
  · rintro vs H Q E ⟨_, _, _, rfl, _⟩; rfl
  obtain ⟨a, ns, i, rfl, hs, hi, q⟩ := h
  rw [st__law_cell_at]; try dsimp only [L2.cxOf]
  walk_at "go"
  refine wD (fun c => ?_) (fun c => ?_)
  · rw [List.length_map] at c
    obtain ⟨n, rfl⟩ := Int.eq_ofNat_of_zero_le hi
    have hn : n < ns.length := by exact_mod_cast c
    walk_at "go"
    refine ixL_ hs (atI_nat (v := .int ns[n]) ?_) ?_
    · rw [List.getElem?_map, List.getElem?_eq_getElem hn]
      rfl
    · exact q _
  · walk_at "go"
    exact q _

theorem ok__law_mixed (T : Txt K mg) : Good P w K mg base "_law_mixed" 1 ["_law_cell", "_law_k"] (spMixed) := by
  obtain ⟨gM, fd, F⟩ := dk__law_mixed T
  have z0 : ∀ H, SqT K H (He.ga K "ZERO") (fr 0) := T.zero
  have z1 : ∀ H, SqT K H (He.ga K "ONE") (fr 1) := T.one
  refine ⟨gM, F.kp, fd, F.bindsN (fun _ _ _ _ _ _ us hl => match us, hl with | [_, _], _ => rfl), F.ok sc__law_mixed ?_ (fun cdv A outer s H vs Q E hr h => ⟨_, PSs.nox (pss_cons (ps_set (i := 2) sc__law_mixed.nd rfl (Or.inl rfl) (pe_op op_add (pe_op op_mod (pe_callTy cr_int (by rfl) (m_int T) bt_int (pa_cons (pv 0) pa_nil)) pe_int) (pe_op op_mul (pe_op op_fdivW (pv 0) pe_int) pe_int)))
    (pss_cons (ps_set (i := 2) sc__law_mixed.nd rfl (Or.inl rfl) (pe_op op_mod (pe_callTy cr_int (by rfl) (m_int T) bt_int (pa_cons (pe_op op_mul (pe_op op_add (pe_op op_add (pv 2) (pe_op op_mul pe_int (pv 1))) pe_int) pe_int) pa_nil)) pe_int))
    (pss_cons (ps_set (i := 2) sc__law_mixed.nd rfl (Or.inl rfl) (pe_op op_mod (pe_callTy cr_int (by rfl) (m_int T) bt_int (pa_cons (pe_op op_mul (pv 2) (pe_op op_add (pe_op op_add (pe_op op_fdivW (pv 2) pe_int) pe_int) (pv 1))) pa_nil)) pe_int))
    (pss_one (ps_ret (pe_op op_mod (pe_callTy cr_int (by rfl) (m_int T) bt_int (pa_cons (pe_op op_mul (pv 2) (pe_op op_add (pe_op op_fdivW (pv 2) pe_int) pe_int)) pa_nil)) pe_int)))))), ?_⟩)⟩
  · rintro vs H Q E ⟨_, _, rfl, _⟩; rfl
  obtain ⟨c, i, rfl, q⟩ := h
  rw [st__law_mixed]; try dsimp only [L2.cxOf]
  walk_at "go"
  refine nmodG (by decide) fun r1 _ _ => ?_
  walk_at "go"
  refine ndivG ⟨by decide, by decide⟩ fun r2 => ?_
  walk_at "go"
  refine nmulR (by decide) ?_
  walk_at "go"
  refine nmulL (by decide) ?_
  walk_at "go"
  refine nmulR (by decide) ?_
  walk_at "go"
  refine nmodG (by decide) fun r3 _ _ => ?_
  walk_at "go"
  refine ndivG ⟨by decide, by decide⟩ fun r4 => ?_
  walk_at "go"
  refine nmulL (by omega) ?_
  walk_at "go"
  refine nmodG (by decide) fun r5 _ _ => ?_
  walk_at "go"
  refine ndivG ⟨by decide, by decide⟩ fun r6 => ?_
  walk_at "go"
  refine nmulL (by omega) ?_
  walk_at "go"
  refine nmodG (by decide) fun r7 _ _ => ?_
  walk_at "go"
  exact q _
theorem ok__law_source (T : Txt K mg) : Good P w K mg base "_law_source" 2 ["_law_script", "_law_k"] (spSource K) := by
  have G__law_mixed := ok__law_mixed (P := P) (w := w) (base := base) T
  have G__law_cell_at := ok__law_cell_at (P := P) (w := w) (base := base) T
  obtain ⟨gM, fd, F⟩ := dk__law_source T
  have z0 : ∀ H, SqT K H (He.ga K "ZERO") (fr 0) := T.zero
  have z1 : ∀ H, SqT K H (He.ga K "ONE") (fr 1) := T.one
  refine ⟨gM, F.kp, fd, F.bindsN (fun _ _ _ _ _ _ us hl => match us, hl with | [_, _], _ => rfl), F.ok sc__law_source ?_ (fun cdv A outer s H vs Q E hr h => ⟨_, PSs.nox (pss_cons (ps_if (pt_cmpR op_lt (pv 1) (pe_callB cr_len (by rfl) (m_len T) PySem.boot_len (pa_cons (pv 0) pa_nil)) (nomark _)) (pss_one (ps_ret (pe_lst (pa_cons (pe_ix ix_list (pv 0) (pv 1) (fun _ _ => rfl)) (pa_cons (pe_ix ix_list (pv 0) (pv 1) (fun _ _ => rfl)) (pa_cons pe_int pa_nil)))))) pss_nil)
    (pss_cons (ps_set (i := 2) sc__law_source.nd rfl (Or.inl rfl) (pe_good G__law_mixed (hr.mono (by decide)) (pa_cons (pe_good G__law_cell_at (hr.mono (by decide)) (pa_cons (pv 0) (pa_cons pe_int pa_nil))) (pa_cons (pe_op op_add pe_int (pv 1)) pa_nil))))
    (pss_one (ps_ret (pe_lst (pa_cons (pv 2) (pa_cons (pv 2) (pa_cons pe_int pa_nil)))))))), ?_⟩)⟩
  · rintro vs H Q E ⟨_, _, _, rfl, _⟩; rfl
  obtain ⟨a, ns, i, rfl, hs, hi, q⟩ := h
  rw [st__law_source]; try dsimp only [L2.cxOf]
  walk_at "go"
  refine wD (fun c => ?_) (fun c => ?_)
  · rw [List.length_map] at c
    obtain ⟨n, rfl⟩ := Int.eq_ofNat_of_zero_le hi
    have hn : n < ns.length := by exact_mod_cast c
    have ht : (ns.map V.int)[n]? = some (.int ns[n]) := by
      rw [List.getElem?_map, List.getElem?_eq_getElem hn]
      rfl
    walk_at "go"
    refine ixL_ hs (atI_nat ht) ?_
    walk_at "go"
    refine ixL_ hs (atI_nat ht) ?_
    walk_at "go"
    exact q _ _ (by assumption) (by assumption) ⟨_, _, _, by assumption⟩
  · walk_at "go"
    refine ⟨a, ns, 0, rfl, hs, by decide, fun j => ?_⟩
    walk_at "go"
    exact q _ _ (by assumption) (by assumption) ⟨_, _, _, by assumption⟩
theorem ok__law_next (T : Txt K mg) : Good P w K mg base "_law_next" 2 ["_law_source_here", "_law_many"] (spNext) := by
  have G__law_mixed := ok__law_mixed (P := P) (w := w) (base := base) T
  obtain ⟨gM, fd, F⟩ := dk__law_next T
  have z0 : ∀ H, SqT K H (He.ga K "ZERO") (fr 0) := T.zero
  have z1 : ∀ H, SqT K H (He.ga K "ONE") (fr 1) := T.one
  refine ⟨gM, F.kp, fd, F.bindsN (fun _ _ _ _ _ _ us hl => match us, hl with | [_, _], _ => rfl), F.ok sc__law_next ?_ (fun cdv A outer s H vs Q E hr h => ⟨_, PSs.nox (pss_cons (ps_if (pt_cmpR op_ge (pe_ix ix_list (pv 0) pe_int (fun _ _ => rfl)) (pe_op op_pow pe_int pe_int) (nomark _)) (pss_cons (ps_set (i := 2) sc__law_next.nd rfl (Or.inl rfl) (pe_op op_mod (pe_callTy cr_int (by rfl) (m_int T) bt_int (pa_cons (pe_ix ix_list (pv 0) pe_int (fun _ _ => rfl)) pa_nil)) (pv 1)))
    (pss_cons (ps_asg (pe_op op_fdivW (pe_ix ix_list (pv 0) pe_int (fun _ _ => rfl)) (pv 1)) (pg_sub (pv 0) pe_int set_list))
    (pss_one (ps_ret (pv 2))))) pss_nil)
    (pss_cons (ps_asg (pe_op op_add (pe_ix ix_list (pv 0) pe_int (fun _ _ => rfl)) pe_int) (pg_sub (pv 0) pe_int set_list))
    (pss_one (ps_ret (pe_op op_mod (pe_callTy cr_int (by rfl) (m_int T) bt_int (pa_cons (pe_good G__law_mixed (hr.mono (by decide)) (pa_cons (pe_ix ix_list (pv 0) pe_int (fun _ _ => rfl)) (pa_cons (pe_ix ix_list (pv 0) pe_int (fun _ _ => rfl)) pa_nil))) pa_nil)) (pv 1)))))), ?_⟩)⟩
  · rintro vs H Q E ⟨_, _, rfl, _⟩; rfl
  obtain ⟨a, n, rfl, hs, hn, hn2, q⟩ := h
  obtain ⟨i, j, k, hs⟩ := hs
  have hsl : SqL K H a [.int i, .int j, .int k] := SqL.tr hs
  have hd : ∀ i, CDivW i n := fun i => wide_div (b := 64) hn (by omega) (by decide) (by decide)
  rw [st__law_next]; try dsimp only [L2.cxOf]
  walk_at "go"
  refine npow_ (by unfold CPow; decide) ?_
  walk_at "go"
  refine wD (fun c => ?_) (fun c => ?_)
  · walk_at "go"
    refine nmodG hn fun r h0 h1 => ?_
    walk_at "go"
    refine ndivG (hd _) fun r2 => ?_
    walk_at "go"
    refine set0_ hs ?_
    walk_at "go"
    exact q _ _ h0 h1 upd_src upd_frm
  · walk_at "go"
    refine set2_ hs ?_
    have hsl2 : SqL K (upd H a (.lst [.int i, .int j, .int (k + 1)])) a [.int i, .int j, .int (k + 1)] := SqL.tr upd_same
    walk_at "go"
    refine nmodG hn fun r h0 h1 => ?_
    exact q _ _ h0 h1 upd_src upd_frm
theorem ok__law_one (T : Txt K mg) : Good P w K mg base "_law_one" 3 ["_law_source_here", "_law_things"] (spOne K) := by
  have G__law_next := ok__law_next (P := P) (w := w) (base := base) T
  obtain ⟨gM, fd, F⟩ := dk__law_one T
  have z0 : ∀ H, SqT K H (He.ga K "ZERO") (fr 0) := T.zero
  have z1 : ∀ H, SqT K H (He.ga K "ONE") (fr 1) := T.one
  refine ⟨gM, F.kp, fd, F.bindsN (fun _ _ _ _ _ _ us hl => match us, hl with | [_, _], _ => rfl), F.ok sc__law_one ?_ (fun cdv A outer s H vs Q E hr h => ⟨_, PSs.nox (pss_one (ps_ret (pe_ix ix_seq (pv 1) (pe_good G__law_next (hr.mono (by decide)) (pa_cons (pv 0) (pa_cons (pe_callB cr_len (by rfl) (m_len T) PySem.boot_len (pa_cons (pv 1) pa_nil)) pa_nil))) (fun _ _ => rfl)))), ?_⟩)⟩
  · rintro vs H Q E ⟨_, _, _, rfl, _⟩; rfl
  obtain ⟨a, t, xs, rfl, hs, hx, h0, h1, q⟩ := h
  rw [st__law_one]; try dsimp only [L2.cxOf]
  walk_at "go"
  refine ⟨t, xs, rfl, ?_, ?_⟩
  · exact hx.elim (fun z => .inl z.1) .inr
  walk_at "go"
  refine next_ (n := (xs.length : Int)) hs (by omega) (by omega) fun r H' r0 r1 hs' hf => ?_
  obtain ⟨n, rfl⟩ := Int.eq_ofNat_of_zero_le r0
  have hn : n < xs.length := by exact_mod_cast r1
  have hv : atI xs (n : Int) = some xs[n] := atI_nat (List.getElem?_eq_getElem hn)
  rcases hx with ⟨z, ne⟩ | z
  · exact .inl ⟨t, xs, _, _, rfl, rfl, Frm.sqL hf ne z, hv, q _ _ (List.getElem_mem hn) hs' hf⟩
  · exact .inr (.inl ⟨t, xs, _, _, rfl, rfl, Frm.sqT hf hs z, hv, q _ _ (List.getElem_mem hn) hs' hf⟩)
theorem ok__law_divisor (T : Txt K mg) : Good P w K mg base "_law_divisor" 1 ["_law_one_here", "_law_other"] (spDivisor) := by
  obtain ⟨gM, fd, F⟩ := dk__law_divisor T
  have z0 : ∀ H, SqT K H (He.ga K "ZERO") (fr 0) := T.zero
  have z1 : ∀ H, SqT K H (He.ga K "ONE") (fr 1) := T.one
  refine ⟨gM, F.kp, fd, F.bindsN (fun _ _ _ _ _ _ us hl => match us, hl with | [_, _], _ => rfl), F.ok sc__law_divisor ?_ (fun cdv A outer s H vs Q E hr h => ⟨_, PSs.nox (pss_cons (ps_while PassesOwn.never (pt_cmpR op_gt (pv 1) pe_int (nomark _))
      (pss_one (ps_par (i := 0) (j := 1) rfl sc__law_divisor.nd rfl rfl (by decide) rfl rfl (pa_cons (pv 1) (pa_cons (pe_op op_mod (pe_callTy cr_int (by rfl) (m_int T) bt_int (pa_cons (pv 0) pa_nil)) (pv 1)) pa_nil)) (by rfl))))
    (pss_one (ps_ret (pv 0)))), ?_⟩)⟩
  · rintro vs H Q E ⟨_, _, rfl, _⟩; rfl
  obtain ⟨a, b, rfl, q⟩ := h
  rw [st__law_divisor]; try dsimp only [L2.cxOf]
  walk_at "x"
  refine ⟨fun m σ H' => ∃ a' : Nat, σ = [some (.int a'), some (.int m)] ∧ Nat.gcd a' m = Nat.gcd a b ∧ H' = H, ⟨b, a, rfl, rfl, rfl⟩, ?_⟩
  rintro m σ H' ⟨a', rfl, hg, rfl⟩
  walk_at "go"
  refine wD (fun c => ?_) (fun c => ?_)
  · have hm : 0 < m := by exact_mod_cast c
    refine ⟨fun σ' H'' => σ' = [some (.int m), some (.int ((a' % m : Nat) : Int))] ∧ H'' = H', ?_, ?_⟩
    · rintro σ' H'' ⟨rfl, rfl⟩
      refine ⟨a' % m, Nat.mod_lt _ hm, m, rfl, ?_, rfl⟩
      rw [← hg, Nat.gcd_comm m, ← Nat.gcd_rec, Nat.gcd_comm]
    · walk_at "go"
      refine nmod_ c ?_
      walk_at "go"
      exact ⟨by rw [Int.natCast_emod] <;> rfl, rfl⟩
  · have hm : m = 0 := by omega
    subst hm
    walk_at "go"
    rw [← hg, Nat.gcd_zero_right] at q
    exact q
theorem ok__law_ratio (T : Txt K mg) : Good P w K mg base "_law_ratio" 2 ["_law_top", "_law_bottom"] (spRatio K) := by
  have G__law_divisor := ok__law_divisor (P := P) (w := w) (base := base) T
  obtain ⟨gM, fd, F⟩ := dk__law_ratio T
  have z0 : ∀ H, SqT K H (He.ga K "ZERO") (fr 0) := T.zero
  have z1 : ∀ H, SqT K H (He.ga K "ONE") (fr 1) := T.one
  refine ⟨gM, F.kp, fd, F.bindsN (fun _ _ _ _ _ _ us hl => match us, hl with | [_, _], _ => rfl), F.ok sc__law_ratio ?_ (fun cdv A outer s H vs Q E hr h => ⟨_, PSs.nox (pss_cons (ps_if (pt_cmpR op_lt (pv 1) pe_int (nomark _)) pss_never pss_nil)
    (pss_cons (ps_set (i := 2) sc__law_ratio.nd rfl (Or.inl rfl) (pe_good G__law_divisor (hr.mono (by decide)) (pa_cons (pe_callB cr_abs (by rfl) (m_abs T) bt_abs (pa_cons (pv 0) pa_nil)) (pa_cons (pv 1) pa_nil))))
    (pss_one (ps_ret (pe_tup (pa_cons (pe_op op_fdivW (pv 0) (pv 2)) (pa_cons (pe_op op_fdivW (pv 1) (pv 2)) pa_nil))))))), ?_⟩)⟩
  · rintro vs H Q E ⟨_, _, rfl, _⟩; rfl
  obtain ⟨i, j, rfl, hj, hb, k⟩ := h
  obtain ⟨n, rfl⟩ := Int.eq_ofNat_of_zero_le (Int.le_of_lt hj)
  rw [st__law_ratio]; try dsimp only [L2.cxOf]
  walk_at "go"
  refine ⟨i.natAbs, n, rfl, ?_⟩
  have hg : ((Nat.gcd i.natAbs n : Nat) : Int) = ((Nat.gcd i.natAbs (n : Int).natAbs : Nat) : Int) := by rw [Int.natAbs_natCast]
  rw [hg]
  walk_at "go"
  refine ndiv_ (gcd_small hj hb) ?_
  walk_at "go"
  refine ndiv_ (gcd_small hj hb) ?_
  walk_at "go"
  rename_i hz
  rw [ratio_num i n hj, ratio_den i n hj] at hz
  exact k _ _ (by assumption) (SqT.tr hz)

theorem ok__law_plus (T : Txt K mg) : Good P w K mg base "_law_plus" 3 ["_law_one_here", "_law_other"] (spPlus K) := by
  have G__law_ratio := ok__law_ratio (P := P) (w := w) (base := base) T
  obtain ⟨gM, fd, F⟩ := dk__law_plus T
  have z0 : ∀ H, SqT K H (He.ga K "ZERO") (fr 0) := T.zero
  have z1 : ∀ H, SqT K H (He.ga K "ONE") (fr 1) := T.one
  refine ⟨gM, F.kp, fd, F.bindsN (fun _ _ _ _ _ _ us hl => match us, hl with | [_, _], _ => rfl), F.ok sc__law_plus ?_ (fun cdv A outer s H vs Q E hr h => ⟨_, PSs.nox (pss_one (ps_ret (pe_good G__law_ratio (hr.mono (by decide)) (pa_cons (pe_op op_add (pe_op op_mulW (pe_ix ix_tup (pv 0) pe_int (fun _ _ => rfl)) (pe_ix ix_tup (pv 1) pe_int (fun _ _ => rfl))) (pe_op op_mulW (pe_ix ix_tup (pv 1) pe_int (fun _ _ => rfl)) (pe_ix ix_tup (pv 0) pe_int (fun _ _ => rfl)))) (pa_cons (pe_op op_mulW (pe_ix ix_tup (pv 0) pe_int (fun _ _ => rfl)) (pe_ix ix_tup (pv 1) pe_int (fun _ _ => rfl))) pa_nil))))), ?_⟩)⟩
  · rintro vs H Q E ⟨_, _, _, _, rfl, _⟩; rfl
  obtain ⟨a, b, p, q, rfl, ha, hb, pr, k⟩ := h
  rw [st__law_plus]; try dsimp only [L2.cxOf]
  walk_at "go"
  refine ratio_ (dd_pos p q) pr.ddn fun c H' e hc => k c H' e ?_
  rw [d_add] at hc
  exact hc
theorem ok__law_minus (T : Txt K mg) : Good P w K mg base "_law_minus" 3 ["_law_one_here", "_law_other"] (spMinus K) := by
  have G__law_ratio := ok__law_ratio (P := P) (w := w) (base := base) T
  obtain ⟨gM, fd, F⟩ := dk__law_minus T
  have z0 : ∀ H, SqT K H (He.ga K "ZERO") (fr 0) := T.zero
  have z1 : ∀ H, SqT K H (He.ga K "ONE") (fr 1) := T.one
  refine ⟨gM, F.kp, fd, F.bindsN (fun _ _ _ _ _ _ us hl => match us, hl with | [_, _], _ => rfl), F.ok sc__law_minus ?_ (fun cdv A outer s H vs Q E hr h => ⟨_, PSs.nox (pss_one (ps_ret (pe_good G__law_ratio (hr.mono (by decide)) (pa_cons (pe_op op_sub (pe_op op_mulW (pe_ix ix_tup (pv 0) pe_int (fun _ _ => rfl)) (pe_ix ix_tup (pv 1) pe_int (fun _ _ => rfl))) (pe_op op_mulW (pe_ix ix_tup (pv 1) pe_int (fun _ _ => rfl)) (pe_ix ix_tup (pv 0) pe_int (fun _ _ => rfl)))) (pa_cons (pe_op op_mulW (pe_ix ix_tup (pv 0) pe_int (fun _ _ => rfl)) (pe_ix ix_tup (pv 1) pe_int (fun _ _ => rfl))) pa_nil))))), ?_⟩)⟩
  · rintro vs H Q E ⟨_, _, _, _, rfl, _⟩; rfl
  obtain ⟨a, b, p, q, rfl, ha, hb, pr, k⟩ := h
  rw [st__law_minus]; try dsimp only [L2.cxOf]
  walk_at "go"
  refine ratio_ (dd_pos p q) pr.ddn fun c H' e hc => k c H' e ?_
  rw [d_sub] at hc
  exact hc
theorem ok__law_less (T : Txt K mg) : Good P w K mg base "_law_less" 1 ["_law_one_here", "_law_other"] (spLess K) := by
  obtain ⟨gM, fd, F⟩ := dk__law_less T
  have z0 : ∀ H, SqT K H (He.ga K "ZERO") (fr 0) := T.zero
  have z1 : ∀ H, SqT K H (He.ga K "ONE") (fr 1) := T.one
  refine ⟨gM, F.kp, fd, F.bindsN (fun _ _ _ _ _ _ us hl => match us, hl with | [_, _], _ => rfl), F.ok sc__law_less ?_ (fun cdv A outer s H vs Q E hr h => ⟨_, PSs.nox (pss_one (ps_ret (pe_cmpR op_lt (pe_op op_mulW (pe_ix ix_tup (pv 0) pe_int (fun _ _ => rfl)) (pe_ix ix_tup (pv 1) pe_int (fun _ _ => rfl))) (pe_op op_mulW (pe_ix ix_tup (pv 1) pe_int (fun _ _ => rfl)) (pe_ix ix_tup (pv 0) pe_int (fun _ _ => rfl))) (nomark _)))), ?_⟩)⟩
  · rintro vs H Q E ⟨_, _, _, _, rfl, _⟩; rfl
  obtain ⟨a, b, p, q, rfl, ha, hb, pr, k⟩ := h
  rw [st__law_less]; try dsimp only [L2.cxOf]
  walk_at "go"
  rw [lt_num]
  exact k

theorem ok__law_part (T : Txt K mg) : Good P w K mg base "_law_part" 3 ["_law_source_here"] (spPart K) := by
  have G__law_next := ok__law_next (P := P) (w := w) (base := base) T
  have G__law_ratio := ok__law_ratio (P := P) (w := w) (base := base) T
  obtain ⟨gM, fd, F⟩ := dk__law_part T
  have z0 : ∀ H, SqT K H (He.ga K "ZERO") (fr 0) := T.zero
  have z1 : ∀ H, SqT K H (He.ga K "ONE") (fr 1) := T.one
  refine ⟨gM, F.kp, fd, F.bindsN (fun _ _ _ _ _ _ us hl => match us, hl with | [_], _ => rfl), F.ok sc__law_part ?_ (fun cdv A outer s H vs Q E hr h => ⟨_, PSs.nox (pss_cons (ps_set (i := 1) sc__law_part.nd rfl (Or.inl rfl) (pe_good G__law_next (hr.mono (by decide)) (pa_cons (pv 0) (pa_cons pe_int pa_nil))))
    (pss_cons (ps_if (pt_cmpR op_eq (pv 1) pe_int (nomark _)) (pss_one (ps_ret (pe_tup (pa_cons pe_int (pa_cons pe_int pa_nil))))) pss_nil)
    (pss_cons (ps_if (pt_cmpR op_lt (pv 1) pe_int (nomark _)) (pss_one (ps_ret (pe_tup (pa_cons (pe_op op_add pe_int (pe_good G__law_next (hr.mono (by decide)) (pa_cons (pv 0) (pa_cons pe_int pa_nil)))) (pa_cons pe_int pa_nil))))) pss_nil)
    (pss_cons (ps_if (pt_cmpR op_eq (pv 1) pe_int (nomark _)) (pss_one (ps_ret (pe_good G__law_ratio (hr.mono (by decide)) (pa_cons (pe_op op_add pe_int (pe_good G__law_next (hr.mono (by decide)) (pa_cons (pv 0) (pa_cons pe_int pa_nil)))) (pa_cons (pe_op op_add pe_int (pe_good G__law_next (hr.mono (by decide)) (pa_cons (pv 0) (pa_cons pe_int pa_nil)))) pa_nil))))) pss_nil)
    (pss_one (ps_ret (pe_good G__law_ratio (hr.mono (by decide)) (pa_cons (pe_op op_add pe_int (pe_good G__law_next (hr.mono (by decide)) (pa_cons (pv 0) (pa_cons (pe_op op_pow pe_int pe_int) pa_nil)))) (pa_cons (pe_op op_add pe_int (pe_good G__law_next (hr.mono (by decide)) (pa_cons (pv 0) (pa_cons pe_int pa_nil)))) pa_nil))))))))), ?_⟩)⟩
  · rintro vs H Q E ⟨_, rfl, _⟩; rfl
  obtain ⟨a, rfl, hs, q⟩ := h
  rw [st__law_part]; try dsimp only [L2.cxOf]
  walk_at "go"
  refine wD (fun c => ?_) (fun c => ?_)
  · walk_at "go"
    exact q _ 0 _ (by walk_at "sq") (Bd.q0.mono (by decide)) Rat.le_refl (by walk_at "src") (by walk_at "frm")
  walk_at "go"
  refine wD (fun c => ?_) (fun c => ?_)
  · walk_at "go"
    rename_i r2 H2 b0 b1 s2 f2 p H3 hp e3 ht
    exact q p ((1 + r2 : Int) : Rat) H3 (SqT.tr ht) (Bd.int (by omega) (by decide)) (Rat.intCast_nonneg.mpr (by omega)) (by walk_at "src") (by walk_at "frm")
  walk_at "go"
  refine wD (fun c => ?_) (fun c => ?_)
  · walk_at "go"
    rename_i r2 H2 b0 b1 s2 f2 r3 H3 c0 c1 s3 f3
    exact ratio_ (by omega) (pow_up (n := 31) (by omega) (by decide)) fun c H' e hc => q c _ H' hc (Bd.div (by omega) (by omega) (by omega)) (Rat.divInt_nonneg (by omega) (by omega)) (by walk_at "src") (by walk_at "frm")
  · walk_at "go"
    refine npow_ (by unfold CPow; decide) ?_
    have e9 : (10 : Int) ^ (9 : Int).toNat = 1000000000 := by decide
    rw [e9]
    walk_at "go"
    rename_i r2 H2 b0 b1 s2 f2 r3 H3 c0 c1 s3 f3
    exact ratio_ (by omega) (pow_up (n := 31) (by omega) (by decide)) fun c H' e hc => q c _ H' hc (Bd.div (by omega) (by omega) (by omega)) (Rat.divInt_nonneg (by omega) (by omega)) (by walk_at "src") (by walk_at "frm")
theorem ok__law_any_part (T : Txt K mg) : Good P w K mg base "_law_any_part" 4 ["_law_source_here"] (spAnyPart K) := by
  have G__law_part := ok__law_part (P := P) (w := w) (base := base) T
  have G__law_next := ok__law_next (P := P) (w := w) (base := base) T
  obtain ⟨gM, fd, F⟩ := dk__law_any_part T
  have z0 : ∀ H, SqT K H (He.ga K "ZERO") (fr 0) := T.zero
  have z1 : ∀ H, SqT K H (He.ga K "ONE") (fr 1) := T.one
  refine ⟨gM, F.kp, fd, F.bindsN (fun _ _ _ _ _ _ us hl => match us, hl with | [_], _ => rfl), F.ok sc__law_any_part ?_ (fun cdv A outer s H vs Q E hr h => ⟨_, PSs.nox (pss_cons (ps_set (i := 1) sc__law_any_part.nd rfl (Or.inl rfl) (pe_good G__law_part (hr.mono (by decide)) (pa_cons (pv 0) pa_nil)))
    (pss_one (ps_ret (pe_ifExp (pt_cmpR op_eq (pe_good G__law_next (hr.mono (by decide)) (pa_cons (pv 0) (pa_cons pe_int pa_nil))) pe_int (nomark _)) (pe_tup (pa_cons (pe_op op_sub pe_int (pe_ix ix_tup (pv 1) pe_int (fun _ _ => rfl))) (pa_cons (pe_ix ix_tup (pv 1) pe_int (fun _ _ => rfl)) pa_nil))) (pv 1))))), ?_⟩)⟩
  · rintro vs H Q E ⟨_, rfl, _⟩; rfl
  obtain ⟨a, rfl, hs, q⟩ := h
  rw [st__law_any_part]; try dsimp only [L2.cxOf]
  walk_at "go"
  rename_i p0 q0 H1 hq hb h0 s1 f1 r H2 r0 r1 s2 f2
  refine wD (fun c => ?_) (fun c => ?_)
  · walk_at "go"
    rename_i p H3 hp e3 ht
    rw [Int.zero_sub] at ht
    exact q p (-q0) H3 (SqT.tr ht) (Bd.neg hb) (by walk_at "src") (by walk_at "frm")
  · walk_at "go"
    exact q _ _ _ (by walk_at "sq") hb (by walk_at "src") (by walk_at "frm")

/-- the four sorts of steps -/
inductive Wh where
  | start | fin | non | both
  deriving DecidableEq
def Wh.s : Wh → Str
  | .start => "start"
  | .fin => "end"
  | .non => "none"
  | .both => "both"
def Wh.up : Wh → Bool
  | .start => true
  | .both => true
  | _ => false
def Wh.isN : Wh → Bool
  | .non => true
  | _ => false
def Wh.isB : Wh → Bool
  | .both => true
  | _ => false
def Wh.most (w : Wh) (n : Int) : Int := if w.isN then n - 1 else if w.isB then n + 1 else n
theorem wh_in {K : PySem.W.Frag} {H : Hp} {Q : VK} {p : Addr} (w : Wh) (h : SqT K H p [.str "start", .str "both"]) (k : Q (.bl w.up) H) : rIn K false (.str w.s) (.ref p) H Q := by
  refine ⟨p, _, rfl, .inr h, by cases w <;> rfl, rfl, ?_⟩
  have e : inV (.str w.s) [V.str "start", V.str "both"] = w.up := by cases w <;> decide +kernel
  show Q (.bl (if false = true then _ else _)) H
  rw [if_neg Bool.false_ne_true, e]
  exact k
theorem wh_in3 {K : PySem.W.Frag} {H : Hp} {Q : VK} {p : Addr} (w : Wh) (h : SqT K H p [.str "start", .str "end", .str "both"]) (k : Q (.bl (!w.isN)) H) : rIn K false (.str w.s) (.ref p) H Q := by
  refine ⟨p, _, rfl, .inr h, by cases w <;> rfl, rfl, ?_⟩
  have e : inV (.str w.s) [V.str "start", V.str "end", V.str "both"] = !w.isN := by cases w <;> decide +kernel
  show Q (.bl (if false = true then _ else _)) H
  rw [if_neg Bool.false_ne_true, e]
  exact k
theorem wh_non {H : Hp} {Q : VK} (w : Wh) (k : Q (.bl w.isN) H) : rEq (.str w.s) (.str "none") H Q := by
  refine seq_ ?_
  have e : decide (w.s = "none") = w.isN := by cases w <;> decide +kernel
  rw [e]
  exact k
theorem wh_both {H : Hp} {Q : VK} (w : Wh) (k : Q (.bl w.isB) H) : rEq (.str w.s) (.str "both") H Q := by
  refine seq_ ?_
  have e : decide (w.s = "both") = w.isB := by cases w <;> decide +kernel
  rw [e]
  exact k
/-- the steps that are done; their share -/
def stp (n : Int) (w : Wh) (q : Rat) (e : Bool) : Int :=
  let s0 := q.num * n / (q.den : Int) + (if w.up then 1 else 0)
  let s1 := if e && decide (q.num * n % (q.den : Int) = 0) then s0 - 1 else s0
  let s2 := if s1 < 0 ∧ 0 ≤ q.num then 0 else s1
  if w.most n < s2 ∧ q.num ≤ (q.den : Int) then w.most n else s2
def stv (n : Int) (w : Wh) (q : Rat) (e : Bool) : Rat := Rat.divInt (stp n w q e) (w.most n)
/-- a number of steps that fits its sort -/
def NOk (n : Int) (w : Wh) : Prop := (if w.isN then 2 else 1) ≤ n ∧ n < 2 ^ 40
theorem NOk.most {n : Int} {w : Wh} (h : NOk n w) : 0 < w.most n ∧ w.most n < 2 ^ 41 := by
  unfold NOk at h
  unfold Wh.most
  cases w <;> simp [Wh.isN, Wh.isB] at h ⊢ <;> omega
theorem NOk.pos {n : Int} {w : Wh} (h : NOk n w) : 1 ≤ n ∧ n < 2 ^ 40 := by
  unfold NOk at h
  cases w <;> simp [Wh.isN] at h ⊢ <;> omega
def spMost : Sp := fun vs H Q _ => ∃ (n : Int) (w : Wh), vs = [.int n, .str w.s] ∧ Q (.int (w.most n)) H
def spAreSteps : Sp := fun vs H Q _ => ∃ (n : Int) (w : Wh), vs = [.int n, .str w.s] ∧ NOk n w ∧ ∀ H', Same H H' → Q (.bl true) H'
def spStep (K : PySem.W.Frag) : Sp := fun vs H Q _ => ∃ (n : Int) (w : Wh) (x : Addr) (e : Bool) (q : Rat), vs = [.int n, .str w.s, .ref x, .bl e] ∧ NOk n w ∧ SqT K H x (fr q) ∧ Bd 200 q ∧ ∀ c H', Same H H' → SqT K H' c (fr (stv n w q e)) → Q (.ref c) H'
def spIsCurve (K : PySem.W.Frag) : Sp := fun vs H Q _ => ∃ (c : Addr) (n : Int) (w : Wh), vs = [.ref c] ∧ SqT K H c [.str "steps", .int n, .str w.s] ∧ NOk n w ∧ ∀ H', Same H H' → Q (.bl true) H'
def spValue (K : PySem.W.Frag) : Sp := fun vs H Q _ => ∃ (c x : Addr) (n : Int) (w : Wh) (e : Bool) (q : Rat), vs = [.ref c, .ref x, .bl e] ∧ SqT K H c [.str "steps", .int n, .str w.s] ∧ NOk n w ∧ SqT K H x (fr q) ∧ Bd 200 q ∧ ∀ c H', Same H H' → SqT K H' c (fr (stv n w q e)) → Q (.ref c) H'
theorem NOk.mul {n : Int} {w : Wh} {q : Rat} (h : NOk n w) (b : Bd 200 q) : CMulW q.num n := CMulW.of (b := 40) b.1 (by have := h.pos; omega) (by decide)
theorem den_div {q : Rat} (i : Int) (b : Bd 200 q) : CDivW i (q.den : Int) := wide_div (b := 200) (by exact_mod_cast den_pos q) (by rw [Int.natAbs_natCast]; exact b.2) (by decide) (by decide)
theorem den_pos' (q : Rat) : (0 : Int) < (q.den : Int) := by exact_mod_cast den_pos q
theorem wNon (w : Wh) : decide (w.s = "none") = w.isN := by cases w <;> decide +kernel
theorem wBoth (w : Wh) : decide (w.s = "both") = w.isB := by cases w <;> decide +kernel
theorem most_N {n : Int} {w : Wh} (h : w.isN = true) : w.most n = n - 1 := by unfold Wh.most; rw [h] <;> rfl
theorem most_B {n : Int} {w : Wh} (h : w.isN = false) (h2 : w.isB = true) : w.most n = n + 1 := by unfold Wh.most; rw [h, h2] <;> rfl
theorem most_S {n : Int} {w : Wh} (h : w.isN = false) (h2 : w.isB = false) : w.most n = n := by unfold Wh.most; rw [h, h2] <;> rfl
theorem ok__most_steps (T : Txt K mg) : Good P w K mg base "_most_steps" 1 ["count", "where"] (spMost) := by
  obtain ⟨gM, fd, F⟩ := dk__most_steps T
  have z0 : ∀ H, SqT K H (He.ga K "ZERO") (fr 0) := T.zero
  have z1 : ∀ H, SqT K H (He.ga K "ONE") (fr 1) := T.one
  refine ⟨gM, F.kp, fd, F.bindsN (fun _ _ _ _ _ _ us hl => match us, hl with | [_, _], _ => rfl), F.ok sc__most_steps ?_ (fun cdv A outer s H vs Q E hr h => ⟨_, PSs.nox (pss_cons (ps_if (pt_cmpR op_eq (pv 1) pe_str (nomark _)) (pss_one (ps_ret (pe_op op_sub (pv 0) pe_int))) pss_nil)
    (pss_cons (ps_if (pt_cmpR op_eq (pv 1) pe_str (nomark _)) (pss_one (ps_ret (pe_op op_add (pv 0) pe_int))) pss_nil)
    (pss_one (ps_ret (pv 0))))), ?_⟩)⟩
  · rintro vs H Q E ⟨_, _, rfl, _⟩; rfl
  obtain ⟨n, w, rfl, k⟩ := h
  rw [st__most_steps]; try dsimp only [L2.cxOf]
  walk_at "go"
  rw [wNon]
  refine wB (fun c => ?_) (fun c => ?_)
  · walk_at "go"
    rw [most_N c] at k
    exact k
  walk_at "go"
  rw [wBoth]
  refine wB (fun c2 => ?_) (fun c2 => ?_)
  · walk_at "go"
    rw [most_B c c2] at k
    exact k
  walk_at "go"
  rw [most_S c c2] at k
  exact k
theorem ok__are_steps (T : Txt K mg) : Good P w K mg base "_are_steps" 2 ["count", "where"] (spAreSteps) := by
  have G_is_whole := ok_is_whole (P := P) (w := w) (base := base) T
  obtain ⟨gM, fd, F⟩ := dk__are_steps T
  have z0 : ∀ H, SqT K H (He.ga K "ZERO") (fr 0) := T.zero
  have z1 : ∀ H, SqT K H (He.ga K "ONE") (fr 1) := T.one
  refine ⟨gM, F.kp, fd, F.bindsN (fun _ _ _ _ _ _ us hl => match us, hl with | [_, _], _ => rfl), F.ok sc__are_steps ?_ (fun cdv A outer s H vs Q E hr h => ⟨_, PSs.nox (pss_cons (ps_if (PW.pt (pw_or (pt_not (pt_val (pe_good G_is_whole (hr.mono (by decide)) (pa_cons (pv 0) pa_nil)))) (pw_or1 (pt_not (pt_val (pe_callB call_isi (by rfl) (m_isinstance T) bt_isinstance (pa_cons (pv 1) (pa_cons (pe_bltn (v := .ty "str") (by rfl) (m_str T) bt_str rfl) pa_nil)))))))) (pss_one (ps_ret pe_bl)) pss_nil)
    (pss_cons (ps_if (pt_cmpR op_eq (pv 1) pe_str (nomark _)) (pss_one (ps_ret (pe_cmpR op_ge (pv 0) pe_int (nomark _)))) pss_nil)
    (pss_one (ps_ret (pe_and (pe_cmpR op_in_seq (pv 1) (pe_tup (pa_cons pe_str (pa_cons pe_str (pa_cons pe_str pa_nil)))) rfl) (pe_one (pe_cmpR op_ge (pv 0) pe_int (nomark _)))))))), ?_⟩)⟩
  · rintro vs H Q E ⟨_, _, rfl, _⟩; rfl
  obtain ⟨n, w, rfl, hn, k⟩ := h
  have hn1 := hn.pos
  rw [st__are_steps]; try dsimp only [L2.cxOf]
  walk_at "go"
  rw [wNon]
  refine wB (fun c => ?_) (fun c => ?_)
  · walk_at "go"
    unfold NOk at hn
    rw [c] at hn
    rw [decide_eq_true (show (2 : Int) ≤ n from hn.1)]
    exact k _ (Same.refl _)
  walk_at "go"
  refine wh_in3 w (by walk_at "sq") ?_
  rw [c]
  walk_at "go"
  rw [decide_eq_true (show (1 : Int) ≤ n from hn1.1)]
  exact k _ (by walk_at "same")
theorem num_gt1 (x : Rat) : decide ((x.den : Int) < x.num) = decide (1 < x) := decide_eq_decide.mpr ⟨fun h => by
    rw [Rat.lt_iff]
    simpa using h, fun h => by
    rw [Rat.lt_iff] at h
    simpa using h⟩
theorem stp_eq (n : Int) (w : Wh) (q : Rat) (e : Bool) (s0 : Int) (h : s0 = q.num * n / (q.den : Int) + (if w.up then 1 else 0)) (s1 : Int) (h1 : s1 = if (e && decide (q.num * n % (q.den : Int) = 0)) = true then s0 - 1 else s0) (s2 : Int) (h2 : s2 = if s1 < 0 ∧ 0 ≤ q.num then 0 else s1) :
    stp n w q e = if w.most n < s2 ∧ q.num ≤ (q.den : Int) then w.most n else s2 := by
  subst h2 h1 h
  rfl
theorem ok__step_value (T : Txt K mg) : Good P w K mg base "_step_value" 2 ["count", "where", "x", "before"] (spStep K) := by
  have G__most_steps := ok__most_steps (P := P) (w := w) (base := base) T
  have G_less := ok_less (P := P) (w := w) (base := base) T
  have G_ratio := ok_ratio (P := P) (w := w) (base := base) T
  obtain ⟨gM, fd, F⟩ := dk__step_value T
  have z0 : ∀ H, SqT K H (He.ga K "ZERO") (fr 0) := T.zero
  have z1 : ∀ H, SqT K H (He.ga K "ONE") (fr 1) := T.one
  refine ⟨gM, F.kp, fd, F.bindsN (fun _ _ _ _ _ _ us hl => match us, hl with | [_, _, _, _], _ => rfl), F.ok sc__step_value ?_ (fun cdv A outer s H vs Q E hr h => ⟨_, PSs.nox (pss_cons (ps_set (i := 4) sc__step_value.nd rfl (Or.inl rfl) (pe_op op_mulW (pe_ix ix_tup (pv 2) pe_int (fun _ _ => rfl)) (pv 0)))
    (pss_cons (ps_set (i := 5) sc__step_value.nd rfl (Or.inl rfl) (pe_op op_fdivW (pv 4) (pe_ix ix_tup (pv 2) pe_int (fun _ _ => rfl))))
    (pss_cons (ps_if (pt_cmpR op_in_seq (pv 1) (pe_tup (pa_cons pe_str (pa_cons pe_str pa_nil))) rfl) (pss_one (ps_aug (i := 5) sc__step_value.nd rfl (Or.inl rfl) pe_int ip_add)) pss_nil)
    (pss_cons (ps_if (PW.pt (pw_and (pt_val (pv 3)) (pw_and1 (pt_cmpR op_eq (pe_op op_mod (pv 4) (pe_ix ix_tup (pv 2) pe_int (fun _ _ => rfl))) pe_int (nomark _))))) (pss_one (ps_aug (i := 5) sc__step_value.nd rfl (Or.inl rfl) pe_int ip_sub)) pss_nil)
    (pss_cons (ps_if (PW.pt (pw_and (pt_cmpR op_lt (pv 5) pe_int (nomark _)) (pw_and1 (pt_cmpR op_ge (pe_ix ix_tup (pv 2) pe_int (fun _ _ => rfl)) pe_int (nomark _))))) (pss_one (ps_set (i := 5) sc__step_value.nd rfl (Or.inl rfl) pe_int)) pss_nil)
    (pss_cons (ps_set (i := 6) sc__step_value.nd rfl (Or.inl rfl) (pe_good G__most_steps (hr.mono (by decide)) (pa_cons (pv 0) (pa_cons (pv 1) pa_nil))))
    (pss_cons (ps_if (PW.pt (pw_and (pt_cmpR op_gt (pv 5) (pv 6) (nomark _)) (pw_and1 (pt_not (pt_val (pe_good G_less (hr.mono (by decide)) (pa_cons (pe_glob (v := .ref (He.ga K "ONE")) rfl T.gO rfl) (pa_cons (pv 2) pa_nil)))))))) (pss_one (ps_set (i := 5) sc__step_value.nd rfl (Or.inl rfl) (pv 6))) pss_nil)
    (pss_one (ps_ret (pe_good G_ratio (hr.mono (by decide)) (pa_cons (pv 5) (pa_cons (pv 6) pa_nil)))))))))))), ?_⟩)⟩
  · rintro vs H Q E ⟨_, _, _, _, _, rfl, _⟩; rfl
  obtain ⟨n, w, x, e, q, rfl, hn, hx, bq, k⟩ := h
  have hd := den_pos' q
  have cm := hn.mul bq
  rw [st__step_value]; try dsimp only [L2.cxOf]
  walk_at "gn"
  refine ndiv_ (den_div _ bq) ?_
  walk_at "gn"
  refine wh_in w (by walk_at "sq") ?_
  walk_at "gn"
  rename_i p1 H1 n1 e1 t1
  have hx1 := Same.sqT e1 hx
  refine ifj (i := 5) (a := q.num * n / (q.den : Int) + 1) (b := q.num * n / (q.den : Int)) (fun z => ⟨_, rfl, _, _, rfl, rfl, z⟩) (fun z => z) ?_
  have h0 : (if w.up = true then q.num * n / (q.den : Int) + 1 else q.num * n / (q.den : Int)) = q.num * n / (q.den : Int) + (if w.up then 1 else 0) := by cases w.up <;> simp
  rw [h0]
  generalize hs0 : q.num * n / (q.den : Int) + (if w.up then 1 else 0 : Int) = s0
  dsimp only [List.set_cons_zero, List.set_cons_succ]
  walk_at "gn"
  refine andj (c1 := e) (c2 := decide (q.num * n % (q.den : Int) = 0)) (fun P z => by walk_at "gn"; exact z) (fun P z => by walk_at "gn"; refine nmod_ hd ?_; walk_at "gn"; exact z) ?_
  refine ifj (i := 5) (a := s0 - 1) (b := s0) (fun z => ⟨_, rfl, _, _, rfl, rfl, z⟩) (fun z => z) ?_
  generalize hs1 : (if (e && decide (q.num * n % (q.den : Int) = 0)) = true then s0 - 1 else s0) = s1
  dsimp only [List.set_cons_zero, List.set_cons_succ]
  walk_at "gn"
  refine andj (c1 := decide (s1 < 0)) (c2 := decide (0 ≤ q.num)) (fun P z => by walk_at "gn"; exact z) (fun P z => by walk_at "gn"; exact z) ?_
  refine ifj (i := 5) (a := 0) (b := s1) (fun z => z) (fun z => z) ?_
  have h2 : (if (decide (s1 < 0) && decide (0 ≤ q.num)) = true then 0 else s1) = if s1 < 0 ∧ 0 ≤ q.num then 0 else s1 := by simp only [Bool.and_eq_true, decide_eq_true_eq]
  rw [h2]
  generalize hs2 : (if s1 < 0 ∧ 0 ≤ q.num then 0 else s1) = s2
  dsimp only [List.set_cons_zero, List.set_cons_succ]
  walk_at "gn"
  refine ⟨n, w, rfl, ?_⟩
  walk_at "gn"
  have hle : (!decide (1 < q)) = decide (q.num ≤ (q.den : Int)) := by
    rw [← num_gt1, Bool.not_eq_eq_eq_not, ← decide_not]
    exact decide_eq_decide.mpr (by omega)
  have sq1 : Sm q := Sm.of bq (by decide)
  refine andj (c1 := decide (w.most n < s2)) (c2 := decide (q.num ≤ (q.den : Int))) (fun P z => by walk_at "gn"; exact z) (fun P z => by walk_at "gn"; rw [hle]; exact z) ?_
  refine ifj (i := 5) (a := w.most n) (b := s2) (fun z => ⟨_, rfl, z⟩) (fun z => z) ?_
  have h3 : (if (decide (w.most n < s2) && decide (q.num ≤ (q.den : Int))) = true then w.most n else s2) = if w.most n < s2 ∧ q.num ≤ (q.den : Int) then w.most n else s2 := by simp only [Bool.and_eq_true, decide_eq_true_eq]
  rw [h3, ← stp_eq n w q e s0 hs0.symm s1 hs1.symm s2 hs2.symm]
  dsimp only [List.set_cons_zero, List.set_cons_succ]
  walk_at "gn"
  exact ratio_ hn.most.1 (small9 (by have := hn.most; omega)) fun c H' e' hc => k c H' (e1.trans e') hc
theorem ok_is_curve (T : Txt K mg) : Good P w K mg base "is_curve" 3 ["thing"] (spIsCurve K) := by
  have G__are_steps := ok__are_steps (P := P) (w := w) (base := base) T
  obtain ⟨gM, fd, F⟩ := dk_is_curve T
  have z0 : ∀ H, SqT K H (He.ga K "ZERO") (fr 0) := T.zero
  have z1 : ∀ H, SqT K H (He.ga K "ONE") (fr 1) := T.one
  refine ⟨gM, F.kp, fd, F.bindsN (fun _ _ _ _ _ _ us hl => match us, hl with | [_], _ => rfl), F.ok sc_is_curve ?_ (fun cdv A outer s H vs Q E hr h => ⟨_, PSs.nox (pss_cons (ps_if (PW.pt (pw_or (pt_not (pt_val (pe_callB call_isi (by rfl) (m_isinstance T) bt_isinstance (pa_cons (pv 0) (pa_cons (pe_bltn (v := .ty "tuple") (by rfl) (m_tuple T) bt_tuple rfl) pa_nil))))) (pw_or (pt_cmpR op_eq (pe_callB cr_len (by rfl) (m_len T) PySem.boot_len (pa_cons (pv 0) pa_nil)) pe_int (nomark _)) (pw_or1 (pt_not (pt_val (pe_callB call_isi (by rfl) (m_isinstance T) bt_isinstance (pa_cons (pe_ix ix_tup (pv 0) pe_int (fun _ _ => rfl)) (pa_cons (pe_bltn (v := .ty "str") (by rfl) (m_str T) bt_str rfl) pa_nil))))))))) (pss_one (ps_ret pe_bl)) pss_nil)
    (pss_cons (ps_if (pt_cmpR op_eq (pe_ix ix_tup (pv 0) pe_int (fun _ _ => rfl)) pe_str (nomark _)) pss_never pss_nil)
    (pss_cons (ps_if (pt_cmpR op_eq (pe_ix ix_tup (pv 0) pe_int (fun _ _ => rfl)) pe_str (nomark _)) pss_never pss_nil)
    (pss_cons (ps_if (pt_cmpR op_eq (pe_ix ix_tup (pv 0) pe_int (fun _ _ => rfl)) pe_str (nomark _)) (pss_one (ps_ret (pe_and (pe_cmpR op_eq (pe_callB cr_len (by rfl) (m_len T) PySem.boot_len (pa_cons (pv 0) pa_nil)) pe_int (nomark _)) (pe_one (pe_good G__are_steps (hr.mono (by decide)) (pa_cons (pe_ix ix_tup (pv 0) pe_int (fun _ _ => rfl)) (pa_cons (pe_ix ix_tup (pv 0) pe_int (fun _ _ => rfl)) pa_nil))))))) pss_nil)
    (pss_one (ps_ret pe_bl)))))), ?_⟩)⟩
  · rintro vs H Q E ⟨_, _, _, rfl, _⟩; rfl
  obtain ⟨c, n, w, rfl, hc, hn, k⟩ := h
  rw [st_is_curve]; try dsimp only [L2.cxOf]
  walk_at "go"
  refine ⟨n, w, rfl, hn, fun H' e => ?_⟩
  walk_at "go"
  exact k _ e
theorem ok_curve_value (T : Txt K mg) : Good P w K mg base "curve_value" 6 ["curve", "x", "before"] (spValue K) := by
  have G__step_value := ok__step_value (P := P) (w := w) (base := base) T
  obtain ⟨gM, fd, F⟩ := dk_curve_value T
  have z0 : ∀ H, SqT K H (He.ga K "ZERO") (fr 0) := T.zero
  have z1 : ∀ H, SqT K H (He.ga K "ONE") (fr 1) := T.one
  refine ⟨gM, F.kp, fd, F.bindsN (fun _ _ _ _ _ _ us hl => match us, hl with | [_, _, _], _ => rfl), F.ok sc_curve_value ?_ (fun cdv A outer s H vs Q E hr h => ⟨_, PSs.nox (pss_cons (ps_if (pt_cmpR op_eq (pe_ix ix_tup (pv 0) pe_int (fun _ _ => rfl)) pe_str (nomark _)) pss_never pss_nil)
    (pss_cons (ps_if (pt_cmpR op_eq (pe_ix ix_tup (pv 0) pe_int (fun _ _ => rfl)) pe_str (nomark _)) pss_never pss_nil)
    (pss_one (ps_ret (pe_good G__step_value (hr.mono (by decide)) (pa_cons (pe_ix ix_tup (pv 0) pe_int (fun _ _ => rfl)) (pa_cons (pe_ix ix_tup (pv 0) pe_int (fun _ _ => rfl)) (pa_cons (pv 1) (pa_cons (pv 2) pa_nil))))))))), ?_⟩)⟩
  · rintro vs H Q E ⟨_, _, _, _, _, _, rfl, _⟩; rfl
  obtain ⟨c, x, n, w, e, q, rfl, hc, hn, hx, bq, k⟩ := h
  rw [st_curve_value]; try dsimp only [L2.cxOf]
  walk_at "go"
  exact ⟨n, w, x, e, q, rfl, hn, hx, bq, fun c2 H2 e2 h2 => k c2 H2 e2 h2⟩
theorem ok_value_at (T : Txt K mg) : GoodV P w K mg base 7 (spValue K) := by
  have G_is_curve := ok_is_curve (P := P) (w := w) (base := base) T
  have G_is_ratio := ok_is_ratio (P := P) (w := w) (base := base) T
  have G_curve_value := ok_curve_value (P := P) (w := w) (base := base) T
  obtain ⟨gM, fd, F⟩ := dk_value_at T
  refine ⟨gM, F.kp, fd, F.binds1 2 0 (List.cons_ne_nil _ _) rfl (fun _ _ _ _ _ _ _ us its h1 h2 => match us, its, h1, h2 with | [_, _], [_], _, _ => ⟨_, rfl, rfl⟩), F.binds1 3 1 (List.cons_ne_nil _ _) rfl (fun _ _ _ _ _ _ _ us its h1 h2 => match us, its, h1, h2 with | [_, _, _], [_], _, _ => ⟨_, rfl, rfl⟩), kbinds1 F 2 ["before"] (List.cons_ne_nil _ _) (fun _ _ _ _ _ _ _ us its ws h1 h2 h3 => match us, its, ws, h1, h2, h3 with | [_, _], [_], [_], _, _, _ => ⟨_, rfl, rfl⟩), F.ok sc_value_at ?_ (fun cdv A outer s H vs Q E hr h => ⟨_, PSs.nox (pss_cons (ps_if (pt_not (pt_val (pe_good G_is_curve (hr.mono (by decide)) (pa_cons (pv 0) pa_nil)))) (pss_one ps_never) pss_nil)
    (pss_cons (ps_if (pt_not (pt_val (pe_good G_is_ratio (hr.mono (by decide)) (pa_cons (pv 1) pa_nil)))) (pss_one ps_never) pss_nil)
    (pss_cons (ps_if (pt_not (pt_val (pe_callB call_isi (by rfl) (m_isinstance T) bt_isinstance (pa_cons (pv 2) (pa_cons (pe_bltn (v := .ty "bool") (by rfl) (m_bool T) bt_bool rfl) pa_nil))))) (pss_one ps_never) pss_nil)
    (pss_one (ps_ret (pe_good G_curve_value (hr.mono (by decide)) (pa_cons (pv 0) (pa_cons (pv 1) (pa_cons (pv 2) pa_nil))))))))), ?_⟩)⟩
  · rintro vs H Q E ⟨_, _, _, _, _, _, rfl, _⟩; rfl
  obtain ⟨c, x, n, w, e, q, rfl, hc, hn, hx, bq, k⟩ := h
  rw [st_value_at]; try dsimp only [L2.cxOf]
  walk_at "go"
  refine ⟨c, n, w, rfl, hc, hn, fun H' e' => ?_⟩
  have hc' := Same.sqT e' hc
  have hx' := Same.sqT e' hx
  walk_at "go"
  exact ⟨c, x, n, w, e, q, rfl, hc', hn, hx', bq, fun c2 H2 e2 h2 => k c2 H2 (e'.trans e2) h2⟩

theorem law_most (n : Int) (w : Wh) : n + (if decide (w.s = "both") = true then 1 else 0) - (if decide (w.s = "none") = true then 1 else 0) = w.most n := by
  rw [wBoth, wNon]
  cases w <;> simp [Wh.most, Wh.isN, Wh.isB]
theorem ok__law_steps (T : Txt K mg) : Good P w K mg base "_law_steps" 3 ["_law_many", "_law_where", "_law_x", "_law_is_early"] (spStep K) := by
  have G__law_ratio := ok__law_ratio (P := P) (w := w) (base := base) T
  obtain ⟨gM, fd, F⟩ := dk__law_steps T
  have z0 : ∀ H, SqT K H (He.ga K "ZERO") (fr 0) := T.zero
  have z1 : ∀ H, SqT K H (He.ga K "ONE") (fr 1) := T.one
  refine ⟨gM, F.kp, fd, F.bindsN (fun _ _ _ _ _ _ us hl => match us, hl with | [_, _, _, _], _ => rfl), F.ok sc__law_steps ?_ (fun cdv A outer s H vs Q E hr h => ⟨_, PSs.nox (pss_cons (ps_set (i := 4) sc__law_steps.nd rfl (Or.inl rfl) (pe_op op_add (pe_op op_fdivW (pe_op op_mulW (pe_ix ix_tup (pv 2) pe_int (fun _ _ => rfl)) (pv 0)) (pe_ix ix_tup (pv 2) pe_int (fun _ _ => rfl))) (pe_callTy cr_int (by rfl) (m_int T) bt_int (pa_cons (pe_cmpR op_in_seq (pv 1) (pe_tup (pa_cons pe_str (pa_cons pe_str pa_nil))) rfl) pa_nil))))
    (pss_cons (ps_if (PW.pt (pw_and (pt_val (pv 3)) (pw_and1 (pt_cmpR op_eq (pe_op op_mod (pe_callTy cr_int (by rfl) (m_int T) bt_int (pa_cons (pe_op op_mulW (pe_ix ix_tup (pv 2) pe_int (fun _ _ => rfl)) (pv 0)) pa_nil)) (pe_ix ix_tup (pv 2) pe_int (fun _ _ => rfl))) pe_int (nomark _))))) (pss_one (ps_set (i := 4) sc__law_steps.nd rfl (Or.inl rfl) (pe_op op_sub (pv 4) pe_int))) pss_nil)
    (pss_cons (ps_set (i := 5) sc__law_steps.nd rfl (Or.inl rfl) (pe_op op_sub (pe_op op_add (pv 0) (pe_callTy cr_int (by rfl) (m_int T) bt_int (pa_cons (pe_cmpR op_eq (pv 1) pe_str (nomark _)) pa_nil))) (pe_callTy cr_int (by rfl) (m_int T) bt_int (pa_cons (pe_cmpR op_eq (pv 1) pe_str (nomark _)) pa_nil))))
    (pss_cons (ps_set (i := 4) sc__law_steps.nd rfl (Or.inl rfl) (pe_ifExp (pt_cmpR op_ge (pe_ix ix_tup (pv 2) pe_int (fun _ _ => rfl)) pe_int (nomark _)) (pe_callB (cr_max2 rfl) (by rfl) (m_max T) bt_max (pa_cons pe_int (pa_cons (pv 4) pa_nil))) (pv 4)))
    (pss_one (ps_ret (pe_good G__law_ratio (hr.mono (by decide)) (pa_cons (pe_ifExp (pt_cmpR op_le (pe_ix ix_tup (pv 2) pe_int (fun _ _ => rfl)) (pe_ix ix_tup (pv 2) pe_int (fun _ _ => rfl)) (nomark _)) (pe_callB (cr_min2 rfl) (by rfl) (m_min T) bt_min (pa_cons (pv 5) (pa_cons (pv 4) pa_nil))) (pv 4)) (pa_cons (pv 5) pa_nil))))))))), ?_⟩)⟩
  · rintro vs H Q E ⟨_, _, _, _, _, rfl, _⟩; rfl
  obtain ⟨n, w, x, e, q, rfl, hn, hx, bq, k⟩ := h
  have hd := den_pos' q
  have cm := hn.mul bq
  rw [st__law_steps]; try dsimp only [L2.cxOf]
  walk_at "gn"
  refine ndiv_ (den_div _ bq) ?_
  walk_at "gn"
  refine wh_in w (by walk_at "sq") ?_
  walk_at "gn"
  rename_i p1 H1 n1 e1 t1
  have hx1 := Same.sqT e1 hx
  generalize hs0 : q.num * n / (q.den : Int) + (if w.up = true then 1 else 0 : Int) = s0
  refine andj (c1 := e) (c2 := decide (q.num * n % (q.den : Int) = 0)) (fun P z => by walk_at "gn"; exact z) (fun P z => by walk_at "gn"; refine nmod_ hd ?_; walk_at "gn"; exact z) ?_
  refine ifj (i := 4) (a := s0 - 1) (b := s0) (fun z => ⟨_, rfl, _, _, rfl, rfl, z⟩) (fun z => z) ?_
  generalize hs1 : (if (e && decide (q.num * n % (q.den : Int) = 0)) = true then s0 - 1 else s0) = s1
  dsimp only [List.set_cons_zero, List.set_cons_succ]
  walk_at "gn"
  rw [law_most]
  refine ifvj (x := if s1 > 0 then s1 else 0) (y := s1) (fun Q z => by walk_at "gn"; exact z) (fun Q z => by walk_at "gn"; exact z) ?_
  have h2 : (if decide (0 ≤ q.num) = true then (if s1 > 0 then s1 else 0) else s1) = if s1 < 0 ∧ 0 ≤ q.num then 0 else s1 := by
    simp only [decide_eq_true_eq]
    split <;> split <;> (try split) <;> omega
  rw [h2]
  generalize hs2 : (if s1 < 0 ∧ 0 ≤ q.num then 0 else s1) = s2
  walk_at "gn"
  refine ifvj (x := if s2 < w.most n then s2 else w.most n) (y := s2) (fun Q z => by walk_at "gn"; exact z) (fun Q z => by walk_at "gn"; exact z) ?_
  have h3 : (if decide (q.num ≤ (q.den : Int)) = true then (if s2 < w.most n then s2 else w.most n) else s2) = if w.most n < s2 ∧ q.num ≤ (q.den : Int) then w.most n else s2 := by
    simp only [decide_eq_true_eq]
    split <;> split <;> (try split) <;> omega
  rw [h3, ← stp_eq n w q e s0 hs0.symm s1 hs1.symm s2 hs2.symm]
  walk_at "gn"
  exact ratio_ hn.most.1 (small9 (by have := hn.most; omega)) fun c H' e' hc => k c H' (e1.trans e') hc

def spPlaces5 (K : PySem.W.Frag) : Sp := fun vs H Q _ => ∃ (a : Addr) (n : Int), vs = [.ref a, .int n] ∧ Src H a ∧ (1 ≤ n ∧ n < 2 ^ 40) ∧ ∀ D ys H', D ≠ a → Src H' a → Frm a H H' → H' D = some (.lst ys) → ys.length ≤ 100 → (∀ y ∈ ys, Fr K 150 y H') → Q (.ref D) H'
theorem nm3 {n : Int} (h : 1 ≤ n ∧ n < 2 ^ 40) : CMulW 3 n := CMulW.of (a := 2) (b := 40) (by decide) (by omega) (by decide)
theorem nm1000 {n : Int} (h : 1 ≤ n ∧ n < 2 ^ 40) : CMulW 1000 n := CMulW.of (a := 10) (b := 40) (by decide) (by omega) (by decide)
theorem Fr.of {K : PySem.W.Frag} {n : Nat} {p : Addr} {q : Rat} {H : Hp} (h : SqT K H p (fr q)) (b : Bd n q) : Fr K n (.ref p) H := ⟨p, q, rfl, h, b⟩
theorem Fr.lit {K : PySem.W.Frag} {n : Nat} {p : Addr} {q : Rat} {H : Hp} {xs : List V} (e : fr q = xs) (h : SqT K H p xs) (b : Bd n q) : Fr K n (.ref p) H := ⟨p, q, rfl, by rw [e]; exact h, b⟩
theorem mem3 {α : Type} {P : α → Prop} {a b c : α} (h1 : P a) (h2 : P b) (h3 : P c) : ∀ v ∈ [a, b, c], P v := by
  intro v hv
  simp only [List.mem_cons, List.not_mem_nil, or_false] at hv
  rcases hv with rfl | rfl | rfl <;> assumption
theorem ok__law_places (T : Txt K mg) : Good P w K mg base "_law_places" 5 ["_law_source_here", "_law_many"] (spPlaces5 K) := by
  have G__law_any_part := ok__law_any_part (P := P) (w := w) (base := base) T
  have G__law_ratio := ok__law_ratio (P := P) (w := w) (base := base) T
  have G__law_next := ok__law_next (P := P) (w := w) (base := base) T
  have G__law_minus := ok__law_minus (P := P) (w := w) (base := base) T
  have G__law_plus := ok__law_plus (P := P) (w := w) (base := base) T
  obtain ⟨gM, fd, F⟩ := dk__law_places T
  have z0 : ∀ H, SqT K H (He.ga K "ZERO") (fr 0) := T.zero
  have z1 : ∀ H, SqT K H (He.ga K "ONE") (fr 1) := T.one
  refine ⟨gM, F.kp, fd, F.bindsN (fun _ _ _ _ _ _ us hl => match us, hl with | [_, _], _ => rfl), F.ok sc__law_places ?_ (fun cdv A outer s H vs Q E hr h => ⟨_, PSs.nox (pss_cons (ps_set (i := 2) sc__law_places.nd rfl (Or.inl rfl) (pe_lst (pa_cons (pe_tup (pa_cons pe_int (pa_cons pe_int pa_nil))) (pa_cons (pe_tup (pa_cons pe_int (pa_cons pe_int pa_nil))) (pa_cons (pe_good G__law_any_part (hr.mono (by decide)) (pa_cons (pv 0) pa_nil)) pa_nil)))))
    (pss_cons (ps_for PassesOwn.never rfl (pi_range1 rfl (m_range T) (pa_cons pe_int pa_nil)) (pg_name (i := 3) sc__law_places.nd rfl (Or.inl rfl))
      (pss_cons (ps_set (i := 4) sc__law_places.nd rfl (Or.inl rfl) (pe_good G__law_ratio (hr.mono (by decide)) (pa_cons (pe_op op_sub (pe_good G__law_next (hr.mono (by decide)) (pa_cons (pv 0) (pa_cons (pe_op op_add (pe_op op_mulW pe_int (pv 1)) pe_int) pa_nil))) (pv 1)) (pa_cons (pv 1) pa_nil))))
    (pss_cons (ps_set (i := 5) sc__law_places.nd rfl (Or.inl rfl) (pe_good G__law_ratio (hr.mono (by decide)) (pa_cons pe_int (pa_cons (pe_op op_add (pe_op op_mulW pe_int (pv 1)) (pe_good G__law_next (hr.mono (by decide)) (pa_cons (pv 0) (pa_cons pe_int pa_nil)))) pa_nil))))
    (pss_one (ps_set (i := 2) sc__law_places.nd rfl (Or.inl rfl) (pe_op op_cat (pv 2) (pe_lst (pa_cons (pv 4) (pa_cons (pe_good G__law_plus (hr.mono (by decide)) (pa_cons (pv 4) (pa_cons (pv 5) pa_nil))) (pa_cons (pe_good G__law_minus (hr.mono (by decide)) (pa_cons (pv 4) (pa_cons (pv 5) pa_nil))) pa_nil))))))))))
    (pss_one (ps_ret (pv 2))))), ?_⟩)⟩
  · rintro vs H Q E ⟨_, _, rfl, _⟩; rfl
  obtain ⟨a, n, rfl, hs, hn, q⟩ := h
  have cm3 := nm3 hn
  have cm1 := nm1000 hn
  rw [st__law_places]; try dsimp only [L2.cxOf]
  walk_at "go"
  rename_i p0 H0 n0 e0 t0 p1 H1 n1 e1 t1 pa qa Ha hqa hba sa fa L H5 n5 e5 t5
  have s5 : Src H5 a := by walk_at "src"
  have neL : L ≠ a := sa.ne n5
  have F3 : ∀ v ∈ [V.ref p0, V.ref p1, V.ref pa], Fr K 150 v H5 := mem3 (Fr.of (q := 0) (by walk_at "sq") (Bd.q0.mono (by decide))) (Fr.of (q := 1) (by walk_at "sq") (Bd.q1.mono (by decide))) (Fr.of (q := qa) (by walk_at "sq") (hba.mono (by decide)))
  have f5 : Frm a H H5 := by walk_at "frm"
  clear n0 e0 t0 n1 e1 t1 hqa fa n5 e5
  refine forR_ (fun i σ H' => ∃ L ys o3 o4 o5, σ = [some (.ref a), some (.int n), some (.ref L), o3, o4, o5] ∧ Src H' a ∧ Frm a H5 H' ∧ L ≠ a ∧ H' L = some (.lst ys) ∧ ys.length = 3 + 3 * i ∧ ∀ v ∈ ys, Fr K 150 v H') ⟨L, _, none, none, none, rfl, s5, Frm.refl _ _, neL, t5, rfl, F3⟩ ?_ ?_
  · rintro i σ H6 hi ⟨L6, ys, o3, o4, o5, rfl, s6, f6, ne6, h6, l6, F6⟩
    walk_at "go"
    refine next_ s6 (by omega) (by omega) fun r H7 r0 r1 s7 f7 => ?_
    walk_at "go"
    refine ratio_ (by omega) (small9 (by omega)) fun c1 H8 e8 h8 => ?_
    walk_at "go"
    rename_i r2 H9 r20 r21 s9 f9
    refine ratio_ (by omega) (small9 (by omega)) fun c2 H10 e10 h10 => ?_
    have b1 : Bd 43 (Rat.divInt (r - n) n) := Bd.div (by omega) (by omega) (by omega)
    have b2 : Bd 52 (Rat.divInt 1 (1000 * n + r2)) := Bd.div (by omega) (by decide) (by omega)
    have s10 : Src H10 a := by walk_at "src"
    have h8' : SqT K H10 c1 (fr (Rat.divInt (r - n) n)) := by walk_at "sq"
    generalize Rat.divInt (r - n) n = u at h8 h8' b1
    generalize Rat.divInt 1 (1000 * n + r2) = v at h10 b2
    have g1 : Frm a H6 H10 := by walk_at "frm"
    clear f7 e8 h8 f9 e10
    walk_at "go"
    rename_i m1 G1 d1 w1 m2 G2 d2 w2 l3 G3 n3 d3 w3
    have hi5 : i < 5 := hi
    have s13 : Src G3 a := by walk_at "src"
    have k1 : SqT K G3 c1 (fr u) := by walk_at "sq"
    have k2 : SqT K G3 m1 (fr (u + v)) := by walk_at "sq"
    have k3 : SqT K G3 m2 (fr (u - v)) := by walk_at "sq"
    have g3 : Frm a H6 G3 := by walk_at "frm"
    refine cat_ (xs := ys) (zs := [.ref c1, .ref m1, .ref m2]) (Frm.trk g3 ne6 h6) w3 (by rw [l6]; simp only [List.length_cons, List.length_nil]; omega) fun p G4 n4 d4 w4 => ?_
    have N3 : ∀ v ∈ [V.ref c1, V.ref m1, V.ref m2], Fr K 150 v G4 := mem3 (Fr.of (Same.sqT d4 k1) (b1.mono (by decide))) (Fr.of (Same.sqT d4 k2) ((Bd.add b1 b2).mono (by decide))) (Fr.of (Same.sqT d4 k3) ((Bd.sub b1 b2).mono (by decide)))
    have g4 : Frm a H6 G4 := g3.trans (Frm.of d4)
    have s14 := Same.src d4 s13
    have ne4 : p ≠ a := s13.ne n4
    clear d1 w1 d2 w2 n3 d3 w3 n4 d4 g1 g3 k1 k2 k3
    walk_at "go"
    exact ⟨p, _, _, _, _, rfl, s14, f6.trans g4, ne4, w4, by rw [List.length_append, l6]; simp only [List.length_cons, List.length_nil]; omega, memA (fun v hv => (F6 v hv).tp (Tp.frm g4 s6)) N3⟩
  · rintro σ H6 ⟨L6, ys, o3, o4, o5, rfl, s6, f6, ne6, h6, l6, F6⟩
    walk_at "go"
    exact q L6 ys H6 ne6 s6 (f5.trans f6) h6 (by omega) F6

def Wh.turn : Wh → Wh
  | .start => .fin
  | .fin => .start
  | w => w
theorem NOk.turn {n : Int} {w : Wh} (h : NOk n w) : NOk n w.turn := by
  cases w <;> exact h
theorem most_turn (n : Int) (w : Wh) : w.turn.most n = w.most n := by cases w <;> rfl
theorem one_sub (q : Rat) : (1 - q).num = (q.den : Int) - q.num ∧ (1 - q).den = q.den := by
  have e : 1 - q = mkRat ((q.den : Int) - q.num) q.den := by
    rw [Rat.sub_def']
    simp
  have g : Nat.gcd q.den ((q.den : Int) - q.num).natAbs = 1 := by
    have h1 : Int.gcd (q.den : Int) ((q.den : Int) - q.num) = Int.gcd (q.den : Int) q.num := Int.gcd_self_sub_right _ _
    have h2 : Int.gcd (q.den : Int) q.num = 1 := by
      show Nat.gcd (q.den : Int).natAbs q.num.natAbs = 1
      rw [Int.natAbs_natCast, Nat.gcd_comm]
      exact q.reduced
    rw [h2] at h1
    exact h1
  constructor
  · rw [e, Rat.num_mkRat, if_neg q.den_nz, g]
    simp
  · rw [e, Rat.den_mkRat, if_neg q.den_nz, Nat.gcd_comm, Nat.gcd_comm, g]
    simp
theorem step_div {D t n : Int} (hD : 0 < D) (h0 : 0 ≤ t) (h1 : t ≤ n * D) :
    0 ≤ t / D ∧ t / D ≤ n ∧ ((t % D = 0 ∧ (n * D - t) / D = n - t / D ∧ (n * D - t) % D = 0) ∨ (t % D ≠ 0 ∧ t / D < n ∧ (n * D - t) / D = n - t / D - 1 ∧ (n * D - t) % D ≠ 0)) := by
  have hf := Int.mul_ediv_add_emod t D
  have m0 := Int.emod_nonneg t (show D ≠ 0 by omega)
  have m1 := Int.emod_lt_of_pos t hD
  have f0 : 0 ≤ t / D := Int.ediv_nonneg h0 (by omega)
  by_cases z : t % D = 0
  · have u := (Int.ediv_emod_unique (a := n * D - t) (b := D) (q := n - t / D) (r := 0) hD).mpr ⟨by rw [Int.mul_sub, Int.mul_comm D n]; omega, by omega, hD⟩
    refine ⟨f0, ?_, .inl ⟨z, u.1, u.2⟩⟩
    have := Int.ediv_nonneg (show 0 ≤ n * D - t by omega) (show 0 ≤ D by omega)
    omega
  · have u := (Int.ediv_emod_unique (a := n * D - t) (b := D) (q := n - t / D - 1) (r := D - t % D) hD).mpr ⟨by rw [Int.mul_sub, Int.mul_sub, Int.mul_comm D n, Int.mul_one]; omega, by omega, by omega⟩
    have := Int.ediv_nonneg (show 0 ≤ n * D - t by omega) (show 0 ≤ D by omega)
    exact ⟨f0, by omega, .inr ⟨z, by omega, u.1, by omega⟩⟩
theorem turn_stp {n : Int} {w : Wh} {q : Rat} (e : Bool) (hn : NOk n w) (h0 : 0 ≤ q.num) (h1 : q.num ≤ (q.den : Int)) :
    stp n w q e + stp n w.turn (1 - q) (!e) = w.most n ∧ 0 ≤ stp n w q e ∧ stp n w q e ≤ w.most n := by
  have hD := den_pos' q
  obtain ⟨a1, a2⟩ := one_sub q
  have hp := hn.pos
  have t0 : 0 ≤ q.num * n := Int.mul_nonneg h0 (by omega)
  have t1 : q.num * n ≤ n * (q.den : Int) := by
    rw [Int.mul_comm]
    exact Int.mul_le_mul_of_nonneg_left h1 (by omega)
  obtain ⟨f0, f1, d⟩ := step_div hD t0 t1
  have e1 : ((q.den : Int) - q.num) * n = n * (q.den : Int) - q.num * n := by rw [Int.sub_mul, Int.mul_comm n]
  unfold stp
  rw [a1, a2, e1, most_turn]
  have hm := hn.most
  generalize n * (q.den : Int) - q.num * n = t' at *
  generalize q.num * n = t at *
  generalize (q.den : Int) = D at *
  generalize q.num = N at *
  unfold NOk at hn
  rcases d with ⟨d1, d2, d3⟩ | ⟨d1, d2, d3, d4⟩
  · rw [d2]
    generalize t / D = f at *
    cases w <;> cases e <;> simp [d1, d3, Wh.up, Wh.turn, Wh.most, Wh.isN, Wh.isB] at hn hm ⊢ <;> (repeat' split) <;> omega
  · rw [d3]
    generalize t / D = f at *
    cases w <;> cases e <;> simp [d1, d4, Wh.up, Wh.turn, Wh.most, Wh.isN, Wh.isB] at hn hm ⊢ <;> (repeat' split) <;> omega
theorem num_le_den {q : Rat} (h : q ≤ 1) : q.num ≤ (q.den : Int) := by
  have := Rat.le_iff q 1 |>.mp h
  simpa using this
theorem stv_nonneg {n : Int} {w : Wh} {q : Rat} (e : Bool) (hn : NOk n w) (h0 : 0 ≤ q) (h1 : q ≤ 1) : 0 ≤ stv n w q e := by
  have t := turn_stp e hn (Rat.num_nonneg.mpr h0) (num_le_den h1)
  exact Rat.divInt_nonneg t.2.1 (by have := hn.most; omega)
theorem stv_turn {n : Int} {w : Wh} {q : Rat} (e : Bool) (hn : NOk n w) (h0 : 0 ≤ q) (h1 : q ≤ 1) : 1 - stv n w.turn (1 - q) (!e) = stv n w q e := by
  have t := turn_stp e hn (Rat.num_nonneg.mpr h0) (num_le_den h1)
  have hm := hn.most
  unfold stv
  rw [most_turn]
  have e2 : stp n w.turn (1 - q) (!e) = w.most n - stp n w q e := by omega
  rw [e2]
  have hz : (w.most n : Rat) ≠ 0 := by
    intro z
    have : w.most n = 0 := by exact_mod_cast z
    omega
  rw [Rat.divInt_eq_div, Rat.divInt_eq_div, Rat.intCast_sub]
  grind
theorem stv_le {n : Int} {w : Wh} {q : Rat} (e : Bool) (hn : NOk n w) (h0 : 0 ≤ q) (h1 : q ≤ 1) : stv n w q e ≤ 1 := by
  have a := stv_turn e hn h0 h1
  have b := stv_nonneg (!e) hn.turn (q := 1 - q) (by grind) (by grind)
  grind
theorem stp_abs {n : Int} {w : Wh} {q : Rat} (e : Bool) (hn : NOk n w) (b : Bd 200 q) : (stp n w q e).natAbs < 2 ^ 260 := by
  have h1 := Int.natAbs_ediv_le_natAbs (q.num * n) (q.den : Int)
  have h2 : (q.num * n).natAbs < 2 ^ 240 := nmul (a := 200) (b := 40) b.1 (by have := hn.pos; omega)
  have hm := hn.most
  unfold stp
  generalize q.num * n / (q.den : Int) = f at *
  generalize q.num * n % (q.den : Int) = m at *
  generalize w.most n = k at *
  simp only
  generalize w.up = u
  cases u <;> cases e <;> simp <;> (repeat' split) <;> omega
theorem stv_bd {n : Int} {w : Wh} {q : Rat} (e : Bool) (hn : NOk n w) (b : Bd 200 q) : Bd 260 (stv n w q e) :=
  Bd.div (by have := hn.most; omega) (stp_abs e hn b) (by have := hn.most; omega)
def spTurned (K : PySem.W.Frag) : Sp := fun vs H Q _ => ∃ (n : Int) (w : Wh) (x : Addr) (q : Rat), vs = [.int n, .str w.s, .ref x] ∧ NOk n w ∧ SqT K H x (fr q) ∧ Bd 150 q ∧ (0 ≤ q ∧ q ≤ 1) ∧ ∀ H', Same H H' → Q (.bl true) H'
theorem vals_ {K : PySem.W.Frag} {H : Hp} {Q : VK} {E : XK} {c x : Addr} {n : Int} {w : Wh} {e : Bool} {q : Rat} (h1 : SqT K H c [.str "steps", .int n, .str w.s]) (h2 : NOk n w) (h3 : SqT K H x (fr q)) (h4 : Bd 200 q) (k : ∀ c H', Same H H' → SqT K H' c (fr (stv n w q e)) → Q (.ref c) H') : spValue K [.ref c, .ref x, .bl e] H Q E :=
  ⟨c, x, n, w, e, q, rfl, h1, h2, h3, h4, k⟩
theorem turn_ {a : Option V} {r : L2.St} {w : Wh} {H : Hp} {Q : VK} (k : ∀ H', Same H H' → Q (.str w.turn.s) H') :
    tDGet2 (tDisp [(tC (.str "start"), tC (.str "end")), (tC (.str "end"), tC (.str "start"))]) (tVar 1) (tVar 1) (a :: some (.str w.s) :: r) H Q := by
  unfold tDGet2
  intro p hp
  refine ⟨upd_same, [(.inr "start", .str "end"), (.inr "end", .str "start")], rfl, by decide, ?_⟩
  refine ⟨p, rfl, .inl ⟨_, .inl upd_same⟩, ?_⟩
  refine v1 ?_
  refine v1 ?_
  refine ⟨_, DGet.k (k := .inr w.s) upd_same, ?_⟩
  have e : (valV (mergeK [] [(.inr "start", V.str "end"), (.inr "end", V.str "start")]) (.inr w.s)).getD (V.str w.s) = V.str w.turn.s := by cases w <;> decide +kernel
  rw [e]
  refine k _ ?_
  intro b o hb
  have ne := ne_of_none hb hp
  rw [upd_ne ne, upd_ne ne]
  exact hb
local macro_rules | `(tactic| walk_at "b200") => `(tactic| first
  | assumption
  | (with_reducible apply Bd.mono; walk_at "bd"; decide))
local macro_rules | `(tactic| walk_at "call") => `(tactic| first
  | (with_reducible apply vals_; walk_at "sq"; assumption; walk_at "sq"; walk_at "b200"; intro _ _ _ _)
  | (with_reducible apply neD_; walk_at "sq"; walk_at "sq"))
theorem ok__law_turned_right (T : Txt K mg) : Good P w K mg base "_law_turned_right" 8 ["_law_many", "_law_where", "_law_x"] (spTurned K) := by
  have G_value_at := ok_value_at (P := P) (w := w) (base := base) T
  have G__law_minus := ok__law_minus (P := P) (w := w) (base := base) T
  have G__law_less := ok__law_less (P := P) (w := w) (base := base) T
  obtain ⟨gM, fd, F⟩ := dk__law_turned_right T
  have z0 : ∀ H, SqT K H (He.ga K "ZERO") (fr 0) := T.zero
  have z1 : ∀ H, SqT K H (He.ga K "ONE") (fr 1) := T.one
  refine ⟨gM, F.kp, fd, F.bindsN (fun _ _ _ _ _ _ us hl => match us, hl with | [_, _, _], _ => rfl), F.ok sc__law_turned_right ?_ (fun cdv A outer s H vs Q E hr h => ⟨_, PSs.nox (pss_cons (ps_set (i := 3) sc__law_turned_right.nd rfl (Or.inl rfl) (pe_dget2 (hu_of hr) (pe_disp (pps_cons pe_str pe_str (pps_cons pe_str pe_str pps_nil)) rfl rfl (List.cons_ne_nil _ _) (by decide)) (pv 1) (pv 1) ⟨rfl, rfl, rfl, rfl⟩))
    (pss_cons (ps_for PassesOwn.never rfl (pi_tup (pe_tup (pa_cons pe_bl (pa_cons pe_bl pa_nil)))) (pg_name (i := 4) sc__law_turned_right.nd rfl (Or.inl rfl))
      (pss_cons (ps_set (i := 5) sc__law_turned_right.nd rfl (Or.inl rfl) (pe_good3 G_value_at (hr.mono (by decide)) (pa_cons (pe_tup (pa_cons pe_str (pa_cons (pv 0) (pa_cons (pv 1) pa_nil)))) (pa_cons (pv 2) (pa_cons (pv 4) pa_nil)))))
    (pss_cons (ps_set (i := 6) sc__law_turned_right.nd rfl (Or.inl rfl) (pe_good3 G_value_at (hr.mono (by decide)) (pa_cons (pe_tup (pa_cons pe_str (pa_cons (pv 0) (pa_cons (pv 3) pa_nil)))) (pa_cons (pe_good G__law_minus (hr.mono (by decide)) (pa_cons (pe_tup (pa_cons pe_int (pa_cons pe_int pa_nil))) (pa_cons (pv 2) pa_nil))) (pa_cons (pe_not (pv 4)) pa_nil)))))
    (pss_one (ps_if (PW.pt (pw_or (pt_cmpR (op_neD hr.units) (pv 5) (pe_good G__law_minus (hr.mono (by decide)) (pa_cons (pe_tup (pa_cons pe_int (pa_cons pe_int pa_nil))) (pa_cons (pv 6) pa_nil))) (nomark _)) (pw_or (pt_val (pe_good G__law_less (hr.mono (by decide)) (pa_cons (pv 5) (pa_cons (pe_tup (pa_cons pe_int (pa_cons pe_int pa_nil))) pa_nil)))) (pw_or1 (pt_val (pe_good G__law_less (hr.mono (by decide)) (pa_cons (pe_tup (pa_cons pe_int (pa_cons pe_int pa_nil))) (pa_cons (pv 5) pa_nil)))))))) (pss_one (ps_ret pe_bl)) pss_nil)))))
    (pss_one (ps_ret pe_bl)))), ?_⟩)⟩
  · rintro vs H Q E ⟨_, _, _, _, rfl, _⟩; rfl
  obtain ⟨n, w, x, q, rfl, hn, hx, bq, hq, k⟩ := h
  have hn' := hn.turn
  rw [st__law_turned_right]; try dsimp only [L2.cxOf]
  walk_at "go"
  refine turn_ fun H1 e1 => ?_
  have hx1 := Same.sqT e1 hx
  walk_at "go"
  rename_i pt H2 nt et tt
  have hx2 : SqT K H2 x (fr q) := Same.sqT et hx1
  have hpt : SqT K H2 pt [.bl false, .bl true] := SqT.tr tt
  have bq2 : Bd 200 q := bq.mono (by decide)
  have bq3 : Bd 200 (1 - q) := (Bd.sub Bd.q1 bq).mono (by decide)
  have e02 : Same H H2 := e1.trans et
  clear hx1 tt et nt
  refine forT_ (xs := [.bl false, .bl true]) hpt (fun i σ H' => (∃ o4 o5 o6, σ = [some (.int n), some (.str w.s), some (.ref x), some (.str w.turn.s), o4, o5, o6]) ∧ Same H2 H') ⟨⟨_, _, _, rfl⟩, Same.refl _⟩ ?_ ?_ ?_
  · rintro i σ H8 _ ⟨_, e8⟩
    exact Same.sqT e8 hpt
  · rintro i y σ H8 hy ⟨⟨o4, o5, o6, rfl⟩, e8⟩
    obtain ⟨e, rfl⟩ : ∃ e, y = .bl e := by
      match i, hy with
      | 0, h => exact ⟨false, (Option.some.inj h).symm⟩
      | 1, h => exact ⟨true, (Option.some.inj h).symm⟩
      | n + 2, h => simp at h
    have hx8 := Same.sqT e8 hx2
    have sv : Bd 260 (stv n w q e) := stv_bd e hn bq2
    have sv' : Bd 260 (stv n w.turn (1 - q) (!e)) := stv_bd (!e) hn' bq3
    have g1 : stv n w q e = 1 - stv n w.turn (1 - q) (!e) := (stv_turn e hn hq.1 hq.2).symm
    have g2 : ¬ stv n w q e < 0 := Rat.not_lt.mpr (stv_nonneg e hn hq.1 hq.2)
    have g3 : ¬ 1 < stv n w q e := Rat.not_lt.mpr (stv_le e hn hq.1 hq.2)
    clear hx hx2 e02 hy hpt e1
    walk_at "go"
    exact ⟨⟨_, _, _, rfl⟩, by walk_at "same"⟩
  · rintro σ H8 ⟨⟨o4, o5, o6, rfl⟩, e8⟩
    walk_at "go"
    exact k _ (e02.trans e8)

theorem steps_ {K : PySem.W.Frag} {H : Hp} {Q : VK} {E : XK} {x : Addr} {n : Int} {w : Wh} {e : Bool} {q : Rat} (h2 : NOk n w) (h3 : SqT K H x (fr q)) (h4 : Bd 200 q) (k : ∀ c H', Same H H' → SqT K H' c (fr (stv n w q e)) → Q (.ref c) H') : spStep K [.int n, .str w.s, .ref x, .bl e] H Q E :=
  ⟨n, w, x, e, q, rfl, h2, h3, h4, k⟩
theorem turned_ {K : PySem.W.Frag} {H : Hp} {Q : VK} {E : XK} {x : Addr} {n : Int} {w : Wh} {q : Rat} (h2 : NOk n w) (h3 : SqT K H x (fr q)) (h4 : Bd 150 q) (h5 : 0 ≤ q ∧ q ≤ 1) (k : ∀ H', Same H H' → Q (.bl true) H') : spTurned K [.int n, .str w.s, .ref x] H Q E :=
  ⟨n, w, x, q, rfl, h2, h3, h4, h5, k⟩
local macro_rules | `(tactic| walk_at "b200") => `(tactic| first
  | assumption
  | (with_reducible apply Bd.mono; assumption; decide))
local macro_rules | `(tactic| walk_at "call") => `(tactic| first
  | (with_reducible apply vals_; walk_at "sq"; assumption; walk_at "sq"; walk_at "b200"; intro _ _ _ _)
  | (with_reducible apply steps_; assumption; walk_at "sq"; walk_at "b200"; intro _ _ _ _)
  | (with_reducible apply turned_; assumption; walk_at "sq"; assumption; assumption; intro _ _)
  | (with_reducible apply repr_; walk_at "sq"; assumption)
  | with_reducible apply sneS_
  | (with_reducible apply neD_; walk_at "sq"; walk_at "sq"))
theorem wh_mem {v : V} (h : v ∈ [V.str "start", V.str "end", V.str "none", V.str "both"]) : ∃ w : Wh, v = .str w.s := by
  simp only [List.mem_cons, List.not_mem_nil, or_false] at h
  rcases h with rfl | rfl | rfl | rfl
  · exact ⟨.start, rfl⟩
  · exact ⟨.fin, rfl⟩
  · exact ⟨.non, rfl⟩
  · exact ⟨.both, rfl⟩
theorem nok_of {w : Wh} {r : Int} (h0 : 0 ≤ r) (h1 : r < 1000000) : NOk ((if decide (w.s = "none") = true then 1 else 0) + 1 + r) w := by
  rw [wNon]
  unfold NOk
  cases w <;> simp [Wh.isN] <;> omega
theorem many_mem {v : V} (h : v ∈ [V.int 4, V.int 40, V.int 40, V.int 1000000]) : ∃ m : Int, v = .int m ∧ 1 ≤ m ∧ m ≤ 1000000 := by
  simp only [List.mem_cons, List.not_mem_nil, or_false] at h
  rcases h with rfl | rfl | rfl | rfl <;> exact ⟨_, rfl, by decide, by decide⟩
theorem tf_mem {i : Nat} {y : V} (h : [V.bl false, V.bl true][i]? = some y) : ∃ e, y = .bl e := by
  match i, h with
  | 0, h => exact ⟨false, (Option.some.inj h).symm⟩
  | 1, h => exact ⟨true, (Option.some.inj h).symm⟩
  | n + 2, h => simp at h
theorem ok__law_right (T : Txt K mg) : GoodG P w K mg base "_law_right" 9 ["_law_source_here"] (spRight) := by
  have G__law_one := ok__law_one (P := P) (w := w) (base := base) T
  have G__law_next := ok__law_next (P := P) (w := w) (base := base) T
  have G__law_places := ok__law_places (P := P) (w := w) (base := base) T
  have G__law_steps := ok__law_steps (P := P) (w := w) (base := base) T
  have G_value_at := ok_value_at (P := P) (w := w) (base := base) T
  have G__law_turned_right := ok__law_turned_right (P := P) (w := w) (base := base) T
  have G__law_less := ok__law_less (P := P) (w := w) (base := base) T
  have z0 : ∀ H, SqT K H (He.ga K "ZERO") (fr 0) := T.zero
  have z1 : ∀ H, SqT K H (He.ga K "ONE") (fr 1) := T.one
  obtain ⟨gM, fd, F⟩ := dk__law_right T
  refine ⟨gM, F.kp, fd, F.bindsN (fun _ _ _ _ _ _ us hl => match us, hl with | [_], _ => rfl), fnG_mk F sc__law_right ?_ (fun cdv A outer s H vs Q E gd hr h => ⟨_, PSs.nox (pss_cons (ps_set (i := 1) sc__law_right.nd rfl (Or.inl rfl) (pe_good G__law_one (hr.mono (by decide)) (pa_cons (pv 0) (pa_cons (pe_tup (pa_cons pe_str (pa_cons pe_str (pa_cons pe_str (pa_cons pe_str pa_nil))))) pa_nil))))
    (pss_cons (ps_set (i := 2) sc__law_right.nd rfl (Or.inl rfl) (pe_op op_add (pe_op op_add (pe_callTy cr_int (by rfl) (m_int T) bt_int (pa_cons (pe_cmpR op_eq (pv 1) pe_str (nomark _)) pa_nil)) pe_int) (pe_good G__law_next (hr.mono (by decide)) (pa_cons (pv 0) (pa_cons (pe_good G__law_one (hr.mono (by decide)) (pa_cons (pv 0) (pa_cons (pe_tup (pa_cons pe_int (pa_cons pe_int (pa_cons pe_int (pa_cons (pe_op op_pow pe_int pe_int) pa_nil))))) pa_nil))) pa_nil)))))
    (pss_cons (ps_for PassesOwn.never rfl (pi_list (pe_good G__law_places (hr.mono (by decide)) (pa_cons (pv 0) (pa_cons (pv 2) pa_nil)))) (pg_name (i := 3) sc__law_right.nd rfl (Or.inl rfl))
      (pss_cons (ps_for PassesOwn.never rfl (pi_tup (pe_tup (pa_cons pe_bl (pa_cons pe_bl pa_nil)))) (pg_name (i := 4) sc__law_right.nd rfl (Or.inl rfl))
      (pss_cons (ps_set (i := 5) sc__law_right.nd rfl (Or.inl rfl) (pe_good G__law_steps (hr.mono (by decide)) (pa_cons (pv 2) (pa_cons (pv 1) (pa_cons (pv 3) (pa_cons (pv 4) pa_nil))))))
    (pss_cons (ps_set (i := 6) sc__law_right.nd rfl (Or.inl rfl) (pe_good3 G_value_at (hr.mono (by decide)) (pa_cons (pe_tup (pa_cons pe_str (pa_cons (pv 2) (pa_cons (pv 1) pa_nil)))) (pa_cons (pv 3) (pa_cons (pv 4) pa_nil)))))
    (pss_one (ps_if (PW.pt (pw_or (pt_cmpR (op_neD hr.units) (pv 6) (pv 5) (nomark _)) (pw_or1 (pt_cmpR op_ne (pe_callB (cr_repr gd hr.units) (by rfl) (m_repr T) bt_repr (pa_cons (pv 6) pa_nil)) (pe_callB (cr_repr gd hr.units) (by rfl) (m_repr T) bt_repr (pa_cons (pv 5) pa_nil)) (nomark _))))) (pss_one (ps_ret pe_bl)) pss_nil)))))
    (pss_one (ps_if (PW.pt (pw_and (pt_not (pt_val (pe_good G__law_less (hr.mono (by decide)) (pa_cons (pv 3) (pa_cons (pe_tup (pa_cons pe_int (pa_cons pe_int pa_nil))) pa_nil))))) (pw_and (pt_not (pt_val (pe_good G__law_less (hr.mono (by decide)) (pa_cons (pe_tup (pa_cons pe_int (pa_cons pe_int pa_nil))) (pa_cons (pv 3) pa_nil))))) (pw_and1 (pt_not (pt_val (pe_good G__law_turned_right (hr.mono (by decide)) (pa_cons (pv 2) (pa_cons (pv 1) (pa_cons (pv 3) pa_nil)))))))))) (pss_one (ps_ret pe_bl)) pss_nil))))
    (pss_one (ps_ret pe_bl))))), ?_⟩)⟩
  · rintro vs H Q E ⟨_, rfl, _⟩; rfl
  obtain ⟨a, rfl, hs, k⟩ := h
  rw [st__law_right]; try dsimp only [L2.cxOf]
  walk_at "go"
  rename_i pt H1 n1 e1 t1
  refine one_ (by walk_at "src") (.inr (SqT.tr t1)) (by decide) (by decide) fun v H2 hv s2 f2 => ?_
  obtain ⟨w, rfl⟩ := wh_mem hv
  have f02 : Frm a H H2 := (Frm.of e1).trans f2
  clear e1 t1 f2
  walk_at "go"
  refine npow_ (by unfold CPow; decide) ?_
  have e6 : (10 : Int) ^ (6 : Int).toNat = 1000000 := by decide
  rw [e6]
  clear e6
  walk_at "go"
  rename_i ptb H3 n3 e3 t3
  refine one_ (by walk_at "src") (.inr (SqT.tr t3)) (by decide) (by decide) fun v H4 hv4 s4 f4 => ?_
  obtain ⟨m, rfl, m0, m1⟩ := many_mem hv4
  walk_at "go"
  refine next_ s4 (by omega) (by omega) fun r H5 r0 r1 s5 f5 => ?_
  have f05 : Frm a H H5 := ((f02.trans (Frm.of e3)).trans f4).trans f5
  have hn := nok_of (w := w) r0 (by omega)
  clear f02 e3 t3 f4 f5 hv hv4 s2 s4
  walk_at "go"
  generalize (if decide (w.s = "none") = true then 1 else 0 : Int) + 1 + r = n at hn ⊢
  refine ⟨a, n, rfl, s5, hn.pos, fun D ys H6 neD s6 f6 t6 l6 F6 => ?_⟩
  have f06 : Frm a H H6 := f05.trans f6
  clear f05 f6 s5
  refine forL_ (xs := ys) (SqL.tr t6) (fun i σ H' => (∃ o3 o4 o5 o6, σ = [some (.ref a), some (.str w.s), some (.int n), o3, o4, o5, o6]) ∧ Same H6 H') ⟨⟨_, _, _, _, rfl⟩, Same.refl _⟩ ?_ ?_ ?_
  · rintro i σ H8 _ ⟨_, e8⟩
    exact Same.seq e8 (SqL.tr t6)
  · rintro i x σ H8 hx ⟨⟨o3, o4, o5, o6, rfl⟩, e8⟩
    obtain ⟨px, y, rfl, hpx, bx⟩ := F6 x (List.mem_of_getElem? hx)
    have hp8 := Same.sqT e8 hpx
    clear F6 hx t6 l6 f06 hs k
    walk_at "go"
    rename_i pt2 H9 n9 e9 t9
    have hp9 := Same.sqT e9 hp8
    have hpt : SqT K H9 pt2 [.bl false, .bl true] := SqT.tr t9
    have e69 : Same H6 H9 := e8.trans e9
    have bx2 : Bd 200 y := bx.mono (by decide)
    clear e8 e9 t9 n9 hp8 hpx
    refine forT_ (xs := [.bl false, .bl true]) hpt (fun i σ H' => (∃ o4 o5 o6, σ = [some (.ref a), some (.str w.s), some (.int n), some (.ref px), o4, o5, o6]) ∧ Same H9 H') ⟨⟨_, _, _, rfl⟩, Same.refl _⟩ ?_ ?_ ?_
    · rintro i σ H10 _ ⟨_, e10⟩
      exact Same.sqT e10 hpt
    · rintro j z σ H10 hz ⟨⟨o4, o5, o6, rfl⟩, e10⟩
      obtain ⟨e, rfl⟩ := tf_mem hz
      have hp10 := Same.sqT e10 hp9
      have sv : Bd 260 (stv n w y e) := stv_bd e hn bx2
      have sv1 : Bd 1000 (stv n w y e) := sv.mono (by decide)
      clear hp9 hpt e69 hz
      walk_at "go"
      exact ⟨⟨_, _, _, rfl⟩, by walk_at "same"⟩
    · rintro σ H10 ⟨⟨o4, o5, o6, rfl⟩, e10⟩
      have hp10 := Same.sqT e10 hp9
      have e610 : Same H6 H10 := e69.trans e10
      clear hp9 hpt e69 e10
      by_cases h0 : y < 0
      · walk_at "go"
        exact ⟨⟨_, _, _, _, rfl⟩, by walk_at "same"⟩
      by_cases h1 : 1 < y
      · walk_at "go"
        exact ⟨⟨_, _, _, _, rfl⟩, by walk_at "same"⟩
      have h01 : 0 ≤ y ∧ y ≤ 1 := ⟨Rat.not_lt.mp h0, Rat.not_lt.mp h1⟩
      walk_at "go"
      exact ⟨⟨_, _, _, _, rfl⟩, by walk_at "same"⟩
  · rintro σ H8 ⟨⟨o3, o4, o5, o6, rfl⟩, e8⟩
    walk_at "go"
    exact k _ (Same.src e8 s6) (f06.trans (Frm.of e8))

local macro_rules | `(tactic| walk_at "b200") => `(tactic| first
  | assumption
  | (with_reducible apply Bd.mono; assumption; decide))
local macro_rules | `(tactic| walk_at "call") => `(tactic| first
  | (with_reducible apply vals_; walk_at "sq"; assumption; walk_at "sq"; walk_at "b200"; intro _ _ _ _)
  | (with_reducible apply steps_; assumption; walk_at "sq"; walk_at "b200"; intro _ _ _ _)
  | (with_reducible apply turned_; assumption; walk_at "sq"; assumption; assumption; intro _ _)
  | (with_reducible apply repr_; walk_at "sq"; assumption)
  | with_reducible apply sneS_
  | (with_reducible apply neD_; walk_at "sq"; walk_at "sq"))
theorem wh_list {i : Nat} {v : V} (h : [V.str "start", V.str "end", V.str "none", V.str "both"][i]? = some v) : ∃ w : Wh, [Wh.start, Wh.fin, Wh.non, Wh.both][i]? = some w ∧ v = .str w.s := by
  match i, h with
  | 0, h => exact ⟨.start, rfl, (Option.some.inj h).symm⟩
  | 1, h => exact ⟨.fin, rfl, (Option.some.inj h).symm⟩
  | 2, h => exact ⟨.non, rfl, (Option.some.inj h).symm⟩
  | 3, h => exact ⟨.both, rfl, (Option.some.inj h).symm⟩
  | n + 4, h => simp at h
theorem nok2 (w : Wh) : NOk 2 w := by unfold NOk; cases w <;> decide
theorem stv_f : ∀ w : Wh, stv 2 w (1 / 2) false = (match w with | .start => 1 | .fin => 1 / 2 | .non => 1 | .both => 2 / 3) := by
  intro w; cases w <;> decide +kernel
theorem stv_t : ∀ w : Wh, stv 2 w (1 / 2) true = (match w with | .start => 1 / 2 | .fin => 0 | .non => 0 | .both => 1 / 3) := by
  intro w; cases w <;> decide +kernel
theorem stv_e : stv 2 .fin (-1 / 4) false = -1 / 2 := by decide +kernel
theorem fr_half : fr (1 / 2) = [.int 1, .int 2] := by decide +kernel
theorem fr_mq : fr (-1 / 4) = [.int (-1), .int 4] := by decide +kernel
theorem fr_mh : fr (-1 / 2) = [.int (-1), .int 2] := by decide +kernel
theorem fr_13 : fr (1 / 3) = [.int 1, .int 3] := by decide +kernel
theorem fr_23 : fr (2 / 3) = [.int 2, .int 3] := by decide +kernel
theorem bhalf : Bd 200 (1 / 2 : Rat) := by unfold Bd; decide +kernel
theorem bmq : Bd 200 (-1 / 4 : Rat) := by unfold Bd; decide +kernel
theorem qs_f {i : Nat} {w : Wh} (h : [Wh.start, Wh.fin, Wh.non, Wh.both][i]? = some w) : ([1, 1 / 2, 1, 2 / 3] : List Rat)[i]? = some (stv 2 w (1 / 2) false) := by
  rw [stv_f]
  match i, h with
  | 0, h => obtain rfl := Option.some.inj h; rfl
  | 1, h => obtain rfl := Option.some.inj h; rfl
  | 2, h => obtain rfl := Option.some.inj h; rfl
  | 3, h => obtain rfl := Option.some.inj h; rfl
  | n + 4, h => simp at h
theorem qs_t {i : Nat} {w : Wh} (h : [Wh.start, Wh.fin, Wh.non, Wh.both][i]? = some w) : ([1 / 2, 0, 0, 1 / 3] : List Rat)[i]? = some (stv 2 w (1 / 2) true) := by
  rw [stv_t]
  match i, h with
  | 0, h => obtain rfl := Option.some.inj h; rfl
  | 1, h => obtain rfl := Option.some.inj h; rfl
  | 2, h => obtain rfl := Option.some.inj h; rfl
  | 3, h => obtain rfl := Option.some.inj h; rfl
  | n + 4, h => simp at h
theorem lith {K : PySem.W.Frag} {H : Hp} {p : Addr} (h : SqT K H p [.int 1, .int 2]) : SqT K H p (fr (1 / 2)) := SqT.lit fr_half h
local macro_rules | `(tactic| walk_at "sq") => `(tactic| (with_reducible apply lith; (first | assumption | (with_reducible apply SqT.tr; assumption))))
theorem okF_law (T : Txt K mg) {fd : FuncData} (F : FunD K d_law.name d_law.qual d_law.params d_law.body d_law.scope (d_law.dvs K) (d_law.kws K) (He.ga K d_law.name) fd) : FnG P w K mg base CX0 10 (He.ga K "law") fd ["_law_script"] (spLaw K) := by
  have G__law_source := ok__law_source (P := P) (w := w) (base := base) T
  have G__law_right := ok__law_right (P := P) (w := w) (base := base) T
  have G_value_at := ok_value_at (P := P) (w := w) (base := base) T
  have z0 : ∀ H, SqT K H (He.ga K "ZERO") (fr 0) := T.zero
  have z1 : ∀ H, SqT K H (He.ga K "ONE") (fr 1) := T.one
  refine fnG_mk F sc_law ?_ (fun cdv A outer s H vs Q E gd hr h => ⟨_, PSs.nox (pss_cons (ps_for PassesOwn.never rfl (pi_range1 rfl (m_range T) (pa_cons (pe_callB (cr_max2 rfl) (by rfl) (m_max T) bt_max (pa_cons pe_int (pa_cons (pe_callB (cr_min2 rfl) (by rfl) (m_min T) bt_min (pa_cons pe_int (pa_cons (pe_callB cr_len (by rfl) (m_len T) PySem.boot_len (pa_cons (pv 0) pa_nil)) pa_nil))) pa_nil))) pa_nil)) (pg_name (i := 1) sc_law.nd rfl (Or.inl rfl))
      (pss_cons (ps_set (i := 3) sc_law.nd rfl (Or.inl rfl) (pe_good G__law_source (hr.mono (by decide)) (pa_cons (pv 0) (pa_cons (pv 1) pa_nil))))
    (pss_one (ps_for PassesOwn.never rfl (pi_range1 rfl (m_range T) (pa_cons pe_int pa_nil)) (pg_name (i := 4) sc_law.nd rfl (Or.inl rfl))
      (pss_one (ps_if (pt_not (pt_val (pe_goodG G__law_right gd (hr.mono (by decide)) (pa_cons (pv 3) pa_nil)))) (pss_one (ps_ret pe_bl)) pss_nil))))))
    (pss_cons (ps_setLc (i := 2) (own := [("_law_where", 5)]) (g := gName 5) (tt := tYes) rfl sc_law.nd rfl rfl (sw_true rfl rfl rfl (by decide +kernel)) (pi_tup (pe_tup (pa_cons pe_str (pa_cons pe_str (pa_cons pe_str (pa_cons pe_str pa_nil)))))) (blkOk_by (N := n_law) (sc := defScope s_law) (by decide +kernel)) (fun _ _ _ _ _ => (pg_name (i := 5) sc_law.nd rfl (Or.inl rfl))) (fun _ _ _ _ _ => pts_nil) (fun _ _ _ _ _ => (pe_good2 G_value_at (hr.mono (by decide)) (pa_cons (pe_tup (pa_cons pe_str (pa_cons pe_int (pa_cons (pv 5) pa_nil)))) (pa_cons (pe_tup (pa_cons pe_int (pa_cons pe_int pa_nil))) pa_nil)))))
    (pss_cons (ps_if (pt_cmpR (op_neD hr.units) (pv 2) (pe_lst (pa_cons (pe_tup (pa_cons pe_int (pa_cons pe_int pa_nil))) (pa_cons (pe_tup (pa_cons pe_int (pa_cons pe_int pa_nil))) (pa_cons (pe_tup (pa_cons pe_int (pa_cons pe_int pa_nil))) (pa_cons (pe_tup (pa_cons pe_int (pa_cons pe_int pa_nil))) pa_nil))))) (nomark _)) (pss_one (ps_ret pe_bl)) pss_nil)
    (pss_cons (ps_setLc (i := 2) (own := [("_law_where", 5)]) (g := gName 5) (tt := tYes) rfl sc_law.nd rfl rfl (sw_true rfl rfl rfl (by decide +kernel)) (pi_tup (pe_tup (pa_cons pe_str (pa_cons pe_str (pa_cons pe_str (pa_cons pe_str pa_nil)))))) (blkOk_by (N := n_law) (sc := defScope s_law) (by decide +kernel)) (fun _ _ _ _ _ => (pg_name (i := 5) sc_law.nd rfl (Or.inl rfl))) (fun _ _ _ _ _ => pts_nil) (fun _ _ _ _ _ => (pe_good3 G_value_at (hr.mono (by decide)) (pa_cons (pe_tup (pa_cons pe_str (pa_cons pe_int (pa_cons (pv 5) pa_nil)))) (pa_cons (pe_tup (pa_cons pe_int (pa_cons pe_int pa_nil))) (pa_cons pe_bl pa_nil))))))
    (pss_one (ps_ret (pe_and (pe_cmpR (op_eqD hr.units) (pv 2) (pe_lst (pa_cons (pe_tup (pa_cons pe_int (pa_cons pe_int pa_nil))) (pa_cons (pe_tup (pa_cons pe_int (pa_cons pe_int pa_nil))) (pa_cons (pe_tup (pa_cons pe_int (pa_cons pe_int pa_nil))) (pa_cons (pe_tup (pa_cons pe_int (pa_cons pe_int pa_nil))) pa_nil))))) (nomark _)) (pe_one (pe_cmpR (op_eqD hr.units) (pe_good2 G_value_at (hr.mono (by decide)) (pa_cons (pe_tup (pa_cons pe_str (pa_cons pe_int (pa_cons pe_str pa_nil)))) (pa_cons (pe_tup (pa_cons (pe_un un_neg pe_int) (pa_cons pe_int pa_nil))) pa_nil))) (pe_tup (pa_cons (pe_un un_neg pe_int) (pa_cons pe_int pa_nil))) (nomark _)))))))))), ?_⟩)
  · rintro vs H Q E ⟨_, _, rfl, _⟩; rfl
  obtain ⟨a, ns, rfl, hs, hn, k⟩ := h
  rw [st_law]; try dsimp only [L2.cxOf]
  walk_at "go"
  rw [List.length_map]
  refine rng_ (by split <;> split <;> omega) (by split <;> split <;> omega) ?_
  generalize (if (if (ns.length : Int) < 5 then (ns.length : Int) else 5) > 1 then (if (ns.length : Int) < 5 then (ns.length : Int) else 5) else 1 : Int).toNat = n
  refine forR_ (fun i σ H' => (∃ o1 o3 o4, σ = [some (.ref a), o1, none, o3, o4, none]) ∧ SqL K H' a (ns.map V.int)) ⟨⟨_, _, _, rfl⟩, hs⟩ ?_ ?_
  · rintro i σ H1 _ ⟨⟨o1, o3, o4, rfl⟩, h1⟩
    walk_at "go"
    refine ⟨a, ns, _, rfl, h1, by omega, fun p H2 np e2 s2 => ?_⟩
    walk_at "go"
    refine forR_ (fun j σ H' => (∃ o4, σ = [some (.ref a), some (.int (0 + (i : Int))), none, some (.ref p), o4, none]) ∧ Src H' p ∧ Frm p H2 H') ⟨⟨_, rfl⟩, s2, Frm.refl _ _⟩ ?_ ?_
    · rintro j σ H3 _ ⟨⟨o4, rfl⟩, s3, f3⟩
      walk_at "go"
      refine right_ s3 fun H4 s4 f4 => ?_
      walk_at "go"
      exact ⟨⟨_, rfl⟩, s4, f3.trans f4⟩
    · rintro σ H3 ⟨⟨o4, rfl⟩, s3, f3⟩
      exact ⟨⟨_, _, _, rfl⟩, SqL.keepN h1 np fun c o nc hc => f3 _ _ nc (e2 _ _ hc)⟩
  · rintro σ H1 ⟨⟨o1, o3, o4, rfl⟩, h1⟩
    clear h1 hs
    have bh := bhalf
    walk_at "go"
    rename_i pt H2 n2 e2 t2
    refine lcTS (K := K) (xs := [.str "start", .str "end", .str "none", .str "both"]) (fun i y H => ∃ q p, ([1, 1 / 2, 1, 2 / 3] : List Rat)[i]? = some q ∧ y = V.ref p ∧ SqT K H p (fr q)) FrQ.tp (SqT.tr t2) (by simp) ?_ ?_
    · intro i x H' Q' hx e' hq
      obtain ⟨w, hw, rfl⟩ := wh_list hx
      have hn2 := nok2 w
      have z := qs_f hw
      clear hx e2 t2
      dsimp only [wipe, List.set_cons_zero, List.set_cons_succ]
      walk_at "go"
      rename_i c Hx ex hcc
      clear e'
      exact hq _ _ (by walk_at "same") ⟨_, c, z, rfl, hcc⟩
    · intro D zs H' hD e' wD l al
      clear e2 t2 n2
      walk_at "go"
      rename_i r0 G0 v0 z0' g0 r1 G1 v1' z1' g1 r2 G2 v2' z2 g2 r3 G3 v3' z3 g3 R G4 v4' z4 g4
      clear e'
      have FR : FrL K G4 [V.ref r0, V.ref r1, V.ref r2, V.ref r3] [1, 1 / 2, 1, 2 / 3] := ⟨⟨_, rfl, by walk_at "sq"⟩, ⟨_, rfl, by walk_at "sq"⟩, ⟨_, rfl, by walk_at "sq"⟩, ⟨_, rfl, SqT.lit fr_23 (by walk_at "sq")⟩, trivial⟩
      have eD : Same H' G4 := by walk_at "same"
      refine neL_ (qs := [1, 1 / 2, 1, 2 / 3]) (SqL.tr (eD _ _ wD)) (SqL.tr g4) ((FrL.all (by rw [l]; rfl) al).tp (Tp.same eD)) FR rfl ?_
      clear FR eD wD al v0 z0' g0 v1' z1' g1 v2' z2 g2 v3' z3 g3 v4' z4 g4 hD l
      walk_at "go"
      rename_i pt2 H3 n3 e3 t3
      refine lcTS (K := K) (xs := [.str "start", .str "end", .str "none", .str "both"]) (fun i y H => ∃ q p, ([1 / 2, 0, 0, 1 / 3] : List Rat)[i]? = some q ∧ y = V.ref p ∧ SqT K H p (fr q)) FrQ.tp (SqT.tr t3) (by simp) ?_ ?_
      · intro i x H' Q' hx e' hq
        obtain ⟨w, hw, rfl⟩ := wh_list hx
        have hn2 := nok2 w
        have z := qs_t hw
        clear hx e3 t3
        dsimp only [wipe, List.set_cons_zero, List.set_cons_succ]
        walk_at "go"
        rename_i c Hx ex hcc
        clear e'
        exact hq _ _ (by walk_at "same") ⟨_, c, z, rfl, hcc⟩
      · intro D zs H' hD e' wD l al
        clear e3 t3 n3
        walk_at "go"
        rename_i r0 G0 v0 z0' g0 r1 G1 v1' z1' g1 r2 G2 v2' z2 g2 r3 G3 v3' z3 g3 R G4 v4' z4 g4
        clear e'
        have FR : FrL K G4 [V.ref r0, V.ref r1, V.ref r2, V.ref r3] [1 / 2, 0, 0, 1 / 3] := ⟨⟨_, rfl, by walk_at "sq"⟩, ⟨_, rfl, by walk_at "sq"⟩, ⟨_, rfl, by walk_at "sq"⟩, ⟨_, rfl, SqT.lit fr_13 (by walk_at "sq")⟩, trivial⟩
        have eD : Same H' G4 := by walk_at "same"
        refine eqL_ (qs := [1 / 2, 0, 0, 1 / 3]) (SqL.tr (eD _ _ wD)) (SqL.tr g4) ((FrL.all (by rw [l]; rfl) al).tp (Tp.same eD)) FR rfl ?_
        clear FR eD wD al v0 z0' g0 v1' z1' g1 v2' z2 g2 v3' z3 g3 v4' z4 g4 hD l
        walk_at "go"
        rename_i pa Ha na ea ta pb Hb nb eb tb
        refine vals_ (w := .fin) (n := 2) (q := -1 / 4) (SqT.tr (eb _ _ ta)) (nok2 .fin) (SqT.lit fr_mq (by walk_at "sq")) bmq fun c Hc ec hc => ?_
        rw [stv_e] at hc
        clear ea ta eb tb na nb
        walk_at "go"
        rename_i pd Hd nd1 ed td
        refine eqD_ (Same.sqT ed hc) (SqT.lit fr_mh (SqT.tr td)) ?_
        rw [decide_eq_true rfl]
        exact k _

end
end FC
namespace FC
open PySem PySem.Spec PyProof.Rows L2 He
def fa : List Fa := fn.map (fun d => Fa.glo d.name) ++ frees.map Fa.free
def ck (K : PySem.W.Frag) : Bool := eqO (PySem.W.nsIn K mainGlobals "gcd") (some (some (.builtin "math.gcd"))) && (eqO (PySem.W.nsIn K mainGlobals "ZERO") (some (some (.ref (ga K "ZERO")))) && (eqO (PySem.W.nsIn K mainGlobals "ONE") (some (some (.ref (ga K "ONE")))) && (tupB K "ZERO" [.int 0, .int 1] && tupB K "ONE" [.int 1, .int 1])))
def hookX (n : Nat) (ck : PySem.W.Frag → Bool) (fa : List Fa) (fn : List DefD) : PySem.W.Hook where
  α := Bool × AlD
  obs := fun s => (ck (frG s.heap.get? (asD s.heap.get? n)), obsDG n fa fn s.heap.get?)
  val := fun _ => (true, valD fn)
  says := fun _ h => ∃ K : PySem.W.Frag, K.In h ∧ ck K = true ∧ SaysD fa fn K
  of := fun _ _ e => ⟨_, frG_in, congrArg Prod.fst e, congrArg Prod.snd e⟩
  keeps := fun _ _ _ ⟨K, hK, c⟩ k => ⟨K, PySem.W.Frag.In.keeps hK k, c⟩
def obsXG (n : Nat) (ck : PySem.W.Frag → Bool) (fa : List Fa) (fn : List DefD) (g : Addr → Option Obj) : Bool × AlD := (ck (frG g (asD g n)), obsDG n fa fn g)
theorem obsXG_eq {n : Nat} {ck : PySem.W.Frag → Bool} {fa : List Fa} {fn : List DefD} {g : Addr → Option Obj} {s : Shared} (h : ∀ a, g a = s.heap.get? a) : obsXG n ck fa fn g = (hookX n ck fa fn).obs s := by
  have e : g = s.heap.get? := funext h
  rw [e] <;> rfl
def loose0 : List PySem.Str := ["__name__", "CueError", "NoCurve", "NoNumber", "NoFlag", "ZERO", "ONE", "is_whole", "is_ratio", "ratio", "plus", "minus", "times", "over", "less", "even_step", "even_place", "is_curve", "value_at", "curve_value"]
def loose1 : List PySem.Str := ["_are_points", "_are_steps", "_line_value", "_stretch", "_told_stretch", "_cubic_value", "_step_value", "_most_steps", "_law_cell_at", "_law_mixed", "_law_source", "_law_next", "_law_one", "_law_divisor", "_law_ratio", "_law_plus", "_law_minus", "_law_less", "_law_part", "_law_any_part"]
def loose2 : List PySem.Str := ["_law_steps", "_law_places", "_law_turned_right", "_law_right"]
def loose : List PySem.Str := loose0 ++ loose1 ++ loose2
abbrev R : PySem.W.OpenRow := PySem.W.OpenLaw.row PySem.Challenge.rw_framecues_k05_values_of_steps
abbrev hk : PySem.W.Hook := hookX 4 ck fa fn
def ob (s : PySem.W.SharedT) : Bool × AlD := obsXG 4 ck fa fn (HandSHeadRun.getT s)
theorem ob_eq (s : PySem.W.SharedT) : ob s = hk.obs s.abs := obsXG_eq (HandSHeadRun.getT_eq s)
set_option maxHeartbeats 0 in
theorem run (w : World) : HandSHeadRun.RunEqI R (PySem.W.view R.prog [0, 48]) hk ob 20000 loose w := by
  unfold HandSHeadRun.RunEqI
  kernel_rfl
theorem at_ok : ∀ d ∈ fn, d.at_ = (d.name, none) := by
  have h : (fn.all fun d => decide (d.at_ = (d.name, none))) = true := by decide +kernel
  intro d hd
  exact of_decide_eq_true (List.all_eq_true.mp h d hd)
theorem txt {K : PySem.W.Frag} {h : Heap} {mg : Str → Option Value} (X : K.In h) (G : h.Ns mainGlobals mg) (c : He.SaysD fa fn K) (cc : ck K = true) : Txt K mg := by
  unfold ck at cc
  obtain ⟨c1, cc⟩ := ba cc
  obtain ⟨c2, cc⟩ := ba cc
  obtain ⟨c3, cc⟩ := ba cc
  obtain ⟨c4, c5⟩ := ba cc
  refine ⟨fun i d hd => ⟨?_, ?_⟩, fun i x hx => ?_, PySem.W.mg_of X G (eqO_ok c1), PySem.W.mg_of X G (eqO_ok c2), PySem.W.mg_of X G (eqO_ok c3), fun H => tupB_ok c4 H, fun H => tupB_ok c5 H⟩
  · refine He.glo_ok X G (c.fact i (f := .glo d.name) ?_)
    unfold fa
    have hl : i < (fn.map fun d => Fa.glo d.name).length := by
      rw [List.length_map]
      exact (List.getElem?_eq_some_iff.mp hd).1
    rw [List.getElem?_append_left hl, List.getElem?_map, hd]
    rfl
  · obtain ⟨fd, F⟩ := c.def_ i hd
    have e : He.fAd K d.at_ = He.ga K d.name := by
      rw [at_ok d (List.mem_of_getElem? hd)]
      rfl
    rw [e] at F
    exact ⟨fd, F⟩
  · refine He.free_ok X G (c.fact (fn.length + i) (f := .free x) ?_)
    unfold fa
    rw [List.getElem?_append_right (by rw [List.length_map]; omega), List.length_map, Nat.add_sub_cancel_left, List.getElem?_map, hx]
    rfl
theorem facts {P : Program} {w : World} {K : PySem.W.Frag} {h : Heap} {mg : Str → Option Value} {f : Addr} (X : K.In h) (G : h.Ns mainGlobals mg) (hfa : mg ("law" : Str) = some (.ref f)) (c : He.SaysD fa fn K) (cc : ck K = true) :
    ∃ fd : FuncData, (∀ (s : Shared) (v : Value), BindsTo s fd ⟨[v], []⟩ [("_law_script", v)]) ∧ ∀ base : Heap, K.In base → base.Ns mainGlobals mg → FnG P w K mg base CX0 10 f fd ["_law_script"] (spLaw K) := by
  have T := txt X G c cc
  obtain ⟨gM, fd, F⟩ := dk_law T
  have e := hfa.symm.trans gM
  cases e
  have b := FunD.bindsA (ps := ["_law_script"]) F fun _ _ _ _ _ _ us hl => match us, hl with | [_], _ => rfl
  exact ⟨fd, fun s v => b s [v] rfl, fun base _ _ => okF_law T F⟩
end FC
open PySem PySem.W PySem.Calls PyProof.Rows
set_option maxRecDepth 100000 in
set_option maxHeartbeats 0 in
theorem PySem.Challenge.cw_framecues_k05_values_of_steps_holds : PySem.Challenge.rw_framecues_k05_values_of_steps.Holds := by
  w_on; o_law
  refine HandSHeadRun.head_imp (r := OpenLaw.row PySem.Challenge.rw_framecues_k05_values_of_steps) (q := view (OpenLaw.row PySem.Challenge.rw_framecues_k05_values_of_steps).prog [0, 48]) (H := FC.hk) (ob := FC.ob) (M := 20000) (loose := FC.loose) (d := HandSHeadRun.topDef (OpenLaw.row PySem.Challenge.rw_framecues_k05_values_of_steps).prog 48) (kwd := []) FC.ob_eq FC.run
    (by kernel_rfl) (by kernel_rfl) (by kernel_rfl) (by rfl) (by first | assumption | decide +kernel) (by decide +kernel) ⟨rfl, rfl, rfl, rfl, rfl, by decide +kernel⟩ ?hw ?hc
  case hw => w_witness2
  case hc =>
    refine FC.walk_G (l := PySem.Challenge.rw_framecues_k05_values_of_steps) (n := 63) (k := 10) (x := "_law_script") rfl (by decide) (by kernel_rfl) ⟨rfl, by decide, by decide⟩ ?F
    intro w mg fa h Y G hmg0
    obtain ⟨K, KX, cc, c⟩ := Y
    have hmg : mg ("law" : PySem.Str) = some (.ref fa) := by
      have e : (HandSHeadRun.topDef (OpenLaw.row PySem.Challenge.rw_framecues_k05_values_of_steps).prog 48).name = ("law" : PySem.Str) := by kernel_rfl
      rw [← e]
      exact hmg0
    obtain ⟨fd, hb, hF⟩ := FC.facts (P := (PySem.Challenge.rw_framecues_k05_values_of_steps).prog) (w := w) KX G hmg c cc
    exact ⟨K, fd, FC.spLaw K, KX, hb, fun H a ns hl hS => ⟨a, ns, rfl, hS, hl, fun _ => rfl⟩, hF⟩
