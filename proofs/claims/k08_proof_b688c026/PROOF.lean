import PyProof.Rows.All
import Wide.All
import OpenK.AllK
import Wide.FinOn
import KE.KStateDown
import HandS.Base
import HandS.Call
import HandS.List
import HandS.Comp
import HandS.Iter
import HandS.Ends
import HandS.Words
import HandS.WordsList
import HandS.WordsExc
import HandS.Defaults
import HandS.Wide
import HandS.Gcd
import HandS.IsInst
import HandS.NoneIn
import HandS.Head0
import HandS.Head1
import HandS.Head2
import HandS.Head3
import HandS.HeadEnd
import HandS.HeadHook1
import HandS.HeadHook2
import PyProof.ReprRoads
import PyProof.ReprReads
import PyProof.ReprLen
import PyProof.FitsInt
import HandS.Walk
import PyProof.P3In
import PyProof.Rows.InDataRows
import HandS.TupMul
import HandS.Strs
import KE.KIndexWalk
import PyProof.P3Eq
import HandS.Text
import KE.GoesMore
import HandS.Zip
import KE.GoesEnum
import HandS.SortInts
import HandS.ExcOwn
import HandS.TryMany
import HandS.Lambda
import HandS.Style
import HandS.TupAny
import HandS.HeadHook4
import HandS.HeadWalk
import HandS.Style
import PySem.Challenge.RW_framecues_k08_what_is_no_timing
set_option Elab.async false
set_option linter.all false
set_option maxRecDepth 100000
set_option maxHeartbeats 4000000
set_option exponentiation.threshold 20000
/-! ### fractions as pairs; their sizes -/
namespace FC
open PySem PySem.Spec PyProof.Rows L2
/-- the pair of a fraction -/
def fr (q : Rat) : List V := [.int q.num, .int (q.den : Int)]
def Bd (n : Nat) (q : Rat) : Prop := q.num.natAbs < 2 ^ n ∧ q.den < 2 ^ n
theorem Bd.mono {n m : Nat} {q : Rat} (h : Bd n q) (l : n ≤ m) : Bd m q :=
  ⟨Nat.lt_of_lt_of_le h.1 (Nat.pow_le_pow_right (by decide) l), Nat.lt_of_lt_of_le h.2 (Nat.pow_le_pow_right (by decide) l)⟩
theorem den_pos (q : Rat) : 0 < q.den := Nat.pos_of_ne_zero q.den_nz
/-- the lowest terms are no greater -/
theorem mk_num_le (a : Int) (b : Nat) (hb : b ≠ 0) : (mkRat a b).num.natAbs ≤ a.natAbs := by
  rw [Rat.num_mkRat, if_neg hb]
  rw [Int.natAbs_ediv_of_dvd (Int.ofNat_dvd_left.mpr (Nat.gcd_dvd_right _ _))]
  exact Nat.div_le_self _ _
theorem mk_den_le (a : Int) (b : Nat) (hb : b ≠ 0) : (mkRat a b).den ≤ b := by
  rw [Rat.den_mkRat, if_neg hb]
  exact Nat.div_le_self _ _
theorem Bd.mk {n : Nat} {a : Int} {b : Nat} (hb : b ≠ 0) (h1 : a.natAbs < 2 ^ n) (h2 : b < 2 ^ n) : Bd n (mkRat a b) :=
  ⟨Nat.lt_of_le_of_lt (mk_num_le a b hb) h1, Nat.lt_of_le_of_lt (mk_den_le a b hb) h2⟩
theorem nmul {i j : Int} {a b : Nat} (ha : i.natAbs < 2 ^ a) (hb : j.natAbs < 2 ^ b) : (i * j).natAbs < 2 ^ (a + b) := by
  rw [Int.natAbs_mul, Nat.pow_add]
  exact Nat.mul_lt_mul'' ha hb
theorem nadd {i j : Int} {a : Nat} (ha : i.natAbs < 2 ^ a) (hb : j.natAbs < 2 ^ a) : (i + j).natAbs < 2 ^ (a + 1) := by
  have := Int.natAbs_add_le i j
  rw [Nat.pow_succ]
  omega
theorem nsub {i j : Int} {a : Nat} (ha : i.natAbs < 2 ^ a) (hb : j.natAbs < 2 ^ a) : (i - j).natAbs < 2 ^ (a + 1) := by
  have := Int.natAbs_sub_le i j
  rw [Nat.pow_succ]
  omega
theorem ndm {a b n m : Nat} (h1 : a < 2 ^ n) (h2 : b < 2 ^ m) : a * b < 2 ^ (n + m) := by
  rw [Nat.pow_add]
  exact Nat.mul_lt_mul'' h1 h2
theorem pow_up {x n m : Nat} (h : x < 2 ^ n) (l : n ≤ m) : x < 2 ^ m := Nat.lt_of_lt_of_le h (Nat.pow_le_pow_right (by decide) l)
theorem Bd.add {n m : Nat} {p q : Rat} (h1 : Bd n p) (h2 : Bd m q) : Bd (n + m + 1) (p + q) := by
  rw [Rat.add_def']
  refine Bd.mk (Nat.mul_ne_zero p.den_nz q.den_nz) (nadd (nmul h1.1 (by rw [Int.natAbs_natCast]; exact h2.2)) ?_) (pow_up (ndm h1.2 h2.2) (Nat.le_succ _))
  rw [Nat.add_comm n m]
  exact nmul h2.1 (by rw [Int.natAbs_natCast]; exact h1.2)
theorem Bd.sub {n m : Nat} {p q : Rat} (h1 : Bd n p) (h2 : Bd m q) : Bd (n + m + 1) (p - q) := by
  rw [Rat.sub_def']
  refine Bd.mk (Nat.mul_ne_zero p.den_nz q.den_nz) (nsub (nmul h1.1 (by rw [Int.natAbs_natCast]; exact h2.2)) ?_) (pow_up (ndm h1.2 h2.2) (Nat.le_succ _))
  rw [Nat.add_comm n m]
  exact nmul h2.1 (by rw [Int.natAbs_natCast]; exact h1.2)
theorem Bd.mul {n m : Nat} {p q : Rat} (h1 : Bd n p) (h2 : Bd m q) : Bd (n + m) (p * q) := by
  rw [Rat.mul_def']
  exact Bd.mk (Nat.mul_ne_zero p.den_nz q.den_nz) (nmul h1.1 h2.1) (ndm h1.2 h2.2)
theorem Bd.neg {n : Nat} {p : Rat} (h1 : Bd n p) : Bd n (-p) := ⟨by rw [Rat.neg_num, Int.natAbs_neg]; exact h1.1, h1.2⟩
theorem Bd.q0 : Bd 1 (0 : Rat) := ⟨by decide, by decide⟩
theorem Bd.q1 : Bd 1 (1 : Rat) := ⟨by decide, by decide⟩
theorem Bd.q2 : Bd 2 (2 : Rat) := ⟨by decide, by decide⟩
theorem Bd.q3 : Bd 2 (3 : Rat) := ⟨by decide, by decide⟩
theorem Bd.pos {n : Nat} {p : Rat} (h : Bd n p) : 0 < n := by
  cases n with
  | zero => have := h.2; have := den_pos p; omega
  | succ n => exact Nat.succ_pos n
/-- small enough for one step of reckoning -/
def Sm (q : Rat) : Prop := Bd 4000 q
theorem Sm.of {n : Nat} {q : Rat} (h : Bd n q) (l : n ≤ 4000) : Sm q := h.mono l
/-! ### the quotient in lowest terms -/
theorem ratio_num (a b : Int) (hb : 0 < b) : a / ((Nat.gcd a.natAbs b.natAbs : Nat) : Int) = (Rat.divInt a b).num := by
  obtain ⟨n, rfl⟩ := Int.eq_ofNat_of_zero_le (Int.le_of_lt hb)
  rw [Rat.divInt_ofNat, Rat.num_mkRat, if_neg (by omega), Int.natAbs_natCast, Nat.gcd_comm]
theorem ratio_den (a b : Int) (hb : 0 < b) : b / ((Nat.gcd a.natAbs b.natAbs : Nat) : Int) = ((Rat.divInt a b).den : Int) := by
  obtain ⟨n, rfl⟩ := Int.eq_ofNat_of_zero_le (Int.le_of_lt hb)
  rw [Rat.divInt_ofNat, Rat.den_mkRat, if_neg (by omega), Int.natAbs_natCast, Nat.gcd_comm]
  exact (Int.natCast_ediv _ _).symm
theorem d_add (p q : Rat) : Rat.divInt (p.num * (q.den : Int) + q.num * (p.den : Int)) ((p.den : Int) * (q.den : Int)) = p + q := by
  rw [← Rat.divInt_add_divInt _ _ (by exact_mod_cast p.den_nz) (by exact_mod_cast q.den_nz), Rat.num_divInt_den, Rat.num_divInt_den]
theorem d_sub (p q : Rat) : Rat.divInt (p.num * (q.den : Int) - q.num * (p.den : Int)) ((p.den : Int) * (q.den : Int)) = p - q := by
  rw [← Rat.divInt_sub_divInt _ _ (by exact_mod_cast p.den_nz) (by exact_mod_cast q.den_nz), Rat.num_divInt_den, Rat.num_divInt_den]
theorem d_mul (p q : Rat) : Rat.divInt (p.num * q.num) ((p.den : Int) * (q.den : Int)) = p * q := by
  rw [← Rat.divInt_mul_divInt, Rat.num_divInt_den, Rat.num_divInt_den]
theorem d_div (p q : Rat) : Rat.divInt (p.num * (q.den : Int)) ((p.den : Int) * q.num) = p / q := by
  rw [← Rat.divInt_mul_divInt, Rat.num_divInt_den, Rat.div_def, Rat.inv_def]
theorem gcd_one (q : Rat) : ((Nat.gcd q.num.natAbs (q.den : Int).natAbs : Nat) : Int) = 1 := by
  rw [Int.natAbs_natCast]
  exact_mod_cast q.reduced
theorem fr_inj {p q : Rat} (h1 : p.num = q.num) (h2 : (p.den : Int) = (q.den : Int)) : p = q := Rat.ext h1 (by exact_mod_cast h2)
theorem lt_num (p q : Rat) : decide (p.num * (q.den : Int) < q.num * (p.den : Int)) = decide (p < q) := decide_eq_decide.mpr (Rat.lt_iff p q).symm
end FC

namespace FC
open PySem L2
def BlPost (P : Bool → Hp → Prop) : VK := fun x H' => ∃ k, x = .bl k ∧ P k H'
def TupPost (Q : VK) : List V → Hp → Prop := fun xs H1 => xs.length ≤ sizeLine ∧ ∀ p, H1 p = none → Q (.ref p) (upd H1 p (.tup xs))
def LstPost (Q : VK) : List V → Hp → Prop := fun xs H1 => xs.length ≤ sizeLine ∧ ∀ p, H1 p = none → Q (.ref p) (upd H1 p (.lst xs))
def ParPost (i j : Nat) (σ : L2.St) (N : L2.St → Hp → Prop) : List V → Hp → Prop := fun vs H1 => ∃ v w, vs = [v, w] ∧ N ((σ.set i (some v)).set j (some w)) H1
section
variable {σ r : St} {H H' : Hp} {Q : VK} {D : Ends} {v w : V} {te ta tb : TE} {t u : TS} {tt tu : TT} {g : TG} {K : PySem.W.Frag} {o0 o1 o2 o3 o4 o5 o6 o7 o8 o9 : Option V}
/-! ### names -/
theorem v0 (q : Q v H) : tVar 0 (some v :: r) H Q := ⟨v, rfl, q⟩
theorem v1 (q : Q v H) : tVar 1 (o0 :: some v :: r) H Q := ⟨v, rfl, q⟩
theorem v2 (q : Q v H) : tVar 2 (o0 :: o1 :: some v :: r) H Q := ⟨v, rfl, q⟩
theorem v3 (q : Q v H) : tVar 3 (o0 :: o1 :: o2 :: some v :: r) H Q := ⟨v, rfl, q⟩
theorem v4 (q : Q v H) : tVar 4 (o0 :: o1 :: o2 :: o3 :: some v :: r) H Q := ⟨v, rfl, q⟩
theorem v5 (q : Q v H) : tVar 5 (o0 :: o1 :: o2 :: o3 :: o4 :: some v :: r) H Q := ⟨v, rfl, q⟩
theorem v6 (q : Q v H) : tVar 6 (o0 :: o1 :: o2 :: o3 :: o4 :: o5 :: some v :: r) H Q := ⟨v, rfl, q⟩
theorem v7 (q : Q v H) : tVar 7 (o0 :: o1 :: o2 :: o3 :: o4 :: o5 :: o6 :: some v :: r) H Q := ⟨v, rfl, q⟩
theorem v8 (q : Q v H) : tVar 8 (o0 :: o1 :: o2 :: o3 :: o4 :: o5 :: o6 :: o7 :: some v :: r) H Q := ⟨v, rfl, q⟩
theorem v9 (q : Q v H) : tVar 9 (o0 :: o1 :: o2 :: o3 :: o4 :: o5 :: o6 :: o7 :: o8 :: some v :: r) H Q := ⟨v, rfl, q⟩
theorem g0 {P : St → Hp → Prop} (q : P (some v :: r) H) : gName 0 v (o0 :: r) H P := q
theorem g1 {P : St → Hp → Prop} (q : P (o0 :: some v :: r) H) : gName 1 v (o0 :: o1 :: r) H P := q
theorem g2 {P : St → Hp → Prop} (q : P (o0 :: o1 :: some v :: r) H) : gName 2 v (o0 :: o1 :: o2 :: r) H P := q
theorem g3 {P : St → Hp → Prop} (q : P (o0 :: o1 :: o2 :: some v :: r) H) : gName 3 v (o0 :: o1 :: o2 :: o3 :: r) H P := q
theorem g4 {P : St → Hp → Prop} (q : P (o0 :: o1 :: o2 :: o3 :: some v :: r) H) : gName 4 v (o0 :: o1 :: o2 :: o3 :: o4 :: r) H P := q
theorem g5 {P : St → Hp → Prop} (q : P (o0 :: o1 :: o2 :: o3 :: o4 :: some v :: r) H) : gName 5 v (o0 :: o1 :: o2 :: o3 :: o4 :: o5 :: r) H P := q
theorem g6 {P : St → Hp → Prop} (q : P (o0 :: o1 :: o2 :: o3 :: o4 :: o5 :: some v :: r) H) : gName 6 v (o0 :: o1 :: o2 :: o3 :: o4 :: o5 :: o6 :: r) H P := q
theorem g7 {P : St → Hp → Prop} (q : P (o0 :: o1 :: o2 :: o3 :: o4 :: o5 :: o6 :: some v :: r) H) : gName 7 v (o0 :: o1 :: o2 :: o3 :: o4 :: o5 :: o6 :: o7 :: r) H P := q
theorem g8 {P : St → Hp → Prop} (q : P (o0 :: o1 :: o2 :: o3 :: o4 :: o5 :: o6 :: o7 :: some v :: r) H) : gName 8 v (o0 :: o1 :: o2 :: o3 :: o4 :: o5 :: o6 :: o7 :: o8 :: r) H P := q
theorem g9 {P : St → Hp → Prop} (q : P (o0 :: o1 :: o2 :: o3 :: o4 :: o5 :: o6 :: o7 :: o8 :: some v :: r) H) : gName 9 v (o0 :: o1 :: o2 :: o3 :: o4 :: o5 :: o6 :: o7 :: o8 :: o9 :: r) H P := q
theorem xc (q : Q v H) : tC v σ H Q := q
/-! ### statements -/
theorem xseq (q : t { D with nx := u D } σ H) : tSeq t u D σ H := q
theorem xnext (q : D.nx σ H) : tNext D σ H := q
theorem xasg (q : te σ H fun x H1 => g x σ H1 D.nx) : tAsg te g D σ H := q
theorem xret (q : te σ H D.rt) : tRet te D σ H := q
theorem xdrop (q : te σ H fun _ H1 => D.nx σ H1) : tDrop te D σ H := q
theorem xcont (q : D.ct σ H) : tCont D σ H := q
theorem xifs (q : tt σ H fun b H1 => if b = true then t D σ H1 else u D σ H1) : tIfS tt t u D σ H := q
theorem xpar {i j : Nat} {ta : TA} (q : ta σ H (ParPost i j σ D.nx)) : tPar i j ta D σ H := q
theorem xpar2 {i j : Nat} {N : L2.St → Hp → Prop} {x y : V} (q : N ((σ.set i (some x)).set j (some y)) H) : ParPost i j σ N [x, y] H := ⟨x, y, rfl, q⟩
/-! ### tests and values -/
theorem xtest {P : Bool → Hp → Prop} (q : te σ H (BlPost P)) : tTest te σ H P := q
theorem xtB {P : Bool → Hp → Prop} (q : te σ H (BlPost P)) : tB te σ H P := q
theorem xbl {P : Bool → Hp → Prop} {b : Bool} (q : P b H) : BlPost P (.bl b) H := ⟨b, rfl, q⟩
theorem xand {P : Bool → Hp → Prop} (q : tt σ H fun c H1 => if c = true then tu σ H1 P else P false H1) : tAnd tt tu σ H P := q
theorem xor {P : Bool → Hp → Prop} (q : tt σ H fun c H1 => if c = true then P true H1 else tu σ H1 P) : tOr tt tu σ H P := q
theorem xnot {P : Bool → Hp → Prop} (q : tt σ H fun c H1 => P (!c) H1) : tNot tt σ H P := q
theorem xandv (q : ta σ H (BlPost fun c H1 => if c = true then tb σ H1 Q else Q (.bl false) H1)) : tAndV ta tb σ H Q := q
theorem xorv (q : ta σ H (BlPost fun c H1 => if c = true then Q (.bl true) H1 else tb σ H1 Q)) : tOrV ta tb σ H Q := q
theorem xnotv (q : ta σ H (BlPost fun c H1 => Q (.bl (!c)) H1)) : tNotV ta σ H Q := q
theorem xif (q : tt σ H fun c H1 => if c = true then ta σ H1 Q else tb σ H1 Q) : tIf tt ta tb σ H Q := q
theorem xisN (q : ta σ H fun x H1 => Q (.bl (decide (x = .non))) H1) : tIsN ta σ H Q := q
theorem xnotN (q : ta σ H fun x H1 => Q (.bl (!decide (x = .non))) H1) : tNotN ta σ H Q := q
theorem xop {r : R2} (q : ta σ H fun x H1 => tb σ H1 fun y H2 => r x y H2 Q) : tOp r ta tb σ H Q := q
theorem xun {r : V → Hp → VK → Prop} (q : ta σ H fun x H1 => r x H1 Q) : tUn r ta σ H Q := q
theorem xnil {P : List V → Hp → Prop} (q : P [] H) : tNil σ H P := q
theorem xcons {tr : TA} {P : List V → Hp → Prop} (q : ta σ H fun x H1 => tr σ H1 fun xs H2 => P (x :: xs) H2) : tCons ta tr σ H P := q
theorem xcb {r : List V → Hp → VK → Prop} {t : TA} (q : t σ H fun vs H1 => r vs H1 Q) : tCB r t σ H Q := q
theorem xcall {sp : Sp} {E : XK} {t : TA} (q : t σ H fun vs H1 => sp vs H1 Q E) : tCall sp [] E t σ H Q := by
  show t σ H fun vs H1 => sp (vs ++ []) H1 Q E
  have e : (fun vs H1 => sp (vs ++ []) H1 Q E) = fun vs H1 => sp vs H1 Q E := by
    funext vs H1
    rw [List.append_nil]
  rw [e]
  exact q
theorem xtup {t : TA} (q : t σ H (TupPost Q)) : tTup t σ H Q := q
theorem xlst {t : TA} (q : t σ H (LstPost Q)) : tLst t σ H Q := q
theorem xbm {T : String} {r : V → List V → Hp → VK → Prop} {t : TA} (q : te σ H fun x H1 => tyV K T x H1 ∧ t σ H1 fun xs H2 => r x xs H2 Q) : tBM K T r te t σ H Q := q
theorem xsub {ti : TE} {ts : TSet} {P : St → Hp → Prop} (q : te σ H fun o H1 => ti σ H1 fun i H2 => ts o i v H2 fun H3 => P σ H3) : gSub te ti ts v σ H P := q
/-! ### ways -/
theorem wT {A B : Prop} {c : Bool} (e : c = true) (h : A) : if c = true then A else B := by
  rw [if_pos e]
  exact h
theorem wF {A B : Prop} {c : Bool} (e : c = false) (h : B) : if c = true then A else B := by
  rw [e, if_neg Bool.false_ne_true]
  exact h
theorem wD {A B : Prop} {P : Prop} {_ : Decidable P} (h1 : P → A) (h2 : ¬ P → B) : if decide P = true then A else B := by
  by_cases c : P
  · rw [if_pos (decide_eq_true c)]
    exact h1 c
  · rw [if_neg (by rw [decide_eq_false c]; exact Bool.false_ne_true)]
    exact h2 c
theorem wN {A B : Prop} {P : Prop} {_ : Decidable P} (h1 : ¬ P → A) (h2 : P → B) : if (!decide P) = true then A else B := by
  by_cases c : P
  · rw [decide_eq_true c, if_neg (by decide)]
    exact h2 c
  · rw [decide_eq_false c, if_pos (by decide)]
    exact h1 c
theorem wB {A B : Prop} {c : Bool} (h1 : c = true → A) (h2 : c = false → B) : if c = true then A else B := by
  cases c with
  | true =>
    rw [if_pos rfl]
    exact h1 rfl
  | false =>
    rw [if_neg Bool.false_ne_true]
    exact h2 rfl
/-! ### numbers -/
theorem nadd_ {i j : Int} (q : Q (.int (i + j)) H) : rI0 (fun i j => .int (i + j)) (.int i) (.int j) H Q := ⟨i, j, rfl, rfl, q⟩
theorem nsub_ {i j : Int} (q : Q (.int (i - j)) H) : rI0 (fun i j => .int (i - j)) (.int i) (.int j) H Q := ⟨i, j, rfl, rfl, q⟩
theorem nmul_ {i j : Int} (c : CMulW i j) (q : Q (.int (i * j)) H) : rI CMulW (fun i j => .int (i * j)) (.int i) (.int j) H Q := ⟨i, j, rfl, rfl, c, q⟩
theorem nmuls_ {i j : Int} (c : CMul i j) (q : Q (.int (i * j)) H) : rI CMul (fun i j => .int (i * j)) (.int i) (.int j) H Q := ⟨i, j, rfl, rfl, c, q⟩
theorem ndiv_ {i j : Int} (c : CDivW i j) (q : Q (.int (i / j)) H) : rI CDivW (fun i j => .int (i / j)) (.int i) (.int j) H Q := ⟨i, j, rfl, rfl, c, q⟩
theorem nmod_ {i j : Int} (c : 0 < j) (q : Q (.int (i % j)) H) : rI (fun _ j => 0 < j) (fun i j => .int (i % j)) (.int i) (.int j) H Q := ⟨i, j, rfl, rfl, c, q⟩
theorem npow_ {i j : Int} (c : CPow i j) (q : Q (.int (i ^ j.toNat)) H) : rI CPow (fun i j => .int (i ^ j.toNat)) (.int i) (.int j) H Q := ⟨i, j, rfl, rfl, c, q⟩
theorem nlt_ {i j : Int} (q : Q (.bl (decide (i < j))) H) : rI0 (fun i j => .bl (decide (i < j))) (.int i) (.int j) H Q := ⟨i, j, rfl, rfl, q⟩
theorem nle_ {i j : Int} (q : Q (.bl (decide (i ≤ j))) H) : rI0 (fun i j => .bl (decide (i ≤ j))) (.int i) (.int j) H Q := ⟨i, j, rfl, rfl, q⟩
theorem ngt_ {i j : Int} (q : Q (.bl (decide (j < i))) H) : rI0 (fun i j => .bl (decide (j < i))) (.int i) (.int j) H Q := ⟨i, j, rfl, rfl, q⟩
theorem nge_ {i j : Int} (q : Q (.bl (decide (j ≤ i))) H) : rI0 (fun i j => .bl (decide (j ≤ i))) (.int i) (.int j) H Q := ⟨i, j, rfl, rfl, q⟩
theorem nneg_ {i : Int} (q : Q (.int (-i)) H) : rU (fun i => .int (-i)) (.int i) H Q := ⟨i, rfl, q⟩
theorem neq_ {i j : Int} (q : Q (.bl (decide (i = j))) H) : rEq (.int i) (.int j) H Q := by
  refine ⟨rfl, ?_⟩
  have e : decide (V.int i = V.int j) = decide (i = j) := decide_eq_decide.mpr ⟨V.int.inj, congrArg V.int⟩
  rw [e]
  exact q
theorem nne_ {i j : Int} (q : Q (.bl (!decide (i = j))) H) : rNe (.int i) (.int j) H Q := by
  refine ⟨rfl, ?_⟩
  have e : decide (V.int i = V.int j) = decide (i = j) := decide_eq_decide.mpr ⟨V.int.inj, congrArg V.int⟩
  rw [e]
  exact q
theorem seq_ {i j : Str} (q : Q (.bl (decide (i = j))) H) : rEq (.str i) (.str j) H Q := by
  refine ⟨rfl, ?_⟩
  have e : decide (V.str i = V.str j) = decide (i = j) := decide_eq_decide.mpr ⟨V.str.inj, congrArg V.str⟩
  rw [e]
  exact q
/-! ### sequences -/
theorem ixT_ {p : Addr} {xs : List V} {i : Int} (h : SqT K H p xs) (ha : atI xs i = some v) (q : Q v H) : rIxT K (.ref p) (.int i) H Q := ⟨p, xs, i, v, rfl, rfl, h, ha, q⟩
theorem ixL_ {p : Addr} {xs : List V} {i : Int} (h : SqL K H p xs) (ha : atI xs i = some v) (q : Q v H) : rIxL K (.ref p) (.int i) H Q := ⟨p, xs, i, v, rfl, rfl, h, ha, q⟩
theorem same_upd {H : Hp} {p : Addr} {o : HO} (h : H p = none) : Same H (upd H p o) := fun b x e => by
  rw [upd_ne (ne_of_none e h)]
  exact e
theorem tup_ {xs : List V} (hl : xs.length ≤ sizeLine) (q : ∀ p H', H p = none → Same H H' → H' p = some (.tup xs) → Q (.ref p) H') : TupPost Q xs H :=
  ⟨hl, fun p hp => q p _ hp (same_upd hp) upd_same⟩
theorem lst_ {xs : List V} (hl : xs.length ≤ sizeLine) (q : ∀ p H', H p = none → Same H H' → H' p = some (.lst xs) → Q (.ref p) H') : LstPost Q xs H :=
  ⟨hl, fun p hp => q p _ hp (same_upd hp) upd_same⟩
theorem sz0 : ([] : List V).length ≤ sizeLine := Nat.zero_le _
theorem sz1 {a : V} : [a].length ≤ sizeLine := by show 1 ≤ sizeLine; decide
theorem sz2 {a b : V} : [a, b].length ≤ sizeLine := by show 2 ≤ sizeLine; decide
theorem sz3 {a b c : V} : [a, b, c].length ≤ sizeLine := by show 3 ≤ sizeLine; decide
theorem sz4 {a b c d : V} : [a, b, c, d].length ≤ sizeLine := by show 4 ≤ sizeLine; decide
theorem szN {n : Nat} (h : n ≤ 10000) : n ≤ sizeLine := Nat.le_trans h (by decide)
theorem isiT_ {p : Addr} {xs : List V} (h : SqT K H p xs) (q : Q (.bl true) H) : rIsi K [.ref p, .ty "tuple"] H Q := by
  rcases h with (h | ⟨o, h⟩) | ⟨o, its, n, h, c, _⟩
  · exact ⟨_, _, _, _, true, rfl, .ty _, .base (.tup h), kit_ty (by decide +kernel), q⟩
  · exact ⟨_, _, _, _, true, rfl, .ty _, .fTuple h, kit_ty (by decide +kernel), q⟩
  · exact ⟨_, _, _, _, true, rfl, .ty _, .kTuple h c, kit_ty (by decide +kernel), q⟩
theorem isiII_ {i : Int} (q : Q (.bl true) H) : rIsi K [.int i, .ty "int"] H Q := ⟨_, _, _, _, true, rfl, .ty _, .base (.int _), kit_ty (by decide +kernel), q⟩
theorem isiIB_ {i : Int} (q : Q (.bl false) H) : rIsi K [.int i, .ty "bool"] H Q := ⟨_, _, _, _, false, rfl, .ty _, .base (.int _), kit_ty (by decide +kernel), q⟩
theorem isiBB_ {b : Bool} (q : Q (.bl true) H) : rIsi K [.bl b, .ty "bool"] H Q := ⟨_, _, _, _, true, rfl, .ty _, .base (.bl _), kit_ty (by decide +kernel), q⟩
theorem isiSS_ {z : Str} (q : Q (.bl true) H) : rIsi K [.str z, .ty "str"] H Q := ⟨_, _, _, _, true, rfl, .ty _, .base (.str _), kit_ty (by decide +kernel), q⟩
theorem gcd_ {a b : Int} (q : Q (.int ((Nat.gcd a.natAbs b.natAbs : Nat) : Int)) H) : rGcd [.int a, .int b] H Q := ⟨a, b, rfl, q⟩
end
def rLenX (K : PySem.W.Frag) : List V → Hp → VK → Prop := fun xs H Q => ∃ p ys, xs = [V.ref p] ∧ (SqL K H p ys ∨ SqT K H p ys) ∧ Q (.int ys.length) H
def rAbsX : List V → Hp → VK → Prop := fun xs H Q => ∃ i, xs = [V.int i] ∧ Q (.int (if i < 0 then -i else i)) H
def rIntX : List V → Hp → VK → Prop := fun xs H Q => (∃ i, xs = [V.int i] ∧ Q (.int i) H) ∨ ∃ k, xs = [V.bl k] ∧ Q (.int (if k then 1 else 0)) H
def rMaxX : List V → Hp → VK → Prop := fun xs H Q => ∃ i j, xs = [V.int i, .int j] ∧ Q (.int (if j > i then j else i)) H
def rMinX : List V → Hp → VK → Prop := fun xs H Q => ∃ i j, xs = [V.int i, .int j] ∧ Q (.int (if j < i then j else i)) H
def rListX (K : PySem.W.Frag) : List V → Hp → VK → Prop := fun xs H Q => ∃ p ys, xs = [V.ref p] ∧ (SqL K H p ys ∨ SqT K H p ys) ∧ ∀ l, H l = none → Q (.ref l) (upd H l (.lst ys))
def rTupX (K : PySem.W.Frag) : List V → Hp → VK → Prop := fun xs H Q => ∃ p ys, xs = [V.ref p] ∧ ((SqL K H p ys ∧ ∀ l, H l = none → Q (.ref l) (upd H l (.tup ys))) ∨ (SqT K H p ys ∧ Q (.ref p) H))
theorem cr_len {X : Cx} : CallR X (.builtin "len") (rLenX X.K) := call_len_seq
theorem cr_abs {X : Cx} : CallR X (.builtin "abs") rAbsX := call_abs
theorem cr_int {X : Cx} : CallR X (.type "int") rIntX := call_int1
theorem cr_max2 {X : Cx} (hc : X.calm = true) : CallR X (.builtin "max") rMaxX := call_max2 hc
theorem cr_min2 {X : Cx} (hc : X.calm = true) : CallR X (.builtin "min") rMinX := call_min2 hc
theorem cr_list {X : Cx} : CallR X (.type "list") (rListX X.K) := call_list_of
theorem cr_tup {X : Cx} : CallR X (.type "tuple") (rTupX X.K) := call_tuple_of
section
variable {σ r : L2.St} {H H' : Hp} {Q : VK} {K : PySem.W.Frag}
theorem lenT_ {p : Addr} {xs : List V} (h : SqT K H p xs) (q : Q (.int xs.length) H) : rLenX K [.ref p] H Q := ⟨p, xs, rfl, .inr h, q⟩
theorem lenL_ {p : Addr} {xs : List V} (h : SqL K H p xs) (q : Q (.int xs.length) H) : rLenX K [.ref p] H Q := ⟨p, xs, rfl, .inl h, q⟩
theorem abs_ {i : Int} (q : Q (.int (i.natAbs : Int)) H) : rAbsX [.int i] H Q := by
  refine ⟨i, rfl, ?_⟩
  have e : (if i < 0 then -i else i) = (i.natAbs : Int) := by split <;> omega
  rw [e]
  exact q
theorem intI_ {i : Int} (q : Q (.int i) H) : rIntX [.int i] H Q := .inl ⟨i, rfl, q⟩
theorem intB_ {b : Bool} (q : Q (.int (if b then 1 else 0)) H) : rIntX [.bl b] H Q := .inr ⟨b, rfl, q⟩
theorem max_ {i j : Int} (q : Q (.int (if j > i then j else i)) H) : rMaxX [.int i, .int j] H Q := ⟨i, j, rfl, q⟩
theorem min_ {i j : Int} (q : Q (.int (if j < i then j else i)) H) : rMinX [.int i, .int j] H Q := ⟨i, j, rfl, q⟩
theorem listL_ {p : Addr} {xs : List V} (h : SqL K H p xs) (q : ∀ l H', H l = none → (∀ b o, H b = some o → H' b = some o) → H' l = some (.lst xs) → Q (.ref l) H') : rListX K [.ref p] H Q := ⟨p, xs, rfl, .inl h, fun l hl => q l _ hl (fun b x e => by rw [upd_ne (ne_of_none e hl)]; exact e) upd_same⟩
theorem tupL_ {p : Addr} {xs : List V} (h : SqL K H p xs) (q : ∀ l H', H l = none → (∀ b o, H b = some o → H' b = some o) → H' l = some (.tup xs) → Q (.ref l) H') : rTupX K [.ref p] H Q := ⟨p, xs, rfl, .inl ⟨h, fun l hl => q l _ hl (fun b x e => by rw [upd_ne (ne_of_none e hl)]; exact e) upd_same⟩⟩
/-- a rest, by its bounds alone -/
theorem nmodG {i j : Int} (c : 0 < j) (q : ∀ r, 0 ≤ r → r < j → Q (.int r) H) : rI (fun _ j => 0 < j) (fun i j => .int (i % j)) (.int i) (.int j) H Q := ⟨i, j, rfl, rfl, c, q _ (Int.emod_nonneg _ (by omega)) (Int.emod_lt_of_pos _ c)⟩
theorem ndivG {i j : Int} (c : CDivW i j) (q : ∀ r, Q (.int r) H) : rI CDivW (fun i j => .int (i / j)) (.int i) (.int j) H Q := ⟨i, j, rfl, rfl, c, q _⟩
theorem nmulR {i j : Int} (c : -(2 ^ 64) < j ∧ j < 2 ^ 64) (q : Q (.int (i * j)) H) : rI CMul (fun i j => .int (i * j)) (.int i) (.int j) H Q := ⟨i, j, rfl, rfl, .inr c, q⟩
theorem nmulL {i j : Int} (c : -(2 ^ 64) < i ∧ i < 2 ^ 64) (q : Q (.int (i * j)) H) : rI CMul (fun i j => .int (i * j)) (.int i) (.int j) H Q := ⟨i, j, rfl, rfl, .inl c, q⟩
/-! ### what stays -/
theorem Same.sqT {H H' : Hp} {a : Addr} {xs : List V} (e : Same H H') (h : SqT K H a xs) : SqT K H' a xs := by
  rcases h with (h | ⟨o, h⟩) | h
  · exact .inl (.inl (e _ _ h))
  · exact .inl (.inr ⟨o, e _ _ h⟩)
  · exact .inr h
theorem lit0 {H : Hp} {a : Addr} (h : SqT K H a [.int 0, .int 1]) : SqT K H a (fr 0) := h
theorem lit1 {H : Hp} {a : Addr} (h : SqT K H a [.int 1, .int 1]) : SqT K H a (fr 1) := h
theorem lit2 {H : Hp} {a : Addr} (h : SqT K H a [.int 2, .int 1]) : SqT K H a (fr 2) := h
theorem lit3 {H : Hp} {a : Addr} (h : SqT K H a [.int 3, .int 1]) : SqT K H a (fr 3) := h
theorem SqT.tr {H : Hp} {a : Addr} {xs : List V} (h : H a = some (.tup xs)) : SqT K H a xs := .inl (.inl h)
theorem SqL.tr {H : Hp} {a : Addr} {xs : List V} (h : H a = some (.lst xs)) : SqL K H a xs := .inl (.inl h)
end
theorem wTt {A B : Prop} (h : A) : if true = true then A else B := wT rfl h
theorem wFf {A B : Prop} (h : B) : if false = true then A else B := wF rfl h
theorem wNt {A B : Prop} (h : B) : if (!true) = true then A else B := wF rfl h
theorem wNf {A B : Prop} (h : A) : if (!false) = true then A else B := wT rfl h
theorem wDt {A B P : Prop} {_ : Decidable P} (p : P) (h : A) : if decide P = true then A else B := wT (decide_eq_true p) h
theorem wDf {A B P : Prop} {_ : Decidable P} (p : ¬ P) (h : B) : if decide P = true then A else B := wF (decide_eq_false p) h
theorem wNDt {A B P : Prop} {_ : Decidable P} (p : P) (h : B) : if (!decide P) = true then A else B := wF (by rw [decide_eq_true p] <;> rfl) h
theorem wNDf {A B P : Prop} {_ : Decidable P} (p : ¬ P) (h : A) : if (!decide P) = true then A else B := wT (by rw [decide_eq_false p] <;> rfl) h
theorem gtup2_ {K : PySem.W.Frag} {a : Addr} {xs : List V} {x y : V} {n : Nat} {σ : L2.St} {H : Hp} {P : L2.St → Hp → Prop} {ga gb : TG} (h : SqT K H a xs) (e : xs = [x, y]) (hn : n = 2) (q : ga x σ H fun σ' H' => gb y σ' H' P) : gTup K n (gCons ga (gCons gb gNil)) (.ref a) σ H P := by
  subst e hn
  refine ⟨a, _, rfl, h, rfl, x, [y], rfl, ?_⟩
  have e : (fun σ' H' => gCons gb gNil [y] σ' H' P) = fun σ' H' => gb y σ' H' P := by
    funext σ' H'
    refine propext ⟨fun ⟨v, r, e, q⟩ => ?_, fun q => ⟨y, [], rfl, ?_⟩⟩
    · injection e with e1 e2
      subst e1 e2
      have z : (fun σ' H' => gNil [] σ' H' P) = P := by
        funext σ' H'
        exact propext ⟨fun ⟨_, q⟩ => q, fun q => ⟨rfl, q⟩⟩
      rw [z] at q
      exact q
    · have z : (fun σ' H' => gNil [] σ' H' P) = P := by
        funext σ' H'
        exact propext ⟨fun ⟨_, q⟩ => q, fun q => ⟨rfl, q⟩⟩
      rw [z]
      exact q
  rw [e]
  exact q
end FC

namespace FC
open PySem L2
/-! ### a def of the text that keeps its promise -/
structure Good (P : Program) (w : World) (K : PySem.W.Frag) (mg : Str → Option Value) (base : Heap) (x : Str) (k : Nat) (ps : List Str) (sp : Sp) : Prop where
  g : mg x = some (.ref (He.ga K x))
  kp : PySem.W.keepIn K (.ref (He.ga K x)) = true
  fn : ∃ fd, Binds K fd ps [] ∧ FnOk P w K mg base CX0 k (He.ga K x) fd ps sp
theorem pe_good {X : Cx} {x : Str} {k : Nat} {ps : List Str} {sp : Sp} {e : Expr} {es : List Expr} {t : TA} {p pos : Pos} (G : Good X.prog X.w X.K X.mg X.base x k ps sp) (hr : Room k X.A) (ha : PA X (e :: es) t) (hg : Gl X x := by rfl) (hdb : (x == ("__debug__" : Str)) = false := by decide)
    (he : starEach (e :: es) X.env = (false, eval e X.env) :: starEach es X.env := by rfl) (hpl : (backTo pos (starEach es X.env)).any (·.1) = false := by rfl) : PE X (.Call (.Name x p) (e :: es) [] pos) (tCall sp [] E0 t) := by
  obtain ⟨fd, hb, F⟩ := G.fn
  exact pe_call F hr hg G.g G.kp hb .nil pass0 ha hdb he hpl
/-- what a def is in the written part -/
def DefOk (K : PySem.W.Frag) (mg : Str → Option Value) (d : He.DefD) : Prop := mg d.name = some (.ref (He.ga K d.name)) ∧ ∃ fd, FunD K d.name d.qual d.params d.body d.scope (d.dvs K) (d.kws K) (He.ga K d.name) fd
/-! ### the source of draws: a list of three ints; what a draw leaves as it is -/
def Src (H : Hp) (a : Addr) : Prop := ∃ i j k : Int, H a = some (.lst [.int i, .int j, .int k])
def Frm (a : Addr) (H H' : Hp) : Prop := ∀ b o, b ≠ a → H b = some o → H' b = some o
theorem Frm.refl (a : Addr) (H : Hp) : Frm a H H := fun _ _ _ h => h
theorem Frm.trans {a : Addr} {H H1 H2 : Hp} (x : Frm a H H1) (y : Frm a H1 H2) : Frm a H H2 := fun b o n h => y b o n (x b o n h)
theorem Frm.of {a : Addr} {H H1 : Hp} (x : Same H H1) : Frm a H H1 := fun b o _ h => x b o h
theorem Same.src {a : Addr} {H H1 : Hp} (x : Same H H1) (s : Src H a) : Src H1 a := by
  obtain ⟨i, j, k, h⟩ := s
  exact ⟨i, j, k, x _ _ h⟩
theorem Frm.sqT {K : PySem.W.Frag} {a b : Addr} {H H1 : Hp} {xs : List V} (f : Frm a H H1) (s : Src H a) (h : SqT K H b xs) : SqT K H1 b xs := by
  obtain ⟨i, j, k, hs⟩ := s
  rcases h with (h | ⟨o, h⟩) | h
  · exact .inl (.inl (f _ _ (ne_of h hs (by intro z; cases z)) h))
  · exact .inl (.inr ⟨o, f _ _ (ne_of h hs (by intro z; cases z)) h⟩)
  · exact .inr h
theorem Frm.sqL {K : PySem.W.Frag} {a b : Addr} {H H1 : Hp} {xs : List V} (f : Frm a H H1) (n : b ≠ a) (h : SqL K H b xs) : SqL K H1 b xs := by
  rcases h with (h | ⟨o, h⟩) | h
  · exact .inl (.inl (f _ _ n h))
  · exact .inl (.inr ⟨o, f _ _ n h⟩)
  · exact .inr h
theorem Src.ne {a b : Addr} {H : Hp} (s : Src H a) (h : H b = none) : b ≠ a := by
  obtain ⟨i, j, k, hs⟩ := s
  exact (ne_of_none hs h).symm
theorem upd_src {a : Addr} {H : Hp} {i j k : Int} : Src (upd H a (.lst [.int i, .int j, .int k])) a := ⟨i, j, k, upd_same⟩
theorem upd_frm {a : Addr} {H : Hp} {o : HO} : Frm a H (upd H a o) := fun b x n h => by
  rw [upd_ne n]
  exact h
/-! ### sizes that fit one step of reckoning -/
def Pr (p q : Rat) : Prop := ∃ n m, Bd n p ∧ Bd m q ∧ n + m ≤ 8990
theorem Pr.of {p q : Rat} (h1 : Sm p) (h2 : Sm q) : Pr p q := ⟨4000, 4000, h1, h2, by decide⟩
theorem Pr.bd {n m : Nat} {p q : Rat} (h1 : Bd n p) (h2 : Bd m q) (h : n + m ≤ 8990) : Pr p q := ⟨n, m, h1, h2, h⟩
/-! ### promises of the common defs -/
section
variable (K : PySem.W.Frag)
/-- two small fractions to a new one -/
def spBin (op : Rat → Rat → Rat) : Sp := fun vs H Q _ => ∃ (a b : Addr) (p q : Rat), vs = [.ref a, .ref b] ∧ SqT K H a (fr p) ∧ SqT K H b (fr q) ∧ Pr p q ∧ ∀ c H', Same H H' → SqT K H' c (fr (op p q)) → Q (.ref c) H'
def spOver : Sp := fun vs H Q _ => ∃ (a b : Addr) (p q : Rat), vs = [.ref a, .ref b] ∧ SqT K H a (fr p) ∧ SqT K H b (fr q) ∧ Pr p q ∧ 0 < q ∧ ∀ c H', Same H H' → SqT K H' c (fr (p / q)) → Q (.ref c) H'
def spLess : Sp := fun vs H Q _ => ∃ (a b : Addr) (p q : Rat), vs = [.ref a, .ref b] ∧ SqT K H a (fr p) ∧ SqT K H b (fr q) ∧ Pr p q ∧ Q (.bl (decide (p < q))) H
def spRatio : Sp := fun vs H Q _ => ∃ (i j : Int), vs = [.int i, .int j] ∧ 0 < j ∧ j.natAbs < 2 ^ 9000 ∧ ∀ c H', Same H H' → SqT K H' c (fr (Rat.divInt i j)) → Q (.ref c) H'
def spWhole : Sp := fun vs H Q _ => ∃ i : Int, vs = [.int i] ∧ Q (.bl true) H
def spIsRatio : Sp := fun vs H Q _ => ∃ (a : Addr) (q : Rat), vs = [.ref a] ∧ SqT K H a (fr q) ∧ Q (.bl true) H
/-! the law's own -/
def spCell : Sp := fun vs H Q _ => ∃ (a : Addr) (ns : List Int) (k : Int), vs = [.ref a, .int k] ∧ SqL K H a (ns.map V.int) ∧ 0 ≤ k ∧ ∀ i : Int, Q (.int i) H
def spMixed : Sp := fun vs H Q _ => ∃ (c k : Int), vs = [.int c, .int k] ∧ ∀ i : Int, Q (.int i) H
def spSource : Sp := fun vs H Q _ => ∃ (a : Addr) (ns : List Int) (k : Int), vs = [.ref a, .int k] ∧ SqL K H a (ns.map V.int) ∧ 0 ≤ k ∧ ∀ p H', H p = none → Same H H' → Src H' p → Q (.ref p) H'
def spNext : Sp := fun vs H Q _ => ∃ (a : Addr) (n : Int), vs = [.ref a, .int n] ∧ Src H a ∧ 0 < n ∧ n < 2 ^ 64 ∧ ∀ r H', 0 ≤ r → r < n → Src H' a → Frm a H H' → Q (.int r) H'
def spOne : Sp := fun vs H Q _ => ∃ (a t : Addr) (xs : List V), vs = [.ref a, .ref t] ∧ Src H a ∧ ((SqL K H t xs ∧ t ≠ a) ∨ SqT K H t xs) ∧ 0 < xs.length ∧ xs.length < 10000 ∧ ∀ v H', v ∈ xs → Src H' a → Frm a H H' → Q v H'
def spDivisor : Sp := fun vs H Q _ => ∃ (a b : Nat), vs = [.int a, .int b] ∧ Q (.int (Nat.gcd a b : Nat)) H
def spPart : Sp := fun vs H Q _ => ∃ (a : Addr), vs = [.ref a] ∧ Src H a ∧ ∀ p q H', SqT K H' p (fr q) → Bd 31 q → 0 ≤ q → Src H' a → Frm a H H' → Q (.ref p) H'
def spAnyPart : Sp := fun vs H Q _ => ∃ (a : Addr), vs = [.ref a] ∧ Src H a ∧ ∀ p q H', SqT K H' p (fr q) → Bd 31 q → Src H' a → Frm a H H' → Q (.ref p) H'
end
theorem CMulW.of {i j : Int} {a b : Nat} (ha : i.natAbs < 2 ^ a) (hb : j.natAbs < 2 ^ b) (h : a + b ≤ 900000) : CMulW i j := by
  refine wide_mul (a := a + 1) (b := b + 1) (pow_up ha (Nat.le_succ _)) (pow_up hb (Nat.le_succ _)) (Nat.succ_pos _) (Nat.succ_pos _) (by omega)
theorem Sm.nn {p q : Rat} (h1 : Sm p) (h2 : Sm q) : CMulW p.num q.num := CMulW.of h1.1 h2.1 (by decide)
theorem Sm.nd {p q : Rat} (h1 : Sm p) (h2 : Sm q) : CMulW p.num (q.den : Int) := CMulW.of h1.1 (by rw [Int.natAbs_natCast]; exact h2.2) (by decide)
theorem Sm.dn {p q : Rat} (h1 : Sm p) (h2 : Sm q) : CMulW (p.den : Int) q.num := CMulW.of (by rw [Int.natAbs_natCast]; exact h1.2) h2.1 (by decide)
theorem Sm.dd {p q : Rat} (h1 : Sm p) (h2 : Sm q) : CMulW (p.den : Int) (q.den : Int) := CMulW.of (by rw [Int.natAbs_natCast]; exact h1.2) (by rw [Int.natAbs_natCast]; exact h2.2) (by decide)
theorem Pr.nn {p q : Rat} (h : Pr p q) : CMulW p.num q.num := by
  obtain ⟨n, m, h1, h2, l⟩ := h
  exact CMulW.of h1.1 h2.1 (by omega)
theorem Pr.nd {p q : Rat} (h : Pr p q) : CMulW p.num (q.den : Int) := by
  obtain ⟨n, m, h1, h2, l⟩ := h
  exact CMulW.of h1.1 (by rw [Int.natAbs_natCast]; exact h2.2) (by omega)
theorem Pr.dn {p q : Rat} (h : Pr p q) : CMulW (p.den : Int) q.num := by
  obtain ⟨n, m, h1, h2, l⟩ := h
  exact CMulW.of (by rw [Int.natAbs_natCast]; exact h1.2) h2.1 (by omega)
theorem Pr.dd {p q : Rat} (h : Pr p q) : CMulW (p.den : Int) (q.den : Int) := by
  obtain ⟨n, m, h1, h2, l⟩ := h
  exact CMulW.of (by rw [Int.natAbs_natCast]; exact h1.2) (by rw [Int.natAbs_natCast]; exact h2.2) (by omega)
theorem Pr.ddn {p q : Rat} (h : Pr p q) : ((p.den : Int) * (q.den : Int)).natAbs < 2 ^ 9000 := by
  obtain ⟨n, m, h1, h2, l⟩ := h
  exact pow_up (nmul (by rw [Int.natAbs_natCast]; exact h1.2) (by rw [Int.natAbs_natCast]; exact h2.2)) (by omega)
theorem Pr.dnn {p q : Rat} (h : Pr p q) : ((p.den : Int) * q.num).natAbs < 2 ^ 9000 := by
  obtain ⟨n, m, h1, h2, l⟩ := h
  exact pow_up (nmul (by rw [Int.natAbs_natCast]; exact h1.2) h2.1) (by omega)
theorem Pr.symm {p q : Rat} (h : Pr p q) : Pr q p := by
  obtain ⟨n, m, h1, h2, l⟩ := h
  exact ⟨m, n, h2, h1, by omega⟩
theorem dd_pos (p q : Rat) : (0 : Int) < (p.den : Int) * (q.den : Int) := Int.mul_pos (by exact_mod_cast den_pos p) (by exact_mod_cast den_pos q)
theorem Sm.ddn {p q : Rat} (h1 : Sm p) (h2 : Sm q) : ((p.den : Int) * (q.den : Int)).natAbs < 2 ^ 9000 :=
  pow_up (nmul (a := 4000) (b := 4000) (by rw [Int.natAbs_natCast]; exact h1.2) (by rw [Int.natAbs_natCast]; exact h2.2)) (by decide)
theorem Sm.dnn {p q : Rat} (h1 : Sm p) (h2 : Sm q) : ((p.den : Int) * q.num).natAbs < 2 ^ 9000 :=
  pow_up (nmul (a := 4000) (b := 4000) (by rw [Int.natAbs_natCast]; exact h1.2) h2.1) (by decide)
theorem dn_pos {q : Rat} (p : Rat) (h : 0 < q) : (0 : Int) < (p.den : Int) * q.num := Int.mul_pos (by exact_mod_cast den_pos p) (by
  have h0 : (0 : Rat) ≤ q := Rat.le_of_lt h
  have h1 : 0 ≤ q.num := Rat.num_nonneg.mpr h0
  have h2 : q.num ≠ 0 := fun z => Rat.ne_of_gt h (Rat.num_eq_zero.mp z)
  omega)
theorem gcd_pos_of {a b : Int} (hb : 0 < b) : (0 : Int) < ((Nat.gcd a.natAbs b.natAbs : Nat) : Int) := by
  have : 0 < Nat.gcd a.natAbs b.natAbs := Nat.gcd_pos_of_pos_right _ (by omega)
  exact_mod_cast this
theorem gcd_small {a b : Int} (hb : 0 < b) (h : b.natAbs < 2 ^ 9000) : CDivW i ((Nat.gcd a.natAbs b.natAbs : Nat) : Int) := by
  refine wide_div (b := 9000) (gcd_pos_of hb) ?_ (by decide) (by decide)
  rw [Int.natAbs_natCast]
  exact Nat.lt_of_le_of_lt (Nat.gcd_le_right _ (by omega)) h
section
variable {K : PySem.W.Frag} {H : Hp} {Q : VK} {E : XK} {a b : Addr} {p q : Rat}
abbrev spPlus (K : PySem.W.Frag) : Sp := spBin K fun p q => p + q
abbrev spMinus (K : PySem.W.Frag) : Sp := spBin K fun p q => p - q
abbrev spTimes (K : PySem.W.Frag) : Sp := spBin K fun p q => p * q
theorem plus_ (h1 : SqT K H a (fr p)) (h2 : SqT K H b (fr q)) (h3 : Sm p) (h4 : Sm q) (k : ∀ c H', Same H H' → SqT K H' c (fr (p + q)) → Q (.ref c) H') : spBin K (fun p q => p + q) [.ref a, .ref b] H Q E := ⟨a, b, p, q, rfl, h1, h2, Pr.of h3 h4, k⟩
theorem minus_ (h1 : SqT K H a (fr p)) (h2 : SqT K H b (fr q)) (h3 : Sm p) (h4 : Sm q) (k : ∀ c H', Same H H' → SqT K H' c (fr (p - q)) → Q (.ref c) H') : spBin K (fun p q => p - q) [.ref a, .ref b] H Q E := ⟨a, b, p, q, rfl, h1, h2, Pr.of h3 h4, k⟩
theorem times_ (h1 : SqT K H a (fr p)) (h2 : SqT K H b (fr q)) (h3 : Sm p) (h4 : Sm q) (k : ∀ c H', Same H H' → SqT K H' c (fr (p * q)) → Q (.ref c) H') : spBin K (fun p q => p * q) [.ref a, .ref b] H Q E := ⟨a, b, p, q, rfl, h1, h2, Pr.of h3 h4, k⟩
theorem over_ (h1 : SqT K H a (fr p)) (h2 : SqT K H b (fr q)) (h3 : Sm p) (h4 : Sm q) (h5 : 0 < q) (k : ∀ c H', Same H H' → SqT K H' c (fr (p / q)) → Q (.ref c) H') : spOver K [.ref a, .ref b] H Q E := ⟨a, b, p, q, rfl, h1, h2, Pr.of h3 h4, h5, k⟩
theorem less_ (h1 : SqT K H a (fr p)) (h2 : SqT K H b (fr q)) (h3 : Sm p) (h4 : Sm q) (k : Q (.bl (decide (p < q))) H) : spLess K [.ref a, .ref b] H Q E := ⟨a, b, p, q, rfl, h1, h2, Pr.of h3 h4, k⟩
theorem plusP_ (h1 : SqT K H a (fr p)) (h2 : SqT K H b (fr q)) (h3 : Pr p q) (k : ∀ c H', Same H H' → SqT K H' c (fr (p + q)) → Q (.ref c) H') : spBin K (fun p q => p + q) [.ref a, .ref b] H Q E := ⟨a, b, p, q, rfl, h1, h2, h3, k⟩
theorem minusP_ (h1 : SqT K H a (fr p)) (h2 : SqT K H b (fr q)) (h3 : Pr p q) (k : ∀ c H', Same H H' → SqT K H' c (fr (p - q)) → Q (.ref c) H') : spBin K (fun p q => p - q) [.ref a, .ref b] H Q E := ⟨a, b, p, q, rfl, h1, h2, h3, k⟩
theorem timesP_ (h1 : SqT K H a (fr p)) (h2 : SqT K H b (fr q)) (h3 : Pr p q) (k : ∀ c H', Same H H' → SqT K H' c (fr (p * q)) → Q (.ref c) H') : spBin K (fun p q => p * q) [.ref a, .ref b] H Q E := ⟨a, b, p, q, rfl, h1, h2, h3, k⟩
theorem overP_ (h1 : SqT K H a (fr p)) (h2 : SqT K H b (fr q)) (h3 : Pr p q) (h5 : 0 < q) (k : ∀ c H', Same H H' → SqT K H' c (fr (p / q)) → Q (.ref c) H') : spOver K [.ref a, .ref b] H Q E := ⟨a, b, p, q, rfl, h1, h2, h3, h5, k⟩
theorem lessP_ (h1 : SqT K H a (fr p)) (h2 : SqT K H b (fr q)) (h3 : Pr p q) (k : Q (.bl (decide (p < q))) H) : spLess K [.ref a, .ref b] H Q E := ⟨a, b, p, q, rfl, h1, h2, h3, k⟩
theorem ratio_ {i j : Int} (h : 0 < j) (h2 : j.natAbs < 2 ^ 9000) (k : ∀ c H', Same H H' → SqT K H' c (fr (Rat.divInt i j)) → Q (.ref c) H') : spRatio K [.int i, .int j] H Q E := ⟨i, j, rfl, h, h2, k⟩
theorem whole_ {i : Int} (k : Q (.bl true) H) : spWhole [.int i] H Q E := ⟨i, rfl, k⟩
theorem isra_ (h1 : SqT K H a (fr q)) (k : Q (.bl true) H) : spIsRatio K [.ref a] H Q E := ⟨a, q, rfl, h1, k⟩
theorem mixed_ {c k : Int} (q : ∀ i : Int, Q (.int i) H) : spMixed [.int c, .int k] H Q E := ⟨c, k, rfl, q⟩
theorem next_ {n : Int} (s : Src H a) (h : 0 < n) (h2 : n < 2 ^ 64) (k : ∀ r H', 0 ≤ r → r < n → Src H' a → Frm a H H' → Q (.int r) H') : spNext [.ref a, .int n] H Q E := ⟨a, n, rfl, s, h, h2, k⟩
theorem part_ (s : Src H a) (k : ∀ p q H', SqT K H' p (fr q) → Bd 31 q → 0 ≤ q → Src H' a → Frm a H H' → Q (.ref p) H') : spPart K [.ref a] H Q E := ⟨a, rfl, s, k⟩
theorem anyp_ (s : Src H a) (k : ∀ p q H', SqT K H' p (fr q) → Bd 31 q → Src H' a → Frm a H H' → Q (.ref p) H') : spAnyPart K [.ref a] H Q E := ⟨a, rfl, s, k⟩
end
theorem bt_int : bootBuiltins "int" = some (.type "int") := by decide +kernel
theorem bt_bool : bootBuiltins "bool" = some (.type "bool") := by decide +kernel
theorem bt_str : bootBuiltins "str" = some (.type "str") := by decide +kernel
theorem bt_tuple : bootBuiltins "tuple" = some (.type "tuple") := by decide +kernel
theorem bt_list : bootBuiltins "list" = some (.type "list") := by decide +kernel
theorem bt_isinstance : bootBuiltins "isinstance" = some (.builtin "isinstance") := by decide +kernel
theorem bt_abs : bootBuiltins "abs" = some (.builtin "abs") := by decide +kernel
theorem bt_max : bootBuiltins "max" = some (.builtin "max") := by decide +kernel
theorem bt_min : bootBuiltins "min" = some (.builtin "min") := by decide +kernel
theorem bt_len : bootBuiltins "len" = some (.builtin "len") := by decide +kernel
theorem bt_repr : bootBuiltins "repr" = some (.builtin "repr") := by decide +kernel
theorem bt_sorted : bootBuiltins "sorted" = some (.builtin "sorted") := by decide +kernel
theorem bt_all : bootBuiltins "all" = some (.builtin "all") := by decide +kernel
theorem bt_any : bootBuiltins "any" = some (.builtin "any") := by decide +kernel
theorem set0_ {a : Addr} {H : Hp} {i j k z : Int} {P : Hp → Prop} (h : H a = some (.lst [.int i, .int j, .int k])) (q : P (upd H a (.lst [.int z, .int j, .int k]))) : rSetL (.ref a) (.int 0) (.int z) H P := ⟨a, _, 0, 0, rfl, rfl, h, rfl, q⟩
theorem set2_ {a : Addr} {H : Hp} {i j k z : Int} {P : Hp → Prop} (h : H a = some (.lst [.int i, .int j, .int k])) (q : P (upd H a (.lst [.int i, .int j, .int z]))) : rSetL (.ref a) (.int 2) (.int z) H P := ⟨a, _, 2, 2, rfl, rfl, h, rfl, q⟩
theorem fr_int (i : Int) : fr (i : Rat) = [.int i, .int 1] := rfl
theorem fr_neg (q : Rat) : fr (-q) = [.int (-q.num), .int (q.den : Int)] := rfl
theorem Bd.int {n : Nat} {i : Int} (h : i.natAbs < 2 ^ n) (h1 : 0 < n) : Bd n (i : Rat) := ⟨h, by
  rw [Rat.den_intCast]
  exact Nat.one_lt_two_pow (by omega)⟩
theorem Bd.div {n : Nat} {i j : Int} (hj : 0 < j) (h : i.natAbs < 2 ^ n) (h2 : j.natAbs < 2 ^ n) : Bd n (Rat.divInt i j) := by
  obtain ⟨m, rfl⟩ := Int.eq_ofNat_of_zero_le (Int.le_of_lt hj)
  rw [Rat.divInt_ofNat]
  exact Bd.mk (by omega) h (by rw [Int.natAbs_natCast] at h2; exact h2)

end FC

namespace FC
open PySem L2
/-! ### value_at: called with two values, with three, with before = .. -/
abbrev psV : List Str := ["curve", "x", "before"]
theorem kbinds1 {K : PySem.W.Frag} {x qual : Str} {params : Arguments} {body : List Stmt} {scope : Scope} {dvs : List V} {kws : List (Str × V)} {f : Addr} {fd : FuncData} {ps : List Str} (F : FunD K x qual params body scope dvs kws f fd) (n : Nat) (ks : List Str) (hd : dvs ≠ [])
    (h : ∀ (T : Addr) (kV doc pm : Value) (an : Option Addr) (cdv ct : Value) (us its ws : List Value), us.length = n → its.length = dvs.length → ws.length = ks.length →
      ∃ k, bindArgs (PySem.W.fnOf x qual params body scope (.ref T) kV doc pm an cdv ct) ⟨us, ks.zip ws⟩ = seqItems? (.ref T) >>= k ∧ k (some its.toArray) = pure (ps.zip (us ++ ws))) :
    KBn K fd ps n ks (fun us ws => us ++ ws) (fun vs zs => vs ++ zs) := by
  obtain ⟨oc, od, dV, kV, doc, pm, an, cdv, ct, osl, rfl, lk, hcd, hD, hK⟩ := F.ex
  rcases hD with ⟨e, _⟩ | ⟨_, T, o, its, m, rfl, lT, oT, rT⟩
  · exact absurd e hd
  · refine ⟨fun s us ws X l1 l2 => ?_, fun r1 r2 => r1.append r2⟩
    obtain ⟨k, e1, e2⟩ := h T kV doc pm an cdv ct us its ws l1 rT.length.symm l2
    refine BindsTo.of_looks fun M => ?_
    rw [e1]
    exact looks_items X lT oT (.of_pure e2)
/-- three values, told in the reverse order -/
def rev3 {α : Type} : List α → List α
  | [b, x, c] => [c, x, b]
  | l => l
theorem rev3_rel : ∀ {zs : List V} {ws : List Value}, Vals zs ws → Vals (rev3 zs) (rev3 ws)
  | [], [], h => h
  | [_], [_], h => h
  | [_, _], [_, _], h => h
  | [_, _, _], [_, _, _], .cons a (.cons b (.cons c .nil)) => .cons c (.cons b (.cons a .nil))
  | _ :: _ :: _ :: _ :: _, _ :: _ :: _ :: _ :: _, h => h
theorem kbindsR {K : PySem.W.Frag} {x qual : Str} {params : Arguments} {body : List Stmt} {scope : Scope} {dvs : List V} {kws : List (Str × V)} {f : Addr} {fd : FuncData} {ps : List Str} (F : FunD K x qual params body scope dvs kws f fd) (ks : List Str) (hd : dvs ≠ [])
    (h : ∀ (T : Addr) (kV doc pm : Value) (an : Option Addr) (cdv ct : Value) (us its ws : List Value), us.length = 0 → its.length = dvs.length → ws.length = ks.length →
      ∃ k, bindArgs (PySem.W.fnOf x qual params body scope (.ref T) kV doc pm an cdv ct) ⟨us, ks.zip ws⟩ = seqItems? (.ref T) >>= k ∧ k (some its.toArray) = pure (ps.zip (rev3 ws))) :
    KBn K fd ps 0 ks (fun _ ws => rev3 ws) (fun _ zs => rev3 zs) := by
  obtain ⟨oc, od, dV, kV, doc, pm, an, cdv, ct, osl, rfl, lk, hcd, hD, hK⟩ := F.ex
  rcases hD with ⟨e, _⟩ | ⟨_, T, o, its, m, rfl, lT, oT, rT⟩
  · exact absurd e hd
  · refine ⟨fun s us ws X l1 l2 => ?_, fun _ r2 => rev3_rel r2⟩
    obtain ⟨k, e1, e2⟩ := h T kV doc pm an cdv ct us its ws l1 rT.length.symm l2
    refine BindsTo.of_looks fun M => ?_
    rw [e1]
    exact looks_items X lT oT (.of_pure e2)
def tKw0 (m : Nat) (sp : Sp) (gV : List V → List V → List V) (E : XK) (tk : TA) : TE := fun σ H Q => tk σ H fun zs H2 => zs.length = m ∧ sp (gV [] zs) H2 Q E
/-- f(k = v, ..): by names alone -/
theorem pe_kw0 {X : Cx} {CX : CXT} {k : Nat} {f : Addr} {fd : FuncData} {ps ks : List Str} {sp : Sp} {E : XK} {x : Str} {p pos : Pos} {kws : List Keyword} {tk : TA} {g : List Value → List Value → List Value} {gV : List V → List V → List V}
    (F : FnOk X.prog X.w X.K X.mg X.base CX k f fd ps sp) (hr : Room k X.A) (hg : Gl X x) (hm : X.mg x = some (.ref f)) (hk : PySem.W.keepIn X.K (.ref f) = true) (hb : KBn X.K fd ps 0 ks g gV) (hx : Passes CX X E)
    (hkw : PK X kws tk) (hall : (backToKw pos (keywordEach kws X.env)).all (·.1.isSome) = true := by rfl) (hks : (backToKw pos (keywordEach kws X.env)).filterMap (·.1) = ks := by rfl)
    (hdb : (x == ("__debug__" : Str)) = false := by decide) (hpl : ((backTo pos (starEach [] X.env)).any (·.1) || (backToKw pos (keywordEach kws X.env)).any (·.1.isNone)) = false := by rfl) :
    PE X (.Call (.Name x p) [] kws pos) (tKw0 ks.length sp gV E tk) := by
  refine ⟨fun pins s σ H Q I h => ?_⟩
  refine wpAny_Call_Name_kw (ld_glob I hg hm ?_ hdb)
  refine PySem.W.callWith_KW0 (h₀ := X.base) I.ok.mod.kin hk hall (thn (hkw.run pos pins s σ H _ I h) fun ws s2 ⟨zs, H2, I2, rz, l2, q2⟩ => ⟨I2.kIn, ?_⟩) hpl
  rw [hks]
  exact run_fnN (us := []) (vs := []) F hr hb hx I2 .nil rz rfl l2 q2
structure GoodV (P : Program) (w : World) (K : PySem.W.Frag) (mg : Str → Option Value) (base : Heap) (k : Nat) (sp : Sp) : Prop where
  g : mg "value_at" = some (.ref (He.ga K "value_at"))
  kp : PySem.W.keepIn K (.ref (He.ga K "value_at")) = true
  fn : ∃ fd, (∃ ds, Vals [V.bl false] ds ∧ Binds K fd psV ds) ∧ (∃ ds, Vals [] ds ∧ Binds K fd psV ds) ∧ KBn K fd psV 2 ["before"] (fun us ws => us ++ ws) (fun vs zs => vs ++ zs) ∧ KBn K fd psV 0 ["before", "x", "curve"] (fun _ ws => rev3 ws) (fun _ zs => rev3 zs) ∧ FnOk P w K mg base CX0 k (He.ga K "value_at") fd psV sp
section
variable {X : Cx} {k : Nat} {sp : Sp} {e : Expr} {es : List Expr} {t tk : TA} {p pos : Pos} {kws : List Keyword}
theorem pe_good2 (G : GoodV X.prog X.w X.K X.mg X.base k sp) (hr : Room k X.A) (ha : PA X (e :: es) t) (hg : Gl X "value_at" := by rfl)
    (he : starEach (e :: es) X.env = (false, eval e X.env) :: starEach es X.env := by rfl) (hpl : (backTo pos (starEach es X.env)).any (·.1) = false := by rfl) : PE X (.Call (.Name "value_at" p) (e :: es) [] pos) (tCall sp [.bl false] E0 t) := by
  obtain ⟨fd, ⟨ds, hv, hb⟩, _, _, _, F⟩ := G.fn
  exact pe_call F hr hg G.g G.kp hb hv pass0 ha (by decide) he hpl
theorem pe_good3 (G : GoodV X.prog X.w X.K X.mg X.base k sp) (hr : Room k X.A) (ha : PA X (e :: es) t) (hg : Gl X "value_at" := by rfl)
    (he : starEach (e :: es) X.env = (false, eval e X.env) :: starEach es X.env := by rfl) (hpl : (backTo pos (starEach es X.env)).any (·.1) = false := by rfl) : PE X (.Call (.Name "value_at" p) (e :: es) [] pos) (tCall sp [] E0 t) := by
  obtain ⟨fd, _, ⟨ds, hv, hb⟩, _, _, F⟩ := G.fn
  exact pe_call F hr hg G.g G.kp hb hv pass0 ha (by decide) he hpl
theorem pe_goodK (G : GoodV X.prog X.w X.K X.mg X.base k sp) (hr : Room k X.A) (ha : PA X (e :: es) t) (hk : PK X kws tk) (hg : Gl X "value_at" := by rfl)
    (hall : (backToKw pos (keywordEach kws X.env)).all (·.1.isSome) = true := by rfl) (hks : (backToKw pos (keywordEach kws X.env)).filterMap (·.1) = (["before"] : List Str) := by rfl)
    (he : starEach (e :: es) X.env = (false, eval e X.env) :: starEach es X.env := by rfl)
    (hpl : ((backTo pos (starEach (e :: es) X.env)).any (·.1) || (backToKw pos (keywordEach kws X.env)).any (·.1.isNone)) = false := by rfl) :
    PE X (.Call (.Name "value_at" p) (e :: es) kws pos) (tCallN 2 1 sp (fun vs zs => vs ++ zs) E0 t tk) := by
  obtain ⟨fd, _, _, hb, _, F⟩ := G.fn
  exact pe_callN F hr hg G.g G.kp hb pass0 ha hk hall hks (by decide) he hpl
theorem pe_goodK0 (G : GoodV X.prog X.w X.K X.mg X.base k sp) (hr : Room k X.A) (hk : PK X kws tk) (hg : Gl X "value_at" := by rfl)
    (hall : (backToKw pos (keywordEach kws X.env)).all (·.1.isSome) = true := by rfl) (hks : (backToKw pos (keywordEach kws X.env)).filterMap (·.1) = (["before", "x", "curve"] : List Str) := by rfl)
    (hpl : ((backTo pos (starEach [] X.env)).any (·.1) || (backToKw pos (keywordEach kws X.env)).any (·.1.isNone)) = false := by rfl) :
    PE X (.Call (.Name "value_at" p) [] kws pos) (tKw0 3 sp (fun _ zs => rev3 zs) E0 tk) := by
  obtain ⟨fd, _, _, _, hb, F⟩ := G.fn
  exact pe_kw0 F hr hg G.g G.kp hb pass0 hk hall hks (by decide) hpl
end
section
variable {σ : L2.St} {H : Hp} {Q : VK} {E : XK} {sp : Sp} {t tk : TA}
def CatPost (ws : List V) (sp : Sp) (Q : VK) (E : XK) : List V → Hp → Prop := fun vs H1 => sp (vs ++ ws) H1 Q E
theorem xcall1 {d : V} (q : t σ H (CatPost [d] sp Q E)) : tCall sp [d] E t σ H Q := q
theorem cat2_ {a b d : V} (q : sp [a, b, d] H Q E) : CatPost [d] sp Q E [a, b] H := q
def KwPost (tk : TA) (σ : L2.St) (sp : Sp) (Q : VK) (E : XK) : List V → Hp → Prop := fun vs H1 => tk σ H1 fun zs H2 => vs.length = 2 ∧ zs.length = 1 ∧ sp (vs ++ zs) H2 Q E
def KwPost2 (vs : List V) (sp : Sp) (Q : VK) (E : XK) : List V → Hp → Prop := fun zs H2 => vs.length = 2 ∧ zs.length = 1 ∧ sp (vs ++ zs) H2 Q E
theorem xcallK (q : t σ H (KwPost tk σ sp Q E)) : tCallN 2 1 sp (fun vs zs => vs ++ zs) E t tk σ H Q := q
def Kw0P (sp : Sp) (Q : VK) (E : XK) : List V → Hp → Prop := fun zs H2 => zs.length = 3 ∧ sp (rev3 zs) H2 Q E
theorem xkw0 (q : tk σ H (Kw0P sp Q E)) : tKw0 3 sp (fun _ zs => rev3 zs) E tk σ H Q := q
theorem kw0_ {a b d : V} (q : sp [a, b, d] H Q E) : Kw0P sp Q E [d, b, a] H := ⟨rfl, q⟩
theorem kw1_ {vs : List V} (q : tk σ H (KwPost2 vs sp Q E)) : KwPost tk σ sp Q E vs H := q
theorem kw2_ {a b d : V} (q : sp [a, b, d] H Q E) : KwPost2 [a, b] sp Q E [d] H := ⟨rfl, rfl, q⟩
end
/-! ### what a tuple says stays -/
def Tp (K : PySem.W.Frag) (H H' : Hp) : Prop := ∀ b xs, SqT K H b xs → SqT K H' b xs
theorem Tp.refl (K : PySem.W.Frag) (H : Hp) : Tp K H H := fun _ _ h => h
theorem Tp.trans {K : PySem.W.Frag} {H H1 H2 : Hp} (a : Tp K H H1) (b : Tp K H1 H2) : Tp K H H2 := fun c xs h => b c xs (a c xs h)
theorem Tp.same {K : PySem.W.Frag} {H H1 : Hp} (e : Same H H1) : Tp K H H1 := fun _ _ h => Same.sqT e h
theorem Tp.frm {K : PySem.W.Frag} {a : Addr} {H H1 : Hp} (f : Frm a H H1) (s : Src H a) : Tp K H H1 := fun _ _ h => Frm.sqT f s h
theorem Tp.lst {K : PySem.W.Frag} {D : Addr} {H : Hp} {ys zs : List V} (h : H D = some (.lst ys)) : Tp K H (upd H D (.lst zs)) := fun b xs hb => by
  rcases hb with (hb | ⟨o, hb⟩) | hb
  · exact .inl (.inl (by rw [upd_ne (ne_of hb h (by intro z; cases z))]; exact hb))
  · exact .inl (.inr ⟨o, by rw [upd_ne (ne_of hb h (by intro z; cases z))]; exact hb⟩)
  · exact .inr hb
theorem Tp.new {K : PySem.W.Frag} {D : Addr} {H : Hp} {o : HO} (h : H D = none) : Tp K H (upd H D o) := Tp.same (same_upd h)
/-- a fraction of at most n bits -/
def Fr (K : PySem.W.Frag) (n : Nat) (y : V) (H : Hp) : Prop := ∃ p q, y = .ref p ∧ SqT K H p (fr q) ∧ Bd n q
theorem Fr.tp {K : PySem.W.Frag} {n : Nat} {y : V} {H H' : Hp} (h : Fr K n y H) (t : Tp K H H') : Fr K n y H' := by
  obtain ⟨p, q, e, hq, b⟩ := h
  exact ⟨p, q, e, t _ _ hq, b⟩
theorem Fr.mono {K : PySem.W.Frag} {n m : Nat} {y : V} {H : Hp} (h : Fr K n y H) (l : n ≤ m) : Fr K m y H := by
  obtain ⟨p, q, e, hq, b⟩ := h
  exact ⟨p, q, e, hq, b.mono l⟩
/-! ### comprehensions -/
section
variable {K : PySem.W.Frag} {σ : L2.St} {H : Hp} {Q : VK} {te tl : TE} {ta : TA} {g : TG} {tt : TT} {vs : List Nat} {a : Addr}
theorem xyes {P : Bool → Hp → Prop} (q : P true H) : tYes σ H P := q
def LcBody (D : Addr) (N : Hp → Prop) : VK := fun y H4 => ∃ acc, H4 D = some (.lst acc) ∧ acc.length < sizeLine ∧ N (upd H4 D (.lst (acc ++ [y])))
def LcT (K : PySem.W.Frag) (g : TG) (tt : TT) (te : TE) (vs : List Nat) (σ : L2.St) (Q : VK) : VK := fun x H1 => ∃ a, x = .ref a ∧ (∃ xs, SqT K H1 a xs) ∧ ∀ D, H1 D = none → ∃ W : Nat → Nat → Hp → Prop, (∃ m, W 0 m (upd H1 D (.lst []))) ∧ ∀ i m H, W i m H →
  ((Itt K a).stop i H ∧ Q (.ref D) H) ∨ ((Itt K a).go i H ∧ ∃ Nx : Hp → Prop, (∀ H', Nx H' → ∃ m', m' < m ∧ W (i + 1) m' H') ∧ ∀ x H', (Itt K a).yld i H x H' → g x (wipe σ vs) H' fun σ2 H2 => wipe σ2 vs = wipe σ vs ∧ tt σ2 H2 fun b H3 =>
    if b = true then te σ2 H3 fun y H4 => ∃ acc, H4 D = some (.lst acc) ∧ acc.length < sizeLine ∧ Nx (upd H4 D (.lst (acc ++ [y]))) else Nx H3)
def LcL (K : PySem.W.Frag) (g : TG) (tt : TT) (te : TE) (vs : List Nat) (σ : L2.St) (Q : VK) : VK := fun x H1 => ∃ a, x = .ref a ∧ (∃ xs, SqL K H1 a xs) ∧ ∀ D, H1 D = none → ∃ W : Nat → Nat → Hp → Prop, (∃ m, W 0 m (upd H1 D (.lst []))) ∧ ∀ i m H, W i m H →
  ((Itl K a).stop i H ∧ Q (.ref D) H) ∨ ((Itl K a).go i H ∧ ∃ Nx : Hp → Prop, (∀ H', Nx H' → ∃ m', m' < m ∧ W (i + 1) m' H') ∧ ∀ x H', (Itl K a).yld i H x H' → g x (wipe σ vs) H' fun σ2 H2 => wipe σ2 vs = wipe σ vs ∧ tt σ2 H2 fun b H3 =>
    if b = true then te σ2 H3 fun y H4 => ∃ acc, H4 D = some (.lst acc) ∧ acc.length < sizeLine ∧ Nx (upd H4 D (.lst (acc ++ [y]))) else Nx H3)
def LcR (lo : Int) (n : Nat) (g : TG) (tt : TT) (te : TE) (vs : List Nat) (σ : L2.St) (Q : VK) (H1 : Hp) : Prop := ∀ D, H1 D = none → ∃ W : Nat → Nat → Hp → Prop, (∃ m, W 0 m (upd H1 D (.lst []))) ∧ ∀ i m H, W i m H →
  ((Itr lo n).stop i H ∧ Q (.ref D) H) ∨ ((Itr lo n).go i H ∧ ∃ Nx : Hp → Prop, (∀ H', Nx H' → ∃ m', m' < m ∧ W (i + 1) m' H') ∧ ∀ x H', (Itr lo n).yld i H x H' → g x (wipe σ vs) H' fun σ2 H2 => wipe σ2 vs = wipe σ vs ∧ tt σ2 H2 fun b H3 =>
    if b = true then te σ2 H3 fun y H4 => ∃ acc, H4 D = some (.lst acc) ∧ acc.length < sizeLine ∧ Nx (upd H4 D (.lst (acc ++ [y]))) else Nx H3)
theorem xlcT (q : tl σ H (LcT K g tt te vs σ Q)) : tLc (iTup K tl) g tt te vs σ H Q := q
theorem xlcL (q : tl σ H (LcL K g tt te vs σ Q)) : tLc (iList K tl) g tt te vs σ H Q := q
def RngPost (P : Int → Nat → Hp → Prop) : List V → Hp → Prop := fun xs H1 => ∃ j : Int, xs = [.int j] ∧ -(2 ^ 62) ≤ j ∧ j < 2 ^ 62 ∧ P 0 j.toNat H1
theorem xlcR (q : ta σ H (RngPost fun lo n H1 => LcR lo n g tt te vs σ Q H1)) : tLc (iRng1 ta) g tt te vs σ H Q := q
theorem rng_ {P : Int → Nat → Hp → Prop} {j : Int} (h0 : -(2 ^ 62) ≤ j) (h1 : j < 2 ^ 62) (q : P 0 j.toNat H) : RngPost P [.int j] H := ⟨j, rfl, h0, h1, q⟩
def Rng2Post (P : Int → Nat → Hp → Prop) : List V → Hp → Prop := fun xs H1 => ∃ i j : Int, xs = [.int i, .int j] ∧ (-(2 ^ 62) ≤ i ∧ i < 2 ^ 62 ∧ -(2 ^ 62) ≤ j ∧ j < 2 ^ 62) ∧ P i (j - i).toNat H1
theorem xlcR2 (q : ta σ H (Rng2Post fun lo n H1 => LcR lo n g tt te vs σ Q H1)) : tLc (iRng2 ta) g tt te vs σ H Q := q
theorem rng2_ {P : Int → Nat → Hp → Prop} {i j : Int} (h0 : -(2 ^ 62) ≤ i ∧ i < 2 ^ 62 ∧ -(2 ^ 62) ≤ j ∧ j < 2 ^ 62) (q : P i (j - i).toNat H) : Rng2Post P [.int i, .int j] H := ⟨i, j, rfl, h0, q⟩
/-- all made items, told by their turn -/
def AllAt (Item : Nat → V → Hp → Prop) (ys : List V) (H : Hp) : Prop := ∀ i y, ys[i]? = some y → Item i y H
theorem AllAt.add {Item : Nat → V → Hp → Prop} {ys : List V} {y : V} {H H' : Hp} (h : AllAt Item ys H) (st : ∀ i y, Item i y H → Item i y H') (hy : Item ys.length y H') : AllAt Item (ys ++ [y]) H' := by
  intro i z hz
  by_cases hi : i < ys.length
  · rw [List.getElem?_append_left hi] at hz
    exact st i z (h i z hz)
  · rw [List.getElem?_append_right (by omega)] at hz
    have : i - ys.length = 0 := by
      cases e : i - ys.length with
      | zero => rfl
      | succ k =>
        rw [e] at hz
        simp at hz
    rw [this] at hz
    have e : i = ys.length := by omega
    subst e
    have : y = z := Option.some.inj hz
    subst this
    exact hy
/-- what holds ahead of turn i of a comprehension whose items may draw from the source at a: D the list -/
def LcInvF (a : Addr) (Item : Nat → V → Hp → Prop) (H0 : Hp) (D : Addr) (i : Nat) (H : Hp) : Prop := Src H a ∧ Frm a H0 H ∧ ∃ ys, H D = some (.lst ys) ∧ ys.length = i ∧ AllAt Item ys H
theorem LcInvF.next {Item : Nat → V → Hp → Prop} {H0 H H' : Hp} {D : Addr} {i n : Nat} {y : V} (st : ∀ i y H H', Item i y H → Tp K H H' → Item i y H') (hD : H0 D = none) (ne : D ≠ a) (v : LcInvF a Item H0 D i H) (hi : i < n) (hn : n ≤ 100000) (s : Src H' a) (f : Frm a H H') (hy : Item i y H') :
    LcBody D (LcInvF a Item H0 D (i + 1)) y H' := by
  obtain ⟨s0, f0, ys, e, l, al⟩ := v
  have e' : H' D = some (.lst ys) := f _ _ ne e
  refine ⟨ys, e', Nat.lt_of_lt_of_le (by omega : ys.length < 100000) (by decide), ?_, ?_, ys ++ [y], upd_same, by simp [l], ?_⟩
  · obtain ⟨i1, j1, k1, hs⟩ := s
    exact ⟨i1, j1, k1, by rw [upd_ne ne.symm]; exact hs⟩
  · intro b o nb hb
    rw [upd_ne (ne_of_none hb hD)]
    exact f _ _ nb (f0 _ _ nb hb)
  · have t : Tp K H (upd H' D (.lst (ys ++ [y]))) := (Tp.frm f s0).trans (Tp.lst e')
    refine al.add (fun i z hz => st i z _ _ hz t) ?_
    rw [l]
    exact st _ _ _ _ hy (Tp.lst e')
/-- over a tuple -/
theorem lcTF {b : Addr} {xs : List V} {i0 : Nat} (Item : Nat → V → Hp → Prop) (st : ∀ i y H H', Item i y H → Tp K H H' → Item i y H') (h : SqT K H b xs) (s : Src H a) (hn : xs.length ≤ 100000)
    (body : ∀ i x H' (Q' : VK), xs[i]? = some x → Src H' a → Frm a H H' → (∀ y H'', Src H'' a → Frm a H' H'' → Item i y H'' → Q' y H'') → te ((wipe σ [i0]).set i0 (some x)) H' Q')
    (k : ∀ D ys H', H D = none → Src H' a → Frm a H H' → H' D = some (.lst ys) → ys.length = xs.length → AllAt Item ys H' → Q (.ref D) H') :
    LcT K (gName i0) tYes te [i0] σ Q (.ref b) H := by
  refine ⟨b, rfl, ⟨_, h⟩, fun D hD => ?_⟩
  have ne : D ≠ a := s.ne hD
  refine lc_tup (K := K) (a := b) (xs := xs) (LcInvF a Item H D) ⟨?_, ?_, [], upd_same, rfl, fun i y e => by simp at e⟩ ?_ ?_ ?_
  · obtain ⟨i1, j1, k1, hs⟩ := s
    exact ⟨i1, j1, k1, by rw [upd_ne ne.symm]; exact hs⟩
  · exact Frm.of (same_upd hD)
  · intro i H' _ v
    exact Frm.sqT v.2.1 s h
  · intro i x H' hx v
    refine ⟨?_, ?_⟩
    · show wipe (((wipe σ [i0])).set i0 (some x)) [i0] = wipe σ [i0]
      show (((σ.set i0 none).set i0 (some x)).set i0 none) = σ.set i0 none
      rw [List.set_set, List.set_set]
    · refine xyes ?_
      refine wTt ?_
      refine body i x H' _ hx v.1 v.2.1 fun y H'' s2 f2 it => ?_
      have hi : i < xs.length := (List.getElem?_eq_some_iff.mp hx).1
      exact LcInvF.next (K := K) st hD ne v hi hn s2 f2 it
  · rintro H' ⟨s2, f2, ys, e, l, al⟩
    exact k D ys H' hD s2 f2 e l al
/-- over a range from 0 -/
theorem lcRF {n : Nat} {i0 : Nat} (Item : Nat → V → Hp → Prop) (st : ∀ i y H H', Item i y H → Tp K H H' → Item i y H') (s : Src H a) (hn : n ≤ 100000)
    (body : ∀ i H' (Q' : VK), i < n → Src H' a → Frm a H H' → (∀ y H'', Src H'' a → Frm a H' H'' → Item i y H'' → Q' y H'') → te ((wipe σ [i0]).set i0 (some (.int (0 + (i : Int))))) H' Q')
    (k : ∀ D ys H', H D = none → Src H' a → Frm a H H' → H' D = some (.lst ys) → ys.length = n → AllAt Item ys H' → Q (.ref D) H') :
    LcR 0 n (gName i0) tYes te [i0] σ Q H := by
  intro D hD
  have ne : D ≠ a := s.ne hD
  refine lc_range (lo := 0) (n := n) (LcInvF a Item H D) ⟨?_, ?_, [], upd_same, rfl, fun i y e => by simp at e⟩ ?_ ?_
  · obtain ⟨i1, j1, k1, hs⟩ := s
    exact ⟨i1, j1, k1, by rw [upd_ne ne.symm]; exact hs⟩
  · exact Frm.of (same_upd hD)
  · intro i H' hi v
    refine ⟨?_, ?_⟩
    · show (((σ.set i0 none).set i0 (some (.int (0 + (i : Int))))).set i0 none) = σ.set i0 none
      rw [List.set_set, List.set_set]
    · refine xyes ?_
      refine wTt ?_
      refine body i H' _ hi v.1 v.2.1 fun y H'' s2 f2 it => ?_
      exact LcInvF.next (K := K) st hD ne v hi hn s2 f2 it
  · rintro H' ⟨s2, f2, ys, e, l, al⟩
    exact k D ys H' hD s2 f2 e l al
end
end FC

namespace FC
open PySem L2
/-! ### == of fractions and of lists of fractions -/
def frD (q : Rat) : PyData := .tuple [.int q.num, .int (q.den : Int)]
section
variable {K : PySem.W.Frag} {H : Hp} {Q : VK}
theorem dp_fr {p : Addr} {q : Rat} (h : SqT K H p (fr q)) : Dp K H (.ref p) (frD q) := .tup h (.cons (.int _) (.cons (.int _) .nil))
theorem sh_fr (q : Rat) : SeqAt.shaped (frD q) = true := by
  unfold SeqAt.shaped frD
  rfl
theorem eqv_fr (p q : Rat) : PyData.eqv (frD p) (frD q) = decide (p = q) := by
  unfold frD
  simp only [PyData.eqv, PyData.eqvAll, Bool.and_true]
  by_cases h : p = q
  · subst h
    simp
  · rw [decide_eq_false h]
    cases e : (p.num == q.num) with
    | false => rfl
    | true =>
      have e1 : p.num = q.num := by simpa using e
      have e2 : ¬ (p.den : Int) = (q.den : Int) := fun z => h (fr_inj e1 z)
      simpa using e2
theorem neD_ {a b : Addr} {p q : Rat} (h1 : SqT K H a (fr p)) (h2 : SqT K H b (fr q)) (k : Q (.bl (!decide (p = q))) H) : rNeD K (.ref a) (.ref b) H Q :=
  ⟨_, _, dp_fr h1, dp_fr h2, sh_fr p, sh_fr q, by rw [eqv_fr]; exact k⟩
theorem eqD_ {a b : Addr} {p q : Rat} (h1 : SqT K H a (fr p)) (h2 : SqT K H b (fr q)) (k : Q (.bl (decide (p = q))) H) : rEqD K (.ref a) (.ref b) H Q :=
  ⟨_, _, dp_fr h1, dp_fr h2, sh_fr p, sh_fr q, by rw [eqv_fr]; exact k⟩
/-- a list of these fractions -/
def FrL (K : PySem.W.Frag) (H : Hp) : List V → List Rat → Prop
  | [], [] => True
  | y :: ys, q :: qs => (∃ p, y = .ref p ∧ SqT K H p (fr q)) ∧ FrL K H ys qs
  | _, _ => False
theorem FrL.tp {H' : Hp} : ∀ {ys : List V} {qs : List Rat}, FrL K H ys qs → Tp K H H' → FrL K H' ys qs
  | [], [], _, _ => trivial
  | y :: ys, q :: qs, h, t => by
    obtain ⟨⟨p, e, hp⟩, r⟩ := h
    exact ⟨⟨p, e, t _ _ hp⟩, FrL.tp r t⟩
  | [], _ :: _, h, _ => h.elim
  | _ :: _, [], h, _ => h.elim
theorem FrL.dp : ∀ {ys : List V} {qs : List Rat}, FrL K H ys qs → DpAll K H ys (qs.map frD)
  | [], [], _ => .nil
  | y :: ys, q :: qs, h => by
    obtain ⟨⟨p, e, hp⟩, r⟩ := h
    subst e
    exact .cons (dp_fr hp) (FrL.dp r)
  | [], _ :: _, h => h.elim
  | _ :: _, [], h => h.elim
theorem FrL.of : ∀ {ys : List V} {qs : List Rat}, ys.length = qs.length → (∀ (i : Nat) (y : V) (q : Rat), ys[i]? = some y → qs[i]? = some q → ∃ p, y = .ref p ∧ SqT K H p (fr q)) → FrL K H ys qs
  | [], [], _, _ => trivial
  | y :: ys, q :: qs, l, h => ⟨h 0 y q rfl rfl, FrL.of (by simpa using l) fun i z r h1 h2 => h (i + 1) z r h1 h2⟩
  | [], _ :: _, l, _ => by simp at l
  | _ :: _, [], l, _ => by simp at l
theorem eqvAll_fr : ∀ (ps : List Rat), PyData.eqvAll (ps.map frD) (ps.map frD) = true
  | [] => rfl
  | p :: ps => by
    show (PyData.eqv (frD p) (frD p) && PyData.eqvAll (ps.map frD) (ps.map frD)) = true
    rw [eqv_fr, eqvAll_fr ps]
    simp
theorem neL_ {a b : Addr} {xs ys : List V} {qs : List Rat} (h1 : SqL K H a xs) (h2 : SqL K H b ys) (f1 : FrL K H xs qs) (f2 : FrL K H ys qs) (hs : SeqAt.shaped (.list (qs.map frD)) = true) (k : Q (.bl false) H) : rNeD K (.ref a) (.ref b) H Q :=
  ⟨.list (qs.map frD), .list (qs.map frD), .lst h1 f1.dp, .lst h2 f2.dp, hs, hs, by
    have e : PyData.eqv (.list (qs.map frD)) (.list (qs.map frD)) = true := by
      simp only [PyData.eqv]
      exact eqvAll_fr qs
    rw [e]
    exact k⟩
theorem eqL_ {a b : Addr} {xs ys : List V} {qs : List Rat} (h1 : SqL K H a xs) (h2 : SqL K H b ys) (f1 : FrL K H xs qs) (f2 : FrL K H ys qs) (hs : SeqAt.shaped (.list (qs.map frD)) = true) (k : Q (.bl true) H) : rEqD K (.ref a) (.ref b) H Q :=
  ⟨.list (qs.map frD), .list (qs.map frD), .lst h1 f1.dp, .lst h2 f2.dp, hs, hs, by
    have e : PyData.eqv (.list (qs.map frD)) (.list (qs.map frD)) = true := by
      simp only [PyData.eqv]
      exact eqvAll_fr qs
    rw [e]
    exact k⟩
end
/-! ### what holds ahead of turn i of a comprehension that changes nothing -/
section
variable {K : PySem.W.Frag} {σ : L2.St} {H : Hp} {Q : VK} {te : TE} {a : Addr}
def LcInvS (Item : Nat → V → Hp → Prop) (H0 : Hp) (D : Addr) (i : Nat) (H : Hp) : Prop := Same H0 H ∧ ∃ ys, H D = some (.lst ys) ∧ ys.length = i ∧ AllAt Item ys H
theorem LcInvS.next {Item : Nat → V → Hp → Prop} {H0 H H' : Hp} {D : Addr} {i n : Nat} {y : V} (st : ∀ i y H H', Item i y H → Tp K H H' → Item i y H') (hD : H0 D = none) (v : LcInvS Item H0 D i H) (hi : i < n) (hn : n ≤ 100000) (f : Same H H') (hy : Item i y H') :
    LcBody D (LcInvS Item H0 D (i + 1)) y H' := by
  obtain ⟨f0, ys, e, l, al⟩ := v
  have e' : H' D = some (.lst ys) := f _ _ e
  refine ⟨ys, e', Nat.lt_of_lt_of_le (by omega : ys.length < 100000) (by decide), ?_, ys ++ [y], upd_same, by simp [l], ?_⟩
  · intro b o hb
    rw [upd_ne (ne_of_none hb hD)]
    exact f _ _ (f0 _ _ hb)
  · have t : Tp K H (upd H' D (.lst (ys ++ [y]))) := (Tp.same f).trans (Tp.lst e')
    refine al.add (fun i z hz => st i z _ _ hz t) ?_
    rw [l]
    exact st _ _ _ _ hy (Tp.lst e')
/-- over a list that stays, nothing else changed -/
theorem lcLS {b : Addr} {xs : List V} {i0 : Nat} (Item : Nat → V → Hp → Prop) (st : ∀ i y H H', Item i y H → Tp K H H' → Item i y H') (h : SqL K H b xs) (hn : xs.length ≤ 100000)
    (body : ∀ i x H' (Q' : VK), xs[i]? = some x → Same H H' → (∀ y H'', Same H' H'' → Item i y H'' → Q' y H'') → te ((wipe σ [i0]).set i0 (some x)) H' Q')
    (k : ∀ D ys H', H D = none → Same H H' → H' D = some (.lst ys) → ys.length = xs.length → AllAt Item ys H' → Q (.ref D) H') :
    LcL K (gName i0) tYes te [i0] σ Q (.ref b) H := by
  refine ⟨b, rfl, ⟨_, h⟩, fun D hD => ?_⟩
  refine lc_list (K := K) (a := b) (xs := xs) (LcInvS Item H D) ⟨same_upd hD, [], upd_same, rfl, fun i y e => by simp at e⟩ ?_ ?_ ?_
  · intro i H' _ v
    exact Same.seq v.1 h
  · intro i x H' hx v
    refine ⟨?_, ?_⟩
    · show (((σ.set i0 none).set i0 (some x)).set i0 none) = σ.set i0 none
      rw [List.set_set, List.set_set]
    · refine xyes ?_
      refine wTt ?_
      refine body i x H' _ hx v.1 fun y H'' f2 it => ?_
      have hi : i < xs.length := (List.getElem?_eq_some_iff.mp hx).1
      exact LcInvS.next (K := K) st hD v hi hn f2 it
  · rintro H' ⟨f2, ys, e, l, al⟩
    exact k D ys H' hD f2 e l al
theorem lcTS {b : Addr} {xs : List V} {i0 : Nat} (Item : Nat → V → Hp → Prop) (st : ∀ i y H H', Item i y H → Tp K H H' → Item i y H') (h : SqT K H b xs) (hn : xs.length ≤ 100000)
    (body : ∀ i x H' (Q' : VK), xs[i]? = some x → Same H H' → (∀ y H'', Same H' H'' → Item i y H'' → Q' y H'') → te ((wipe σ [i0]).set i0 (some x)) H' Q')
    (k : ∀ D ys H', H D = none → Same H H' → H' D = some (.lst ys) → ys.length = xs.length → AllAt Item ys H' → Q (.ref D) H') :
    LcT K (gName i0) tYes te [i0] σ Q (.ref b) H := by
  refine ⟨b, rfl, ⟨_, h⟩, fun D hD => ?_⟩
  refine lc_tup (K := K) (a := b) (xs := xs) (LcInvS Item H D) ⟨same_upd hD, [], upd_same, rfl, fun i y e => by simp at e⟩ ?_ ?_ ?_
  · intro i H' _ v
    exact Same.sqT v.1 h
  · intro i x H' hx v
    refine ⟨?_, ?_⟩
    · show (((σ.set i0 none).set i0 (some x)).set i0 none) = σ.set i0 none
      rw [List.set_set, List.set_set]
    · refine xyes ?_
      refine wTt ?_
      refine body i x H' _ hx v.1 fun y H'' f2 it => ?_
      have hi : i < xs.length := (List.getElem?_eq_some_iff.mp hx).1
      exact LcInvS.next (K := K) st hD v hi hn f2 it
  · rintro H' ⟨f2, ys, e, l, al⟩
    exact k D ys H' hD f2 e l al
end
/-! ### lists joined, drawn from -/
theorem cat_ {l b : Addr} {xs zs : List V} {H : Hp} {Q : VK} (h1 : H l = some (.lst xs)) (h2 : H b = some (.lst zs)) (hn : xs.length + zs.length ≤ 10000) (q : ∀ p H', H p = none → Same H H' → H' p = some (.lst (xs ++ zs)) → Q (.ref p) H') : rCat (.ref l) (.ref b) H Q :=
  ⟨l, b, xs, zs, rfl, rfl, h1, h2, szN hn, fun p hp => q p _ hp (same_upd hp) upd_same⟩
theorem one_ {K : PySem.W.Frag} {a t : Addr} {xs : List V} {H : Hp} {Q : VK} {E : XK} (s : Src H a) (h : (SqL K H t xs ∧ t ≠ a) ∨ SqT K H t xs) (h0 : 0 < xs.length) (h1 : xs.length < 10000) (q : ∀ v H', v ∈ xs → Src H' a → Frm a H H' → Q v H') : spOne K [.ref a, .ref t] H Q E := ⟨a, t, xs, rfl, s, h, h0, h1, q⟩
theorem Src.neL {a b : Addr} {H H' : Hp} {xs : List V} (s : Src H a) (hn : H b = none) : b ≠ a := s.ne hn
/-! ### loops -/
section
variable {K : PySem.W.Frag} {σ : L2.St} {H : Hp} {D : Ends} {g : TG} {tb : TS} {tl : TE} {ta : TA}
def ForL (K : PySem.W.Frag) (g : TG) (tb : TS) (D : Ends) (σ : L2.St) : VK := fun x H1 => ∃ a, x = .ref a ∧ (∃ xs, SqL K H1 a xs) ∧ ∃ W : Nat → Nat → L2.St → Hp → Prop, (∃ m, W 0 m σ H1) ∧ ∀ i m σ H, W i m σ H →
  ((Itl K a).stop i H ∧ D.nx σ H) ∨ ((Itl K a).go i H ∧ ∃ N : L2.St → Hp → Prop, (∀ σ' H', N σ' H' → ∃ m', m' < m ∧ W (i + 1) m' σ' H') ∧ ∀ x H', (Itl K a).yld i H x H' → g x σ H' fun σ2 H2 => tb { D with nx := N, ct := N, bk := D.nx } σ2 H2)
def ForT (K : PySem.W.Frag) (g : TG) (tb : TS) (D : Ends) (σ : L2.St) : VK := fun x H1 => ∃ a, x = .ref a ∧ (∃ xs, SqT K H1 a xs) ∧ ∃ W : Nat → Nat → L2.St → Hp → Prop, (∃ m, W 0 m σ H1) ∧ ∀ i m σ H, W i m σ H →
  ((Itt K a).stop i H ∧ D.nx σ H) ∨ ((Itt K a).go i H ∧ ∃ N : L2.St → Hp → Prop, (∀ σ' H', N σ' H' → ∃ m', m' < m ∧ W (i + 1) m' σ' H') ∧ ∀ x H', (Itt K a).yld i H x H' → g x σ H' fun σ2 H2 => tb { D with nx := N, ct := N, bk := D.nx } σ2 H2)
def ForR (g : TG) (tb : TS) (D : Ends) (σ : L2.St) (lo : Int) (n : Nat) (H1 : Hp) : Prop := ∃ W : Nat → Nat → L2.St → Hp → Prop, (∃ m, W 0 m σ H1) ∧ ∀ i m σ H, W i m σ H →
  ((Itr lo n).stop i H ∧ D.nx σ H) ∨ ((Itr lo n).go i H ∧ ∃ N : L2.St → Hp → Prop, (∀ σ' H', N σ' H' → ∃ m', m' < m ∧ W (i + 1) m' σ' H') ∧ ∀ x H', (Itr lo n).yld i H x H' → g x σ H' fun σ2 H2 => tb { D with nx := N, ct := N, bk := D.nx } σ2 H2)
theorem xforL (q : tl σ H (ForL K g tb D σ)) : tFor (iList K tl) g tb D σ H := q
theorem xforT (q : tl σ H (ForT K g tb D σ)) : tFor (iTup K tl) g tb D σ H := q
theorem xforR (q : ta σ H (RngPost (ForR g tb D σ))) : tFor (iRng1 ta) g tb D σ H := q
theorem xforR2 (q : ta σ H (Rng2Post (ForR g tb D σ))) : tFor (iRng2 ta) g tb D σ H := q
theorem forL_ {b : Addr} {xs : List V} (h : SqL K H b xs) (Pv : Nat → L2.St → Hp → Prop) (h0 : Pv 0 σ H) (hl : ∀ i σ H, i ≤ xs.length → Pv i σ H → SqL K H b xs)
    (hs : ∀ i x σ H, xs[i]? = some x → Pv i σ H → g x σ H fun σ2 H2 => tb { D with nx := Pv (i + 1), ct := Pv (i + 1), bk := D.nx } σ2 H2) (hd : ∀ σ H, Pv xs.length σ H → D.nx σ H) : ForL K g tb D σ (.ref b) H :=
  ⟨b, rfl, ⟨_, h⟩, for_list Pv h0 hl hs hd⟩
theorem forT_ {b : Addr} {xs : List V} (h : SqT K H b xs) (Pv : Nat → L2.St → Hp → Prop) (h0 : Pv 0 σ H) (hl : ∀ i σ H, i ≤ xs.length → Pv i σ H → SqT K H b xs)
    (hs : ∀ i x σ H, xs[i]? = some x → Pv i σ H → g x σ H fun σ2 H2 => tb { D with nx := Pv (i + 1), ct := Pv (i + 1), bk := D.nx } σ2 H2) (hd : ∀ σ H, Pv xs.length σ H → D.nx σ H) : ForT K g tb D σ (.ref b) H :=
  ⟨b, rfl, ⟨_, h⟩, for_tup Pv h0 hl hs hd⟩
theorem forR_ {lo : Int} {n : Nat} (Pv : Nat → L2.St → Hp → Prop) (h0 : Pv 0 σ H)
    (hs : ∀ i σ H, i < n → Pv i σ H → g (.int (lo + i)) σ H fun σ2 H2 => tb { D with nx := Pv (i + 1), ct := Pv (i + 1), bk := D.nx } σ2 H2) (hd : ∀ σ H, Pv n σ H → D.nx σ H) : ForR g tb D σ lo n H := for_range Pv h0 hs hd
end
theorem SqL.keepN {K : PySem.W.Frag} {H H' : Hp} {b p : Addr} {xs : List V} (h : SqL K H b xs) (n : H p = none) (f : ∀ c o, c ≠ p → H c = some o → H' c = some o) : SqL K H' b xs := by
  rcases h with (h | ⟨o, h⟩) | h
  · exact .inl (.inl (f _ _ (ne_of_none h n) h))
  · exact .inl (.inr ⟨o, f _ _ (ne_of_none h n) h⟩)
  · exact .inr h
def spRight : Sp := fun vs H Q _ => ∃ a : Addr, vs = [.ref a] ∧ Src H a ∧ ∀ H', Src H' a → Frm a H H' → Q (.bl true) H'
theorem right_ {a : Addr} {H : Hp} {Q : VK} {E : XK} (s : Src H a) (k : ∀ H', Src H' a → Frm a H H' → Q (.bl true) H') : spRight [.ref a] H Q E := ⟨a, rfl, s, k⟩
def spLaw (K : PySem.W.Frag) : Sp := fun vs H Q _ => ∃ (a : Addr) (ns : List Int), vs = [.ref a] ∧ SqL K H a (ns.map V.int) ∧ ns.length ≤ 63 ∧ ∀ H', Q (.bl true) H'
theorem Same.trk {H H' : Hp} {b : Addr} {o : HO} (e : Same H H') (h : H b = some o) : H' b = some o := e _ _ h
theorem Frm.trk {a : Addr} {H H' : Hp} {b : Addr} {o : HO} (f : Frm a H H') (n : b ≠ a) (h : H b = some o) : H' b = some o := f _ _ n h
theorem small9 {n : Nat} (h : n < 2 ^ 64) : n < 2 ^ 9000 := pow_up h (by decide)
theorem mem4 {α : Type} {P : α → Prop} {a b c d : α} (h1 : P a) (h2 : P b) (h3 : P c) (h4 : P d) : ∀ v ∈ [a, b, c, d], P v := by
  intro v hv
  simp only [List.mem_cons, List.not_mem_nil, or_false] at hv
  rcases hv with rfl | rfl | rfl | rfl <;> assumption
theorem mem2 {α : Type} {P : α → Prop} {a b : α} (h1 : P a) (h2 : P b) : ∀ v ∈ [a, b], P v := by
  intro v hv
  simp only [List.mem_cons, List.not_mem_nil, or_false] at hv
  rcases hv with rfl | rfl <;> assumption
theorem memA {α : Type} {P : α → Prop} {xs ys : List α} (h1 : ∀ v ∈ xs, P v) (h2 : ∀ v ∈ ys, P v) : ∀ v ∈ xs ++ ys, P v := fun v hv => (List.mem_append.mp hv).elim (h1 v) (h2 v)
theorem AllAt.mem {Item : V → Hp → Prop} {ys : List V} {H : Hp} (h : AllAt (fun _ => Item) ys H) : ∀ y ∈ ys, Item y H := fun y hy => by
  obtain ⟨i, hi⟩ := List.getElem?_of_mem hy
  exact h i y hi
theorem gunl2_ {K : PySem.W.Frag} {a : Addr} {x y : V} {n : Nat} {σ : L2.St} {H : Hp} {P : L2.St → Hp → Prop} {ga gb : TG} (h : SqL K H a [x, y]) (hn : n = 2) (q : ga x σ H fun σ' H' => gb y σ' H' P) : gUnl K n (gCons ga (gCons gb gNil)) (.ref a) σ H P := by
  subst hn
  refine ⟨a, _, rfl, h, rfl, x, [y], rfl, ?_⟩
  have e : (fun σ' H' => gCons gb gNil [y] σ' H' P) = fun σ' H' => gb y σ' H' P := by
    funext σ' H'
    have z : (fun σ' H' => gNil [] σ' H' P) = P := by
      funext σ' H'
      exact propext ⟨fun ⟨_, q⟩ => q, fun q => ⟨rfl, q⟩⟩
    refine propext ⟨fun ⟨v, r, e, q⟩ => ?_, fun q => ⟨y, [], rfl, ?_⟩⟩
    · injection e with e1 e2
      subst e1 e2
      rw [z] at q
      exact q
    · rw [z]
      exact q
  rw [e]
  exact q
theorem FrL.get {K : PySem.W.Frag} {H : Hp} : ∀ {ys : List V} {qs : List Rat} {i : Nat} {y : V}, FrL K H ys qs → ys[i]? = some y → ∃ q p, qs[i]? = some q ∧ y = .ref p ∧ SqT K H p (fr q)
  | [], _, _, _, _, h => by simp at h
  | _ :: _, [], _, _, f, _ => f.elim
  | z :: ys, q :: qs, 0, y, f, h => by
    obtain ⟨⟨p, e, hp⟩, _⟩ := f
    have : z = y := Option.some.inj h
    subst this
    exact ⟨q, p, rfl, e, hp⟩
  | z :: ys, q :: qs, i + 1, y, f, h => FrL.get (i := i) f.2 h
theorem FrL.all {K : PySem.W.Frag} {H : Hp} {ys : List V} {qs : List Rat} (l : ys.length = qs.length) (h : AllAt (fun i y H => ∃ q p, qs[i]? = some q ∧ y = V.ref p ∧ SqT K H p (fr q)) ys H) : FrL K H ys qs :=
  FrL.of l fun i y q h1 h2 => by
    obtain ⟨q', p, e, ey, hp⟩ := h i y h1
    rw [h2] at e
    obtain rfl := Option.some.inj e
    exact ⟨p, ey, hp⟩
theorem FrQ.tp {K : PySem.W.Frag} {qs : List Rat} (i : Nat) (y : V) (H H' : Hp) (h : ∃ q p, qs[i]? = some q ∧ y = V.ref p ∧ SqT K H p (fr q)) (t : Tp K H H') : ∃ q p, qs[i]? = some q ∧ y = V.ref p ∧ SqT K H' p (fr q) := by
  obtain ⟨q, p, e, ey, hp⟩ := h
  exact ⟨q, p, e, ey, t _ _ hp⟩
theorem SqT.lit {K : PySem.W.Frag} {p : Addr} {q : Rat} {H : Hp} {xs : List V} (e : fr q = xs) (h : SqT K H p xs) : SqT K H p (fr q) := by rw [e]; exact h
end FC

namespace FC
open PySem L2
open PyProof.Rows (envOfC)
/-! ### a promise that holds where no object is being shown (guards: none) -/
structure FnG (P : Program) (w : World) (K : PySem.W.Frag) (mg : Str → Option Value) (base : Heap) (CX : CXT) (k : Nat) (f : Addr) (fd : FuncData) (ps : List Str) (sp : Sp) : Prop where
  ln : ∀ {vs H Q E}, sp vs H Q E → vs.length = ps.length
  go : ∀ {A : Around} {fr : List Env} {s : Shared} {H : Hp} {args : Args} {us : List Value} {vs : List V} {Q : VK} {E : XK}, A.guards = some [] → Room k A → Env0 P w K mg base A fr s H → BindsTo s fd args (ps.zip us) → Vals vs us → sp vs H Q E →
    codeAny (model P w) A (.call (.ref f) args) (CR CX fr P w H s Q E) s
theorem FnOk.toG {P : Program} {w : World} {K : PySem.W.Frag} {mg : Str → Option Value} {base : Heap} {CX : CXT} {k : Nat} {f : Addr} {fd : FuncData} {ps : List Str} {sp : Sp} (F : FnOk P w K mg base CX k f fd ps sp) : FnG P w K mg base CX k f fd ps sp :=
  ⟨fun h => F.len _ _ _ _ h, fun _ hr e b v h => F.run _ _ _ _ _ _ _ _ _ hr e b v h⟩
/-- by the body, whose reading may lean on the guards -/
theorem fnG_mk {CX : CXT} {P : Program} {w : World} {K : PySem.W.Frag} {mg : Str → Option Value} {base : Heap} {x qual : Str} {params : Arguments} {body : List Stmt} {scope : Scope} {dvs : List V} {kws : List (Str × V)} {f : Addr} {fd : FuncData} {N ps : List Str} {k : Nat} {sp : Sp}
    (F : FunD K x qual params body scope dvs kws f fd) (S : FnScope N ps scope) (ln : ∀ vs H Q E, sp vs H Q E → vs.length = ps.length)
    (bd : ∀ (cdv : Value) (A : Around) (fr : List Env) (s : Shared) (H : Hp) (vs : List V) (Q : VK) (E : XK), (A.deeper (envOfC qual scope s.heap.objs.size f cdv)).guards = some [] → Room k (A.deeper (envOfC qual scope s.heap.objs.size f cdv)) → sp vs H Q E →
      ∃ t, PSs (cxOf CX P w K mg base N qual scope f cdv A fr s H E) body t ∧ t { nx := fun _ H' => Q .non H', rt := Q } (start N vs) H) : FnG P w K mg base CX (k + 1) f fd ps sp := by
  obtain ⟨oc, od, dV, kV, doc, pm, an, cdv, ct, osl, rfl, lk, hcd, _, _⟩ := F.ex
  constructor
  · intro vs H Q E h
    exact ln vs H Q E h
  · intro A fr s H args us vs Q E gd room en hb rv hsp
    have old : ∀ b o, base.get? b = some o → s.heap.get? b = some o := fun b o z => (en.bs b o z).1
    have inK : K.In s.heap := en.mod.kin.keeps old
    have kinds : ∀ y ∈ ps.zip us, scope.names.lookup y.1 = some .local ∨ (scope.names.lookup y.1 = some .cell ∧ ((cellsFrom (s.heap.objs.size + 1) scope.names []).lookup y.1).isSome = true) := by
      intro y hy
      have q := S.par y.1 (List.of_mem_zip (a := y.1) (b := y.2) hy).1
      exact q.elim .inl fun q => .inr ⟨q, PySem.W.cellsFrom_some _ _ _ (.inl q)⟩
    refine codeAny_call_function room.depth (inK _ _ lk) rfl S.co S.gen rfl (PySem.W.codeRec_of inK hcd) (hb _ _ _ _ ?_)
    refine wpAny_newFunctionEnv_cells S.kind kinds fun env henv s1 x1 => ?_
    subst henv
    refine ⟨(en.mod.nolimit.keeps old).keeps x1.toInCall.keep, codeAny_func ?_⟩
    obtain ⟨t, ht, rd⟩ := bd cdv A fr s H vs Q E gd (room.deeper _) hsp
    have I1 := inv_start (CX := CX) (E := E) S room.hd en (ln _ _ _ _ hsp) rv x1
    refine wpAny_mono (ht.run [] s1 (start N vs) H _ I1 rd) ?_ (fun _ _ z => z)
    intro fl s2 h2
    match fl, h2 with
    | .ret u, h2 =>
      obtain ⟨v, σ2, H2, J, r2, q2⟩ := h2
      exact ⟨v, H2, J.os, J.bare, J.base, J.hok, r2, q2⟩
    | .next, h2 =>
      obtain ⟨σ2, H2, J, q2⟩ := h2
      exact ⟨V.non, H2, J.os, J.bare, J.base, J.hok, rfl, q2⟩
    | .brk, h2 =>
      obtain ⟨_, _, _, q2⟩ := h2
      exact q2.elim
    | .cont, h2 =>
      obtain ⟨_, _, _, q2⟩ := h2
      exact q2.elim
/-- such a def called -/
structure GoodG (P : Program) (w : World) (K : PySem.W.Frag) (mg : Str → Option Value) (base : Heap) (x : Str) (k : Nat) (ps : List Str) (sp : Sp) : Prop where
  g : mg x = some (.ref (He.ga K x))
  kp : PySem.W.keepIn K (.ref (He.ga K x)) = true
  fn : ∃ fd, Binds K fd ps [] ∧ FnG P w K mg base CX0 k (He.ga K x) fd ps sp
theorem pe_goodG {X : Cx} {x : Str} {k : Nat} {ps : List Str} {sp : Sp} {e : Expr} {es : List Expr} {t : TA} {p pos : Pos} (G : GoodG X.prog X.w X.K X.mg X.base x k ps sp) (gd : X.A.guards = some []) (hr : Room k X.A) (ha : PA X (e :: es) t) (hg : Gl X x := by rfl) (hdb : (x == ("__debug__" : Str)) = false := by decide)
    (he : starEach (e :: es) X.env = (false, eval e X.env) :: starEach es X.env := by rfl) (hpl : (backTo pos (starEach es X.env)).any (·.1) = false := by rfl) : PE X (.Call (.Name x p) (e :: es) [] pos) (tCall sp [] E0 t) := by
  obtain ⟨fd, hb, F⟩ := G.fn
  constructor
  intro pins s σ H Q I h
  refine wpAny_Call_Name_kw (ld_glob I hg G.g ?_ hdb)
  refine PySem.W.callWith_K (h₀ := X.base) I.ok.mod.kin G.kp (thn (ha.run pos pins s σ H _ I h) ?_) he hpl
  rintro us s1 ⟨vs, H1, I1, r1, q1⟩
  refine ⟨I1.kIn, ?_⟩
  rw [List.append_nil] at q1
  have len1 : us.length = ps.length := r1.length.symm.trans (F.ln q1)
  have b1 := hb s1 us I1.kIn (by rw [List.append_nil]; exact len1)
  rw [List.append_nil] at b1
  refine wpAny_call (codeAny_mono (F.go gd hr I1.env0 b1 r1 q1) ?_)
  intro r s2 h2
  match r, h2 with
  | .error e, h2 => exact h2.elim
  | .ok (.ret u), h2 => exact I1.after h2
  | .ok .next, h2 => exact h2.elim
  | .ok .brk, h2 => exact h2.elim
  | .ok .cont, h2 => exact h2.elim
/-! ### repr of a small pair -/
def rRepr (K : PySem.W.Frag) : List V → Hp → VK → Prop := fun xs H Q => ∃ v d, xs = [.ref v] ∧ Dp K H (.ref v) d ∧ PyData.showable d = true ∧ d.hasDict = false ∧ d.depth ≤ 8 ∧ d.shown.length ≤ sizeLine ∧ Q (.str d.shown) H
theorem cr_repr {X : Cx} (gd : X.A.guards = some []) (hu : X.A.units + 64 < cLine) : CallR X (.builtin "repr") (rRepr X.K) := by
  intro pins s σ H xs us Q I r h
  obtain ⟨v, d, rfl, hd, sh, nd, dp, sz, q⟩ := h
  cases r with
  | cons r0 rn =>
    cases rn
    obtain ⟨as, rd⟩ := Dp.reads I d _ _ hd r0
    cases (show _ = Value.ref v from r0)
    refine repr_of_reads' rd sh (fun z => by rw [nd] at z; cases z) gd (by omega) (fun _ _ z => z) (fun h' u tk hk => ?_) sz
    refine ⟨.str d.shown, H, ?_, ⟨u, rfl⟩, q⟩
    exact I.kept (t' := tk) hk
/-! ### the law's call, where its promise leans on the guards: the caller shows none -/
section
variable {P : Program} {w : World} {K : PySem.W.Frag} {mg mb : Str → Option Value} {k : Nat} {fa a : Addr} {fd : FuncData} {x : Str} {sp : Sp} {s1 : Shared} {vs : List Value} {ns : List Int}
/-- from one abstract heap that tracks the script at most -/
theorem lawG_from (inK : K.In s1.heap) (hm : s1.heap.Ns mainGlobals mg) (hbl : s1.heap.Ns builtinsNs mb) (bb : ∀ y : Str, y ≠ "__name__" → mb y = bootBuiltins y) (lim : s1.heap.NoLimit) (gn : s1.gens = #[])
    (ob : s1.heap.get? a = some { cls := .type "list", data := .seq vs.toArray }) (room : Room k callerA) (F : ∀ base : Heap, K.In base → base.Ns mainGlobals mg → FnG P w K mg base CX0 k fa fd [x] sp)
    (bind : ∀ (s : Shared) (u : Value), BindsTo s fd ⟨[u], []⟩ [(x, u)]) {H : Hp} (only : ∀ b, H b = none ∨ (b = a ∧ ∃ o xs, H b = some (.frz o (.lst xs)))) (hok : HOk P w H s1.heap) (nK : H a ≠ none → K.lookup a = none) (hsp : sp [.ref a] H (fun v _ => v = .bl true) fun _ _ _ => False) :
    codeAny (model P w) callerA (.call (.ref fa) ⟨[.ref a], []⟩) (fun r s' => r = .ok (.ret (.bool true)) ∧ OldK s1.heap s'.heap ∧ s'.os = s1.os ∧ PyProof.Rows.AllBare s'.gens) s1 := by
  -- what is no list is not tracked
  have free : ∀ {b : Addr} {o : Obj}, s1.heap.get? b = some o → (∀ es ep, o.data = .dict es ep → H b = none) := by
    intro b o e es ep d
    rcases only b with z | ⟨z, _⟩
    · exact z
    · rw [z, ob] at e
      rw [← Option.some.inj e] at d
      cases d
  have ns1 : ∀ {b : Addr} {m : Str → Option Value}, s1.heap.Ns b m → (hidT s1.heap H).Ns b m := by
    rintro b m ⟨o, es, ep, e, d, r⟩
    exact ⟨o, es, ep, hidT_get e (free e es ep d), d, r⟩
  have inB : K.In (hidT s1.heap H) := by
    intro b o e
    refine hidT_get (inK b o e) ?_
    rcases only b with z | ⟨z, _⟩
    · exact z
    · subst z
      cases q : H b with
      | none => rfl
      | some u =>
        have z2 := nK (by rw [q]; exact fun y => by cases y)
        rw [e] at z2
        cases z2
  obtain ⟨mc, l1, l2⟩ := lim
  have md : Mod K mg (hidT s1.heap H) := ⟨inB, ns1 hm, ⟨mb, ns1 hbl, bb⟩, mc, ns1 l1, l2⟩
  have en : Env0 P w K mg (hidT s1.heap H) callerA [] s1 H := ⟨rfl, md, fun b o e => of_hidT e, Nat.le_of_eq (hidT_size _ _), trivial, fun b hb => absurd (show b ∈ ([] : List Addr) from hb) List.not_mem_nil, hok, .of_eq gn⟩
  refine codeAny_mono ((F _ inB (ns1 hm)).go (us := [.ref a]) (vs := [.ref a]) rfl room en (bind s1 (.ref a)) (.cons rfl .nil) hsp) ?_
  intro r s2 h2
  match r, h2 with
  | .error e, h2 => exact h2.elim
  | .ok .next, h2 => exact h2.elim
  | .ok .brk, h2 => exact h2.elim
  | .ok .cont, h2 => exact h2.elim
  | .ok (.ret u), ⟨v, H2, os, bare, un, hok2, rv, q⟩ =>
    subst q
    cases rv
    refine ⟨rfl, OldK.of_keep ?_, os, bare⟩
    intro b o e
    rcases only b with z | ⟨_, o1, xs, z⟩
    · exact un.keep b o e z List.not_mem_nil List.not_mem_nil
    · have e1 := (hok b _ z).1
      have e2 := (hok2 b _ (un.frzs b o1 _ z)).1
      rw [e] at e1
      rw [Option.some.inj e1]
      exact e2
theorem lawG (inK : K.In s1.heap) (hm : s1.heap.Ns mainGlobals mg) (hbl : s1.heap.Ns builtinsNs mb) (bb : ∀ y : Str, y ≠ "__name__" → mb y = bootBuiltins y) (lim : s1.heap.NoLimit) (gn : s1.gens = #[])
    (ob : s1.heap.get? a = some { cls := .type "list", data := .seq vs.toArray }) (hin : PyProof.Rows.IntsAre vs ns) (hl : ns.length ≤ sizeLine) (room : Room k callerA) (F : ∀ base : Heap, K.In base → base.Ns mainGlobals mg → FnG P w K mg base CX0 k fa fd [x] sp)
    (bind : ∀ (s : Shared) (u : Value), BindsTo s fd ⟨[u], []⟩ [(x, u)]) (hsp : ∀ H : Hp, SqL K H a (ns.map V.int) → sp [.ref a] H (fun v _ => v = .bl true) fun _ _ _ => False) :
    codeAny (model P w) callerA (.call (.ref fa) ⟨[.ref a], []⟩) (fun r s' => r = .ok (.ret (.bool true)) ∧ OldK s1.heap s'.heap ∧ s'.os = s1.os ∧ PyProof.Rows.AllBare s'.gens) s1 := by
  have rv := vals_ints hin
  cases hk : K.lookup a with
  | some o =>
    have e := inK a o hk
    rw [ob] at e
    obtain rfl := Option.some.inj e
    have sz : vs.toArray.size ≤ sizeLine := by
      rw [List.size_toArray, hin.length]
      exact hl
    exact lawG_from inK hm hbl bb lim gn ob room F bind (H := fun _ => none) (fun _ => .inl rfl) (fun b u z => by cases (show (none : Option HO) = some u from z)) (fun z => absurd rfl z) (hsp _ (.inr ⟨_, vs.toArray, _, hk, rfl, rfl, rfl, sz, by simpa using rv⟩))
  | none =>
    let H0 : Hp := fun b => if b = a then some (.frz { cls := .type "list", data := .seq vs.toArray } (.lst (ns.map V.int))) else none
    have at_a : H0 a = some (.frz { cls := .type "list", data := .seq vs.toArray } (.lst (ns.map V.int))) := if_pos rfl
    have off : ∀ b, b ≠ a → H0 b = none := fun b hb => if_neg hb
    refine lawG_from inK hm hbl bb lim gn ob room F bind (H := H0) (fun b => ?_) (fun b u z => ?_) (fun _ => hk) (hsp _ (.inl (.inr ⟨_, at_a⟩)))
    · by_cases hb : b = a
      · subst hb
        exact .inr ⟨rfl, _, _, at_a⟩
      · exact .inl (off b hb)
    · by_cases hb : b = a
      · subst hb
        rw [at_a] at z
        cases z
        exact ⟨ob, by rw [List.length_map]; exact hl, vs, _, rv, ob⟩
      · rw [off b hb] at z
        cases z
end
theorem walk_G {l : PySem.W.OpenLaw} {n k : Nat} {q : Program} {loose : List Str} {XP : (Str → Option Value) → Heap → Prop} {YP : World → Heap → Prop} {d : DefRec} {x : Str} (hn : l.most = some n) (hn2 : n ≤ sizeLine) (hdf : d.params.defaults = []) (room : Room k callerA)
    (F : ∀ (w : World) (mg : Str → Option Value) (fa : Addr) (h : Heap), YP w h → h.Ns mainGlobals mg → mg d.name = some (.ref fa) →
      ∃ (K : PySem.W.Frag) (fd : FuncData) (sp : Sp), K.In h ∧ (∀ (s : Shared) (u : Value), BindsTo s fd ⟨[u], []⟩ [(x, u)]) ∧
        (∀ (H : Hp) (a : Addr) (ns : List Int), ns.length ≤ n → SqL K H a (ns.map V.int) → sp [.ref a] H (fun v _ => v = .bl true) fun _ _ _ => False) ∧
        ∀ base : Heap, K.In base → base.Ns mainGlobals mg → FnG l.prog w K mg base CX0 k fa fd [x] sp) :
    PySem.W.WalkO q loose XP YP l.row.toRowW d [] (fun f vs => PySem.call f vs) := by
  refine Att.attach_call hn hdf ?_
  intro w s0 s1 mg mb fa o pm cd doc a vs ns G Y ho hd hcd hmg hob hin hlen hg
  obtain ⟨K, fd, sp, inK, bind, hsp, hF⟩ := F w mg fa _ Y G.T.g hmg
  exact lawG inK G.T.g G.T.b G.T.builtins G.T.nolimit hg hob hin (Nat.le_trans hlen hn2) room hF bind fun H hS => hsp H a ns hlen hS
/-! ### ways joined -/
section
variable {D : Ends} {σ : L2.St} {H : Hp} {i : Nat} {a b : Int} {t u : TS} {c : Bool} {tt tu : TT} {Q : VK}
theorem ifj (ha : D.nx (σ.set i (some (.int a))) H → t D σ H) (hb : D.nx (σ.set i (some (.int b))) H → u D σ H) (q : D.nx (σ.set i (some (.int (if c = true then a else b)))) H) : if c = true then t D σ H else u D σ H := by
  cases c with
  | true =>
    rw [if_pos rfl] at q ⊢
    exact ha q
  | false =>
    rw [if_neg Bool.false_ne_true] at q ⊢
    exact hb q
theorem andj {c1 c2 : Bool} {P : Bool → Hp → Prop} (h1 : ∀ P : Bool → Hp → Prop, P c1 H → tt σ H P) (h2 : ∀ P : Bool → Hp → Prop, P c2 H → tu σ H P) (q : P (c1 && c2) H) : tAnd tt tu σ H P := by
  refine h1 _ ?_
  cases c1 with
  | true =>
    rw [if_pos rfl]
    exact h2 P q
  | false =>
    rw [if_neg Bool.false_ne_true]
    exact q
theorem orj {c1 c2 : Bool} {P : Bool → Hp → Prop} (h1 : ∀ P : Bool → Hp → Prop, P c1 H → tt σ H P) (h2 : ∀ P : Bool → Hp → Prop, P c2 H → tu σ H P) (q : P (c1 || c2) H) : tOr tt tu σ H P := by
  refine h1 _ ?_
  cases c1 with
  | true =>
    rw [if_pos rfl]
    exact q
  | false =>
    rw [if_neg Bool.false_ne_true]
    exact h2 P q
theorem sne_ {i j : Str} (q : Q (.bl (!decide (i = j))) H) : rNe (.str i) (.str j) H Q := by
  refine ⟨rfl, ?_⟩
  have e : decide (V.str i = V.str j) = decide (i = j) := decide_eq_decide.mpr ⟨V.str.inj, congrArg V.str⟩
  rw [e]
  exact q
end
theorem ifvj {σ : L2.St} {H : Hp} {ta tb : TE} {c : Bool} {x y : Int} {Q : VK} (h1 : ∀ Q : VK, Q (.int x) H → ta σ H Q) (h2 : ∀ Q : VK, Q (.int y) H → tb σ H Q) (q : Q (.int (if c = true then x else y)) H) : if c = true then ta σ H Q else tb σ H Q := by
  cases c with
  | true =>
    rw [if_pos rfl] at q ⊢
    exact h1 Q q
  | false =>
    rw [if_neg Bool.false_ne_true] at q ⊢
    exact h2 Q q
/-! ### repr of a fraction -/
theorem text_len {i : Int} (h : i.natAbs < 2 ^ 1000) : (Str.ofString (toString i)).length ≤ 1001 := by
  rw [ofString_length]
  cases i with
  | ofNat m =>
    have e : toString (Int.ofNat m) = Nat.repr m := rfl
    rw [e]
    exact Nat.le_succ_of_le (nat_repr_length_le (by decide) h)
  | negSucc m =>
    have e : toString (Int.negSucc m) = "-" ++ Nat.repr (m + 1) := rfl
    rw [e, String.length_append]
    have e1 : "-".length = 1 := rfl
    have e2 := nat_repr_length_le (k := 1000) (by decide) (show m + 1 < 2 ^ 1000 from h)
    omega
theorem log_lt {n : Nat} (h : n < 2 ^ 1000) : n.log2 < 1920 := by
  by_cases z : n = 0
  · rw [z]; decide
  · exact Nat.lt_trans ((Nat.log2_lt z).mpr h) (by decide)
theorem shows_fr {q : Rat} (b : Bd 1000 q) : PyData.showable (frD q) = true ∧ (frD q).shown.length ≤ sizeLine := by
  have h2 : ((q.den : Int)).natAbs < 2 ^ 1000 := by rw [Int.natAbs_natCast]; exact b.2
  constructor
  · unfold frD
    simp only [PyData.showable, PyData.showableAll, Bool.and_true]
    rw [decide_eq_true (log_lt b.1), decide_eq_true (log_lt h2)]
    rfl
  · have e : (frD q).shown = tupleText [Str.ofString (toString q.num), Str.ofString (toString (q.den : Int))] := by
      unfold frD
      simp only [PyData.shown, PyData.shownAll]
    rw [e]
    have t := tupleText_len_le [Str.ofString (toString q.num), Str.ofString (toString (q.den : Int))]
    have t1 := text_len b.1
    have t2 := text_len h2
    simp only [List.map_cons, List.map_nil, List.sum_cons, List.sum_nil, List.length_cons, List.length_nil] at t
    rw [sizeLine_eq]
    omega
theorem repr_ {K : PySem.W.Frag} {p : Addr} {q : Rat} {H : Hp} {Q : VK} (h : SqT K H p (fr q)) (b : Bd 1000 q) (k : Q (.str (frD q).shown) H) : rRepr K [.ref p] H Q :=
  ⟨p, frD q, rfl, dp_fr h, (shows_fr b).1, rfl, by unfold frD; simp [PyData.depth, PyData.depthAll], (shows_fr b).2, k⟩
theorem sneS_ {i : Str} {H : Hp} {Q : VK} (q : Q (.bl false) H) : rNe (.str i) (.str i) H Q := by
  refine sne_ ?_
  rw [decide_eq_true rfl]
  exact q
end FC

/-! ### inputs settled: what the law's machine does to them, and that it is the even spread -/
namespace FC
/-- the greater one, as it is drawn -/
def mx (h q : Rat) : Rat := if h < q then q else h
/-- told ones never below one ahead -/
def lift (h : Rat) : List (Option Rat) → List (Option Rat)
  | [] => []
  | none :: r => none :: lift h r
  | some q :: r => some (mx h q) :: lift (mx h q) r
/-- how far the next told one lies, and what it is -/
def nxt : List (Option Rat) → Nat × Rat
  | [] => (1, 0)
  | some q :: _ => (1, q)
  | none :: r => ((nxt r).1 + 1, (nxt r).2)
/-- from left to right, each missing one between the one ahead of it and the next told one -/
def spr (p : Rat) : List (Option Rat) → List Rat
  | [] => []
  | some q :: r => q :: spr q r
  | none :: r => (p + ((nxt r).2 - p) / ((nxt r).1 + 1 : Nat)) :: spr (p + ((nxt r).2 - p) / ((nxt r).1 + 1 : Nat)) r
theorem spr_none (p : Rat) (r : List (Option Rat)) : spr p (none :: r) = (p + ((nxt r).2 - p) / ((nxt r).1 + 1 : Nat)) :: spr (p + ((nxt r).2 - p) / ((nxt r).1 + 1 : Nat)) r := rfl
theorem lift_length (h : Rat) : ∀ L, (lift h L).length = L.length
  | [] => rfl
  | none :: r => by simp [lift, lift_length h r]
  | some q :: r => by simp [lift, lift_length (mx h q) r]
theorem spr_length (p : Rat) : ∀ L, (spr p L).length = L.length
  | [] => rfl
  | some q :: r => by simp [spr, spr_length q r]
  | none :: r => by simp [spr, spr_length _ r]
theorem nxt_run (m : Nat) (v : Rat) (r : List (Option Rat)) : nxt (List.replicate m none ++ some v :: r) = (m + 1, v) := by
  induction m with
  | zero => rfl
  | succ m ih =>
    show nxt (none :: (List.replicate m none ++ some v :: r)) = _
    unfold nxt
    rw [ih]
/-- a run of missing ones is spread evenly -/
theorem spr_run (p v : Rat) (r : List (Option Rat)) (c : Nat) (hc : 0 < c) : ∀ (m j : Nat), j + m + 1 = c →
    spr (p + (j : Rat) * ((v - p) / (c : Rat))) (List.replicate m none ++ some v :: r) = (List.range m).map (fun k => p + ((j + k + 1 : Nat) : Rat) * ((v - p) / (c : Rat))) ++ v :: spr v r := by
  have c0 : (c : Rat) ≠ 0 := by exact_mod_cast (by omega : c ≠ 0)
  intro m
  induction m with
  | zero => intro j e; rfl
  | succ m ih =>
    intro j e
    have e1 : p + (j : Rat) * ((v - p) / (c : Rat)) + (v - (p + (j : Rat) * ((v - p) / (c : Rat)))) / ((m + 1 + 1 : Nat) : Rat) = p + ((j + 1 : Nat) : Rat) * ((v - p) / (c : Rat)) := by
      have ec : (c : Rat) = (j : Rat) + ((m + 1 + 1 : Nat) : Rat) := by
        rw [← Rat.natCast_add]
        exact congrArg _ (by omega)
      have m0 : ((m + 1 + 1 : Nat) : Rat) ≠ 0 := by exact_mod_cast (by omega : m + 1 + 1 ≠ 0)
      have ej : ((j + 1 : Nat) : Rat) = (j : Rat) + 1 := by rw [Rat.natCast_add]; rfl
      rw [ej]
      generalize ((m + 1 + 1 : Nat) : Rat) = M at *
      generalize (j : Rat) = J at *
      generalize (c : Rat) = C at *
      subst ec
      grind
    show spr _ (none :: (List.replicate m none ++ some v :: r)) = _
    rw [spr_none, nxt_run]
    simp only
    rw [e1, ih (j + 1) (by omega), List.range_succ_eq_map, List.map_cons, List.map_map]
    simp only [List.cons_append]
    congr 1
    congr 1
    refine List.map_congr_left fun k _ => ?_
    have : j + 1 + k + 1 = j + (k + 1) + 1 := by omega
    simp [Function.comp, this]
/-- rising from p on -/
def Up (p : Rat) : List Rat → Prop
  | [] => True
  | q :: r => p ≤ q ∧ Up q r
/-- told ones never below one ahead; the last one is told -/
def Told (p : Rat) : List (Option Rat) → Prop
  | [] => True
  | none :: r => r ≠ [] ∧ Told p r
  | some q :: r => p ≤ q ∧ Told q r
theorem nxt_ge {p : Rat} : ∀ {r : List (Option Rat)}, Told p r → r ≠ [] → p ≤ (nxt r).2
  | [], _, h => absurd rfl h
  | none :: r, h, _ => show p ≤ (nxt r).2 from nxt_ge h.2 h.1
  | some q :: r, h, _ => h.1
theorem told_of {p u : Rat} : ∀ {r : List (Option Rat)}, Told p r → u ≤ (nxt r).2 → Told u r
  | [], _, _ => trivial
  | none :: r, h, l => ⟨h.1, told_of h.2 l⟩
  | some q :: r, h, l => ⟨l, h.2⟩
theorem between {p v : Rat} {n : Nat} (h : p ≤ v) : p ≤ p + (v - p) / ((n + 1 : Nat) : Rat) ∧ p + (v - p) / ((n + 1 : Nat) : Rat) ≤ v := by
  have n0 : (1 : Rat) ≤ ((n + 1 : Nat) : Rat) := by exact_mod_cast (by omega : 1 ≤ n + 1)
  generalize ((n + 1 : Nat) : Rat) = N at *
  have N0 : 0 < N := by grind
  have d0 : 0 ≤ v - p := by grind
  have a : 0 ≤ (v - p) / N := by
    rw [Rat.div_def]
    exact Rat.mul_nonneg d0 (Rat.le_of_lt (Rat.inv_pos.mpr N0))
  have b : (v - p) / N ≤ v - p := by
    have e : (v - p) / N * N = v - p := by grind
    have : (v - p) / N * 1 ≤ (v - p) / N * N := Rat.mul_le_mul_of_nonneg_left n0 a
    grind
  constructor <;> grind
theorem spr_up : ∀ {L : List (Option Rat)} {p : Rat}, Told p L → Up p (spr p L)
  | [], _, _ => trivial
  | some q :: r, p, h => ⟨h.1, spr_up h.2⟩
  | none :: r, p, h => by
    have g := nxt_ge h.2 h.1
    have b := between (n := (nxt r).1) g
    exact ⟨b.1, spr_up (told_of h.2 b.2)⟩
theorem mx_ge (h q : Rat) : h ≤ mx h q := by
  unfold mx
  split <;> grind
/-- the last one is told -/
def EndTold : List (Option Rat) → Prop
  | [] => True
  | none :: r => r ≠ [] ∧ EndTold r
  | some _ :: r => EndTold r
theorem lift_ne {h : Rat} {L : List (Option Rat)} (n : L ≠ []) : lift h L ≠ [] := fun z => n (List.length_eq_zero_iff.mp (by rw [← lift_length h L, z]; rfl))
theorem lift_told : ∀ {L : List (Option Rat)} {h : Rat}, EndTold L → Told h (lift h L)
  | [], _, _ => trivial
  | none :: r, h, e => ⟨lift_ne e.1, lift_told e.2⟩
  | some q :: r, h, e => ⟨mx_ge h q, lift_told e⟩
/-! ### by their places -/
/-- the greatest one told ahead of place i -/
def hiAt (h : Rat) : List (Option Rat) → Nat → Rat
  | _, 0 => h
  | [], _ + 1 => h
  | none :: r, i + 1 => hiAt h r i
  | some q :: r, i + 1 => hiAt (mx h q) r i
theorem lift_none : ∀ {L : List (Option Rat)} {h : Rat} {i : Nat}, L[i]? = some none → (lift h L)[i]? = some none ∧ hiAt h L (i + 1) = hiAt h L i
  | [], _, _, e => by simp at e
  | none :: r, h, 0, _ => ⟨rfl, by cases r <;> rfl⟩
  | some q :: r, _, 0, e => by simp at e
  | none :: r, h, i + 1, e => by
    have g := lift_none (L := r) (h := h) (i := i) (by simpa using e)
    exact ⟨g.1, g.2⟩
  | some q :: r, h, i + 1, e => by
    have g := lift_none (L := r) (h := mx h q) (i := i) (by simpa using e)
    exact ⟨g.1, g.2⟩
theorem lift_some : ∀ {L : List (Option Rat)} {h q : Rat} {i : Nat}, L[i]? = some (some q) → (lift h L)[i]? = some (some (mx (hiAt h L i) q)) ∧ hiAt h L (i + 1) = mx (hiAt h L i) q
  | [], _, _, _, e => by simp at e
  | none :: r, h, _, 0, e => by simp at e
  | some u :: r, h, q, 0, e => by
    have : u = q := by simpa using e
    subst this
    exact ⟨rfl, by cases r <;> rfl⟩
  | none :: r, h, q, i + 1, e => by
    have g := lift_some (L := r) (h := h) (q := q) (i := i) (by simpa using e)
    exact ⟨g.1, g.2⟩
  | some u :: r, h, q, i + 1, e => by
    have g := lift_some (L := r) (h := mx h u) (q := q) (i := i) (by simpa using e)
    exact ⟨g.1, g.2⟩
/-- the value ahead of place i -/
def preAt (p : Rat) (L : List (Option Rat)) : Nat → Rat
  | 0 => p
  | i + 1 => (spr p L)[i]?.getD 0
theorem spr_at : ∀ {L : List (Option Rat)} {p : Rat} {i : Nat} {x : Option Rat}, L[i]? = some x →
    (spr p L)[i]? = some (x.getD (preAt p L i + ((nxt (L.drop (i + 1))).2 - preAt p L i) / ((nxt (L.drop (i + 1))).1 + 1 : Nat)))
  | [], _, _, _, e => by simp at e
  | x :: r, p, 0, y, e => by
    have : x = y := by simpa using e
    subst this
    cases x with
    | none => rfl
    | some q => rfl
  | x :: r, p, i + 1, y, e => by
    have e' : r[i]? = some y := by simpa using e
    have g : ∀ u, (spr p (x :: r)) = u :: spr u r → (spr p (x :: r))[i + 1]? = some (y.getD (preAt p (x :: r) (i + 1) + ((nxt ((x :: r).drop (i + 1 + 1))).2 - preAt p (x :: r) (i + 1)) / ((nxt ((x :: r).drop (i + 1 + 1))).1 + 1 : Nat))) := by
      intro u hu
      have h := spr_at (L := r) (p := u) (i := i) e'
      have ep : preAt p (x :: r) (i + 1) = preAt u r i := by
        cases i with
        | zero => show (spr p (x :: r))[0]?.getD 0 = u; rw [hu]; rfl
        | succ j => show (spr p (x :: r))[j + 1]?.getD 0 = (spr u r)[j]?.getD 0; rw [hu]; rfl
      rw [ep, hu]
      exact h
    cases x with
    | none => exact g _ rfl
    | some q => exact g _ rfl
/-- where the next told one lies -/
theorem nxt_at : ∀ {L : List (Option Rat)}, EndTold L → L ≠ [] → ∃ q, L[(nxt L).1 - 1]? = some (some q) ∧ (nxt L).2 = q ∧ 0 < (nxt L).1 ∧ ∀ j, j + 1 < (nxt L).1 → L[j]? = some none
  | [], _, h => absurd rfl h
  | some q :: r, _, _ => ⟨q, rfl, rfl, Nat.one_pos, fun j h => by
      have : (nxt (some q :: r)).1 = 1 := rfl
      omega⟩
  | none :: r, e, _ => by
    obtain ⟨q, h1, h2, h3, h4⟩ := nxt_at e.2 e.1
    have e1 : (nxt (none :: r)).1 = (nxt r).1 + 1 := rfl
    refine ⟨q, ?_, h2, by omega, fun j hj => ?_⟩
    · rw [e1]
      have : (nxt r).1 + 1 - 1 = ((nxt r).1 - 1) + 1 := by omega
      rw [this]
      simpa using h1
    · cases j with
      | zero => rfl
      | succ j => simpa using h4 j (by omega)
/-! ### sizes -/
def Form (n N : Nat) (q : Rat) : Prop := ∃ (a b : Rat) (c j : Nat), Bd n a ∧ Bd n b ∧ 0 < c ∧ c ≤ N ∧ j ≤ c ∧ q = a + (j : Rat) * ((b - a) / (c : Rat))
theorem Form.of {n N : Nat} {q : Rat} (h : Bd n q) (hN : 0 < N) : Form n N q := ⟨q, q, 1, 0, h, h, Nat.one_pos, hN, by omega, by
  have : ((0 : Nat) : Rat) = 0 := rfl
  rw [this]
  grind⟩
theorem nxt_le : ∀ {L : List (Option Rat)}, EndTold L → L ≠ [] → (nxt L).1 ≤ L.length
  | [], _, h => absurd rfl h
  | some q :: r, _, _ => by
    show 1 ≤ (some q :: r).length
    simp
  | none :: r, e, _ => by
    have := nxt_le e.2 e.1
    show (nxt r).1 + 1 ≤ (none :: r).length
    simp only [List.length_cons]
    omega
theorem nxt_pos (L : List (Option Rat)) : 0 < (nxt L).1 := by
  cases L with
  | nil => exact Nat.one_pos
  | cons x r =>
    cases x with
    | none => exact Nat.succ_pos _
    | some q => exact Nat.one_pos
theorem step_eq {a b J M C p : Rat} (hM : M ≠ 0) (hC : C = J + M) (c0 : C ≠ 0) (hp : p = a + J * ((b - a) / C)) : p + (b - p) / M = a + (J + 1) * ((b - a) / C) := by
  subst hp hC
  grind
theorem nxt_mem {n : Nat} : ∀ {L : List (Option Rat)}, EndTold L → L ≠ [] → (∀ q, some q ∈ L → Bd n q) → Bd n (nxt L).2
  | [], _, h, _ => absurd rfl h
  | some q :: r, _, _, b => b q (by simp)
  | none :: r, e, _, b => show Bd n (nxt r).2 from nxt_mem e.2 e.1 fun q hq => b q (by simp [hq])
theorem spr_form {n N : Nat} (hN : 0 < N) : ∀ {L : List (Option Rat)} {p : Rat}, EndTold L → L.length ≤ N → (∀ q, some q ∈ L → Bd n q) →
    (Bd n p ∨ ∃ (a b : Rat) (c j : Nat), Bd n a ∧ Bd n b ∧ j < c ∧ c ≤ N ∧ p = a + (j : Rat) * ((b - a) / (c : Rat)) ∧ nxt L = (c - j, b)) → ∀ q ∈ spr p L, Form n N q
  | [], _, _, _, _, _ => fun q hq => by simp [spr] at hq
  | some u :: r, p, e, l, b, _ => fun q hq => by
    have hu : Bd n u := b u (by simp)
    have hq' : q = u ∨ q ∈ spr u r := by simpa [spr] using hq
    rcases hq' with rfl | hq'
    · exact Form.of hu hN
    · exact spr_form hN (L := r) e (by simp at l; omega) (fun q hq => b q (by simp [hq])) (.inl hu) q hq'
  | none :: r, p, e, l, b, i => fun q hq => by
    have bL : ∃ (a b : Rat) (c j : Nat), Bd n a ∧ Bd n b ∧ j < c ∧ c ≤ N ∧ p = a + (j : Rat) * ((b - a) / (c : Rat)) ∧ nxt (none :: r) = (c - j, b) := by
      rcases i with hp | h
      · refine ⟨p, (nxt r).2, (nxt r).1 + 1, 0, hp, nxt_mem e.2 e.1 (fun q hq => b q (by simp [hq])), by omega, ?_, ?_, rfl⟩
        · have := nxt_le e.2 e.1
          simp only [List.length_cons] at l
          omega
        · have : ((0 : Nat) : Rat) = 0 := rfl
          rw [this]
          grind
      · exact h
    obtain ⟨a, v, c, j, ha, hv, jc, cN, ep, en⟩ := bL
    have e1 : (nxt r).1 + 1 = c - j := congrArg Prod.fst en
    have e2 : (nxt r).2 = v := congrArg Prod.snd en
    have np := nxt_pos r
    have eu : p + ((nxt r).2 - p) / (((nxt r).1 + 1 : Nat) : Rat) = a + ((j + 1 : Nat) : Rat) * ((v - a) / (c : Rat)) := by
      rw [e1, e2]
      have ec : (c : Rat) = (j : Rat) + ((c - j : Nat) : Rat) := by
        rw [← Rat.natCast_add]
        exact congrArg _ (by omega)
      have m0 : ((c - j : Nat) : Rat) ≠ 0 := by exact_mod_cast (by omega : c - j ≠ 0)
      have c0 : (c : Rat) ≠ 0 := by exact_mod_cast (by omega : c ≠ 0)
      have ej : ((j + 1 : Nat) : Rat) = (j : Rat) + 1 := by rw [Rat.natCast_add]; rfl
      rw [ej]
      exact step_eq m0 ec c0 ep
    rw [spr_none, eu] at hq
    rcases List.mem_cons.mp hq with rfl | hq'
    · exact ⟨a, v, c, j + 1, ha, hv, by omega, cN, by omega, rfl⟩
    · refine spr_form hN (L := r) e.2 (by simp only [List.length_cons] at l; omega) (fun q hq => b q (by simp [hq])) (.inr ⟨a, v, c, j + 1, ha, hv, by omega, cN, rfl, ?_⟩) q hq'
      have : nxt r = ((nxt r).1, (nxt r).2) := rfl
      rw [this, e2]
      congr 1
      omega
theorem Form.bd {n m N : Nat} {q : Rat} (h : Form n N q) (hN : N < 2 ^ m) (hm : 0 < m) : Bd (n + (m + (n + n + 1 + m)) + 1) q := by
  obtain ⟨a, b, c, j, ha, hb, c0, cN, jc, rfl⟩ := h
  have hj : Bd m (j : Rat) := by
    have : (j : Rat) = ((j : Int) : Rat) := rfl
    rw [this]
    exact ⟨by rw [Rat.num_intCast, Int.natAbs_natCast]; omega, by rw [Rat.den_intCast]; exact Nat.one_lt_two_pow (by omega)⟩
  have hd := Bd.sub hb ha
  have hc : Bd (n + n + 1 + m) ((b - a) / (c : Rat)) := by
    have e := d_div (b - a) (c : Rat)
    have n1 : ((c : Rat)).num = (c : Int) := rfl
    have n2 : ((c : Rat)).den = 1 := rfl
    rw [n1, n2] at e
    rw [← e]
    have hp : 0 < (b - a).den := den_pos _
    rw [show ((b - a).den : Int) * (c : Int) = (((b - a).den * c : Nat) : Int) from (Int.natCast_mul _ _).symm, Rat.divInt_ofNat]
    refine Bd.mk (Nat.mul_ne_zero (by omega) (by omega)) (pow_up (n := n + n + 1) ?_ (by omega)) (ndm hd.2 (by omega))
    have := hd.1
    simpa using this
  exact Bd.add ha (Bd.mul hj hc)
end FC

namespace FC
open PySem L2
def spIsLess (K : PySem.W.Frag) : Sp := fun vs H Q _ => ∃ (a b : Addr) (p q : Rat), vs = [.ref a, .ref b] ∧ SqT K H a (fr p) ∧ SqT K H b (fr q) ∧ Sm p ∧ Sm q ∧ Q (.bl (decide (p < q))) H
def spMost2 (K : PySem.W.Frag) : Sp := fun vs H Q _ => ∃ (a b : Addr) (p q : Rat), vs = [.ref a, .ref b] ∧ SqT K H a (fr p) ∧ SqT K H b (fr q) ∧ Sm p ∧ Sm q ∧ (p < q → Q (.ref b) H) ∧ (¬ p < q → Q (.ref a) H)
theorem eqDS_ {K : PySem.W.Frag} {H : Hp} {Q : VK} {a : Addr} {p : Rat} (h1 : SqT K H a (fr p)) (k : Q (.bl false) H) : rEqD K (.ref a) (.str "endless") H Q :=
  ⟨_, .str "endless", dp_fr h1, .str _, sh_fr p, by decide +kernel, by unfold frD; simp only [PyData.eqv]; exact k⟩
theorem isless_ {K : PySem.W.Frag} {H : Hp} {Q : VK} {E : XK} {a b : Addr} {p q : Rat} (h1 : SqT K H a (fr p)) (h2 : SqT K H b (fr q)) (h3 : Sm p) (h4 : Sm q) (k : Q (.bl (decide (p < q))) H) : spIsLess K [.ref a, .ref b] H Q E := ⟨a, b, p, q, rfl, h1, h2, h3, h4, k⟩
/-- a place that may lack -/
def Fo (K : PySem.W.Frag) (H : Hp) (y : V) : Option Rat → Prop
  | none => y = .non
  | some q => ∃ p, y = .ref p ∧ SqT K H p (fr q)
theorem Fo.tp {K : PySem.W.Frag} {H H' : Hp} {y : V} {x : Option Rat} (h : Fo K H y x) (t : Tp K H H') : Fo K H' y x := by
  cases x with
  | none => exact h
  | some q => obtain ⟨p, e, hp⟩ := h; exact ⟨p, e, t _ _ hp⟩
structure FoL (K : PySem.W.Frag) (H : Hp) (ys : List V) (L : List (Option Rat)) : Prop where
  len : ys.length = L.length
  at_ : ∀ (i : Nat) (y : V) (x : Option Rat), ys[i]? = some y → L[i]? = some x → Fo K H y x
theorem FoL.tp {K : PySem.W.Frag} {H H' : Hp} {ys : List V} {L : List (Option Rat)} (h : FoL K H ys L) (t : Tp K H H') : FoL K H' ys L := ⟨h.len, fun i y x a b => (h.at_ i y x a b).tp t⟩
theorem FoL.get {K : PySem.W.Frag} {H : Hp} {ys : List V} {L : List (Option Rat)} {i : Nat} {x : Option Rat} (h : FoL K H ys L) (hx : L[i]? = some x) : ∃ y, ys[i]? = some y ∧ Fo K H y x := by
  have hi := (List.getElem?_eq_some_iff.mp hx).1
  have hi' : i < ys.length := by rw [h.len]; exact hi
  exact ⟨ys[i], List.getElem?_eq_getElem hi', h.at_ i _ x (List.getElem?_eq_getElem hi') hx⟩
theorem FoL.set {K : PySem.W.Frag} {H : Hp} {ys : List V} {L : List (Option Rat)} {i : Nat} {y : V} {x : Option Rat} (h : FoL K H ys L) (hy : Fo K H y x) : FoL K H (ys.set i y) (L.set i x) := by
  refine ⟨by rw [List.length_set, List.length_set, h.len], fun j z u hz hu => ?_⟩
  rw [List.getElem?_set] at hz hu
  by_cases e : i = j
  · subst e
    rw [if_pos rfl] at hz hu
    by_cases l : i < ys.length
    · rw [if_pos l] at hz
      rw [if_pos (by rw [← h.len]; exact l)] at hu
      obtain rfl := Option.some.inj hz
      obtain rfl := Option.some.inj hu
      exact hy
    · rw [if_neg l] at hz
      cases hz
  · rw [if_neg e] at hz hu
    exact h.at_ j z u hz hu
/-- a point: its value, its place -/
def Pt (K : PySem.W.Frag) (H : Hp) (y : V) (p : Rat × Option Rat) : Prop := ∃ a yv yx pv, y = .ref a ∧ SqT K H a [yv, yx] ∧ yv = .ref pv ∧ SqT K H pv (fr p.1) ∧ Fo K H yx p.2
theorem Pt.tp {K : PySem.W.Frag} {H H' : Hp} {y : V} {p : Rat × Option Rat} (h : Pt K H y p) (t : Tp K H H') : Pt K H' y p := by
  obtain ⟨a, yv, yx, pv, e1, h1, e2, h2, h3⟩ := h
  exact ⟨a, yv, yx, pv, e1, t _ _ h1, e2, t _ _ h2, h3.tp t⟩
structure PtL (K : PySem.W.Frag) (H : Hp) (ys : List V) (P : List (Rat × Option Rat)) : Prop where
  len : ys.length = P.length
  at_ : ∀ (i : Nat) (y : V) (x : Rat × Option Rat), ys[i]? = some y → P[i]? = some x → Pt K H y x
/-- the ends told -/
def fillE (L : List (Option Rat)) : List (Option Rat) :=
  let L1 := if L[L.length - 1]? = some none ∧ 1 < L.length then L.set (L.length - 1) (some 1) else L
  if L1[0]? = some none then L1.set 0 (some 0) else L1
def headQ (L : List (Option Rat)) : Rat := (L[0]?.getD none).getD 0
def settle (L : List (Option Rat)) : List Rat := spr (headQ (fillE L)) (lift (headQ (fillE L)) (fillE L))
def spInputs (K : PySem.W.Frag) : Sp := fun vs H Q _ => ∃ (t : Addr) (pts : List V) (P : List (Rat × Option Rat)), vs = [.ref t] ∧ SqT K H t pts ∧ PtL K H pts P ∧ 0 < P.length ∧ P.length ≤ 200 ∧ (∀ q, some q ∈ P.map (·.2) → Bd 60 q) ∧
  ∀ D ys H', H D = none → Same H H' → H' D = some (.lst ys) → FrL K H' ys (settle (P.map (·.2))) → Q (.ref D) H'
theorem Fo.non {K : PySem.W.Frag} {H : Hp} {y : V} {x : Option Rat} (h : Fo K H y x) : decide (y = .non) = decide (x = none) := by
  cases x with
  | none => rw [show y = .non from h]; rfl
  | some q => obtain ⟨p, e, _⟩ := h; rw [e]; rfl
theorem atI_of {zs : List V} {i : Int} {j : Nat} {y : V} (hi : ixN zs.length i = some j) (hy : zs[j]? = some y) : atI zs i = some y := by
  unfold atI
  rw [hi]
  exact hy
/-- one entry of a list that is made, set -/
theorem setL_ {K : PySem.W.Frag} {H : Hp} {P : Hp → Prop} {D : Addr} {zs : List V} {L : List (Option Rat)} {i : Int} {j : Nat} {y : V} {x : Option Rat} (hH : H D = some (.lst zs)) (F : FoL K H zs L) (hi : ixN zs.length i = some j) (hy : Fo K H y x)
    (q : ∀ H', H' D = some (.lst (zs.set j y)) → FoL K H' (zs.set j y) (L.set j x) → Frm D H H' → P H') : rSetL (.ref D) (.int i) y H P :=
  ⟨D, zs, i, j, rfl, rfl, hH, hi, q _ upd_same ((F.set hy).tp (Tp.lst hH)) upd_frm⟩
theorem ixN_last {n : Nat} (h : 0 < n) : ixN n (-1) = some (n - 1) := by
  unfold ixN
  rw [if_neg (by omega), if_pos (by omega)]
  congr 1
  omega
theorem ixN_first {n : Nat} (h : 0 < n) : ixN n 0 = some 0 := by
  unfold ixN
  rw [if_pos (by omega), if_pos (by omega)]
  rfl
theorem ixN_at {n j : Nat} (h : j < n) : ixN n (j : Int) = some j := by
  unfold ixN
  rw [if_pos (by omega), if_pos (by omega)]
  congr 1
/-- a statement that sets an end: told anew, or as it is -/
theorem fill_ {K : PySem.W.Frag} {Dn : Ends} {σ : L2.St} {H : Hp} {tt : TT} {ta tb ti : TE} {D : Addr} {zs : List V} {L : List (Option Rat)} {i : Int} {j : Nat} {y : V} {x : Option Rat} {u : Rat} (b : Bool)
    (h1 : ∀ P : Bool → Hp → Prop, P b H → tt σ H P) (h2 : b = true → ∀ Q : VK, (∀ p H', H p = none → Same H H' → SqT K H' p (fr u) → Q (.ref p) H') → ta σ H Q) (h3 : b = false → ∀ Q : VK, Q y H → tb σ H Q)
    (hv : ∀ (H : Hp) (Q : VK), Q (.ref D) H → tVar 1 σ H Q) (ht : ∀ (H : Hp) (Q : VK), Q (.int i) H → ti σ H Q)
    (hH : H D = some (.lst zs)) (F : FoL K H zs L) (hi : ixN zs.length i = some j) (hx : L[j]? = some x) (hy : zs[j]? = some y)
    (k : ∀ zs' H', H' D = some (.lst zs') → FoL K H' zs' (if b = true then L.set j (some u) else L) → Frm D H H' → Dn.nx σ H') :
    tAsg (tIf tt ta tb) (gSub (tVar 1) ti rSetL) Dn σ H := by
  refine xasg (xif (h1 _ ?_))
  cases b with
  | true =>
    rw [if_pos rfl]
    refine h2 rfl _ fun p H' n e hp => ?_
    refine xsub (hv _ _ (ht _ _ ?_))
    have hH' : H' D = some (.lst zs) := e _ _ hH
    exact setL_ hH' (F.tp (Tp.same e)) hi (x := some u) ⟨p, rfl, hp⟩ fun H2 a1 a2 a3 => k _ H2 a1 (by rw [if_pos rfl]; exact a2) ((Frm.of e).trans a3)
  | false =>
    rw [if_neg Bool.false_ne_true]
    refine h3 rfl _ ?_
    refine xsub (hv _ _ (ht _ _ ?_))
    refine setL_ hH F hi (x := x) (F.at_ j y x hy hx) fun H2 a1 a2 a3 => k _ H2 a1 ?_ a3
    rw [if_neg Bool.false_ne_true]
    have e : L.set j x = L := by
      obtain ⟨hj, ej⟩ := List.getElem?_eq_some_iff.mp hx
      rw [← ej]
      exact List.set_getElem_self hj
    rw [e] at a2
    exact a2
theorem endTold_of : ∀ {L : List (Option Rat)} {q : Rat}, L[L.length - 1]? = some (some q) → EndTold L
  | [], _, _ => trivial
  | [none], _, h => by simp at h
  | [some _], _, _ => trivial
  | none :: x :: r, q, h => ⟨List.cons_ne_nil _ _, endTold_of (L := x :: r) (q := q) (by simpa using h)⟩
  | some u :: x :: r, q, h => show EndTold (x :: r) from endTold_of (L := x :: r) (q := q) (by simpa using h)
theorem fillE_len (L : List (Option Rat)) : (fillE L).length = L.length := by
  unfold fillE
  simp only
  split <;> split <;> simp
theorem fillE_mem {L : List (Option Rat)} {q : Rat} (h : some q ∈ fillE L) : some q ∈ L ∨ q = 0 ∨ q = 1 := by
  have g : ∀ {M : List (Option Rat)} {j : Nat} {u : Rat}, some q ∈ M.set j (some u) → some q ∈ M ∨ q = u := by
    intro M j u h
    rcases List.mem_or_eq_of_mem_set h with h | h
    · exact .inl h
    · exact .inr (Option.some.inj h)
  have g1 : some q ∈ (if L[L.length - 1]? = some none ∧ 1 < L.length then L.set (L.length - 1) (some 1) else L) → some q ∈ L ∨ q = 0 ∨ q = 1 := by
    split
    · intro h
      rcases g h with h | h
      · exact .inl h
      · exact .inr (.inr h)
    · exact .inl
  unfold fillE at h
  simp only at h
  revert h g1
  generalize (if L[L.length - 1]? = some none ∧ 1 < L.length then L.set (L.length - 1) (some 1) else L) = M
  intro h g1
  split at h
  · rcases g h with h | h
    · exact g1 h
    · exact .inr (.inl h)
  · exact g1 h
theorem mx_bd {n : Nat} {h q : Rat} (a : Bd n h) (b : Bd n q) : Bd n (mx h q) := by
  unfold mx
  split <;> assumption
theorem hiAt_bd {n : Nat} : ∀ {L : List (Option Rat)} {h : Rat} {i : Nat}, Bd n h → (∀ q, some q ∈ L → Bd n q) → Bd n (hiAt h L i)
  | [], h, 0, a, _ => a
  | [], h, i + 1, a, _ => a
  | x :: r, h, 0, a, _ => by cases x <;> exact a
  | none :: r, h, i + 1, a, b => hiAt_bd (L := r) a fun q hq => b q (by simp [hq])
  | some u :: r, h, i + 1, a, b => hiAt_bd (L := r) (mx_bd a (b u (by simp))) fun q hq => b q (by simp [hq])
theorem lift_bd {n : Nat} : ∀ {L : List (Option Rat)} {h : Rat}, Bd n h → (∀ q, some q ∈ L → Bd n q) → ∀ q, some q ∈ lift h L → Bd n q
  | [], h, _, _, q, hq => by simp [lift] at hq
  | none :: r, h, a, b, q, hq => lift_bd (L := r) a (fun q hq => b q (by simp [hq])) q (by simpa [lift] using hq)
  | some u :: r, h, a, b, q, hq => by
    have m := mx_bd a (b u (by simp))
    have hq' : q = mx h u ∨ some q ∈ lift (mx h u) r := by simpa [lift] using hq
    rcases hq' with rfl | hq'
    · exact m
    · exact lift_bd (L := r) m (fun q hq => b q (by simp [hq])) q hq'
/-- the first ones of A, the others of B -/
def mixL {α : Type} (A B : List α) (i : Nat) : List α := A.take i ++ B.drop i
theorem mixL_zero {α : Type} (A B : List α) : mixL A B 0 = B := by simp [mixL]
theorem mixL_all {α : Type} {A B : List α} (h : A.length = B.length) : mixL A B B.length = A := by
  unfold mixL
  rw [List.drop_length, List.append_nil, ← h, List.take_length]
theorem mixL_len {α : Type} {A B : List α} (h : A.length = B.length) (i : Nat) : (mixL A B i).length = B.length := by
  unfold mixL
  rw [List.length_append, List.length_take, List.length_drop]
  omega
theorem mixL_same {α : Type} {A B : List α} {i : Nat} {a : α} (h1 : A[i]? = some a) (h2 : B[i]? = some a) : mixL A B (i + 1) = mixL A B i := by
  obtain ⟨l1, e1⟩ := List.getElem?_eq_some_iff.mp h1
  obtain ⟨l2, e2⟩ := List.getElem?_eq_some_iff.mp h2
  unfold mixL
  rw [← List.take_append_getElem l1, e1, List.append_assoc]
  rw [show B.drop i = a :: B.drop (i + 1) by rw [List.drop_eq_getElem_cons l2, e2]]
  rfl
theorem mixL_set {α : Type} {A B : List α} {i : Nat} {a : α} (h : A.length = B.length) (h1 : A[i]? = some a) : mixL A B (i + 1) = (mixL A B i).set i a := by
  obtain ⟨l1, e1⟩ := List.getElem?_eq_some_iff.mp h1
  have l2 : i < B.length := by omega
  unfold mixL
  rw [← List.take_append_getElem l1, e1, List.append_assoc, List.set_append]
  have e : (A.take i).length = i := by rw [List.length_take]; omega
  rw [e, if_neg (by omega), Nat.sub_self, List.drop_eq_getElem_cons l2]
  rfl
theorem mixL_at {α : Type} {A B : List α} {i j : Nat} (h : A.length = B.length) (hi : i ≤ B.length) : (mixL A B i)[j]? = if j < i then A[j]? else B[j]? := by
  unfold mixL
  have e : (A.take i).length = i := by rw [List.length_take]; omega
  by_cases l : j < i
  · rw [if_pos l, List.getElem?_append_left (by omega), List.getElem?_take, if_pos l]
  · rw [if_neg l, List.getElem?_append_right (by omega), e, List.getElem?_drop]
    congr 1
    omega
theorem most_ {K : PySem.W.Frag} {H : Hp} {Q : VK} {E : XK} {a b : Addr} {p q : Rat} (h1 : SqT K H a (fr p)) (h2 : SqT K H b (fr q)) (h3 : Sm p) (h4 : Sm q) (k : ∀ c, SqT K H c (fr (mx p q)) → Q (.ref c) H) : spMost2 K [.ref a, .ref b] H Q E :=
  ⟨a, b, p, q, rfl, h1, h2, h3, h4, fun c => k b (by unfold mx; rw [if_pos c]; exact h2), fun c => k a (by unfold mx; rw [if_neg c]; exact h1)⟩
theorem set_at {L : List (Option Rat)} {i j : Nat} {x : Option Rat} (hj : j < L.length) : (L.set i x)[j]? = if i = j then some x else L[j]? := by
  rw [List.getElem?_set]
  by_cases e : i = j
  · subst e
    rw [if_pos rfl, if_pos rfl, if_pos hj]
  · rw [if_neg e, if_neg e]
theorem fillE_head {L : List (Option Rat)} (h0 : 0 < L.length) : (fillE L)[0]? = some (some (headQ (fillE L))) := by
  have : ∃ q, (fillE L)[0]? = some (some q) := by
    unfold fillE
    simp only
    generalize hM : (if L[L.length - 1]? = some none ∧ 1 < L.length then L.set (L.length - 1) (some 1) else L) = M
    have hl : M.length = L.length := by rw [← hM]; split <;> simp
    split
    · exact ⟨0, by rw [set_at (by omega), if_pos rfl]⟩
    · rename_i h
      have e := List.getElem?_eq_getElem (l := M) (i := 0) (by omega)
      cases z : M[0]'(by omega) with
      | none => rw [z] at e; exact (h e).elim
      | some q => rw [z] at e; exact ⟨q, e⟩
  obtain ⟨q, e⟩ := this
  unfold headQ
  rw [e] <;> rfl
theorem fillE_end {L : List (Option Rat)} (h0 : 0 < L.length) : EndTold (fillE L) := by
  have : ∃ q, (fillE L)[(fillE L).length - 1]? = some (some q) := by
    rw [fillE_len]
    by_cases h1 : L.length = 1
    · rw [h1]
      exact ⟨_, fillE_head h0⟩
    · unfold fillE
      simp only
      generalize hM : (if L[L.length - 1]? = some none ∧ 1 < L.length then L.set (L.length - 1) (some 1) else L) = M
      have hl : M.length = L.length := by rw [← hM]; split <;> simp
      have hm : ∃ q, M[L.length - 1]? = some (some q) := by
        rw [← hM]
        split
        · exact ⟨1, by rw [set_at (by omega), if_pos rfl]⟩
        · rename_i h
          have e := List.getElem?_eq_getElem (l := L) (i := L.length - 1) (by omega)
          cases z : L[L.length - 1]'(by omega) with
          | none => rw [z] at e; exact (h ⟨e, by omega⟩).elim
          | some q => rw [z] at e; exact ⟨q, e⟩
      obtain ⟨q, hq⟩ := hm
      split
      · exact ⟨q, by rw [set_at (by omega), if_neg (by omega)]; exact hq⟩
      · exact ⟨q, hq⟩
  obtain ⟨q, e⟩ := this
  exact endTold_of e
/-- for i, x in enumerate(a list that stays) -/
def ForE (K : PySem.W.Frag) (g : TG) (tb : TS) (D : Ends) (σ : L2.St) : List V → Hp → Prop := fun vs H1 => ∃ a xs, vs = [.ref a] ∧ SqL K H1 a xs ∧ ∃ W : Nat → Nat → L2.St → Hp → Prop, (∃ m, W 0 m σ H1) ∧ ∀ i m σ H, W i m σ H →
  ((Ite K a).stop i H ∧ D.nx σ H) ∨ ((Ite K a).go i H ∧ ∃ N : L2.St → Hp → Prop, (∀ σ' H', N σ' H' → ∃ m', m' < m ∧ W (i + 1) m' σ' H') ∧ ∀ x H', (Ite K a).yld i H x H' → g x σ H' fun σ2 H2 => tb { D with nx := N, ct := N, bk := D.nx } σ2 H2)
theorem xforE {K : PySem.W.Frag} {σ : L2.St} {H : Hp} {D : Ends} {g : TG} {tb : TS} {ta : TA} (q : ta σ H (ForE K g tb D σ)) : tFor (iEnum K ta) g tb D σ H := q
theorem forE_ {K : PySem.W.Frag} {σ : L2.St} {H : Hp} {D : Ends} {g : TG} {tb : TS} {b : Addr} {xs : List V} (h : SqL K H b xs) (Pv : Nat → L2.St → Hp → Prop) (h0 : Pv 0 σ H) (hl : ∀ i σ H, i ≤ xs.length → Pv i σ H → SqL K H b xs)
    (hs : ∀ i x σ H T H', xs[i]? = some x → Pv i σ H → H T = none → Same H H' → H' T = some (.tup [.int (i : Nat), x]) → g (.ref T) σ H' fun σ2 H2 => tb { D with nx := Pv (i + 1), ct := Pv (i + 1), bk := D.nx } σ2 H2) (hd : ∀ σ H, Pv xs.length σ H → D.nx σ H) : ForE K g tb D σ [.ref b] H := by
  refine ⟨b, xs, rfl, h, fun i m σ H => m = xs.length - i ∧ i ≤ xs.length ∧ Pv i σ H, ⟨xs.length, by simp, Nat.zero_le _, h0⟩, ?_⟩
  rintro i m σ H ⟨rfl, hi, p⟩
  have q := hl i σ H hi p
  by_cases hlt : i < xs.length
  · refine .inr ⟨⟨xs, xs[i], q, by simp [hlt]⟩, Pv (i + 1), fun σ' H' p' => ⟨xs.length - (i + 1), by omega, rfl, hlt, p'⟩, fun x H' y => ?_⟩
    obtain ⟨T, z, rfl, hT, rfl, y⟩ := y
    exact hs i z σ H T _ (y xs q) p hT (same_upd hT) upd_same
  · have e : i = xs.length := by omega
    subst e
    exact .inl ⟨⟨xs, q, Nat.le_refl _⟩, hd σ H p⟩
theorem Bd.divN {a m : Nat} {p : Rat} {c : Nat} (h : Bd a p) (hc : c < 2 ^ m) (c0 : 0 < c) : Bd (a + m) (p / (c : Rat)) := by
  have e := d_div p (c : Rat)
  have n1 : ((c : Rat)).num = (c : Int) := rfl
  have n2 : ((c : Rat)).den = 1 := rfl
  rw [n1, n2] at e
  rw [← e]
  have hp : 0 < p.den := den_pos _
  rw [show (p.den : Int) * (c : Int) = ((p.den * c : Nat) : Int) from (Int.natCast_mul _ _).symm, Rat.divInt_ofNat]
  refine Bd.mk (Nat.mul_ne_zero (by omega) (by omega)) (pow_up (n := a) ?_ (by omega)) (ndm h.2 hc)
  have := h.1
  simpa using this
theorem frmL {K : PySem.W.Frag} {D b : Addr} {H H' : Hp} {zs xs : List V} (f : Frm D H H') (w : H D = some (.lst zs)) (h : SqT K H b xs) : SqT K H' b xs := by
  rcases h with (h | ⟨o, h⟩) | h
  · exact .inl (.inl (f _ _ (ne_of h w (by intro z; cases z)) h))
  · exact .inl (.inr ⟨o, f _ _ (ne_of h w (by intro z; cases z)) h⟩)
  · exact .inr h
theorem endTold_drop : ∀ {L : List (Option Rat)} {i : Nat}, EndTold L → EndTold (L.drop i)
  | L, 0, h => by simpa using h
  | [], i + 1, h => by simpa using h
  | none :: r, i + 1, h => by simpa using endTold_drop (L := r) (i := i) h.2
  | some q :: r, i + 1, h => by simpa using endTold_drop (L := r) (i := i) h
theorem lift_end : ∀ {L : List (Option Rat)} {h : Rat}, EndTold L → EndTold (lift h L)
  | [], _, _ => trivial
  | none :: r, h, e => ⟨lift_ne e.1, lift_end e.2⟩
  | some q :: r, h, e => show EndTold (lift (mx h q) r) from lift_end (L := r) e
end FC

/-! ### the value of a line through settled points -/
namespace FC
/-- the last place, of the first m, that is not behind x; 0 if there is none -/
def lastLe (S : List Rat) (x : Rat) : Nat → Nat
  | 0 => 0
  | m + 1 => if x < S[m]?.getD 0 then lastLe S x m else m
def vAt (P : List (Rat × Option Rat)) (k : Nat) : Rat := (P[k]?.getD (0, none)).1
def linAt (P : List (Rat × Option Rat)) (S : List Rat) (x : Rat) (k : Nat) : Rat :=
  if S[k]?.getD 0 = S[k + 1]?.getD 0 then vAt P (k + 1)
  else vAt P k + (vAt P (k + 1) - vAt P k) * ((x - S[k]?.getD 0) / (S[k + 1]?.getD 0 - S[k]?.getD 0))
def lin (P : List (Rat × Option Rat)) (x : Rat) : Rat :=
  if P.length = 1 then vAt P 0 else linAt P (settle (P.map (·.2))) x (lastLe (settle (P.map (·.2))) x (P.length - 1))
theorem lastLe_lt {S : List Rat} {x : Rat} : ∀ {m : Nat}, 0 < m → lastLe S x m < m
  | 0, h => absurd h (by omega)
  | m + 1, _ => by
    unfold lastLe
    split
    · rcases Nat.eq_zero_or_pos m with h | h
      · subst h
        exact Nat.one_pos
      · have := lastLe_lt (S := S) (x := x) h
        omega
    · omega
theorem lastLe_eq {S : List Rat} {x : Rat} : ∀ {m k : Nat}, k < m → (k = 0 ∨ ¬ x < S[k]?.getD 0) → (∀ j, k < j → j < m → x < S[j]?.getD 0) → lastLe S x m = k
  | 0, k, h, _, _ => absurd h (by omega)
  | m + 1, k, h, h0, h1 => by
    unfold lastLe
    by_cases e : k = m
    · subst e
      split
      · rename_i hx
        rcases h0 with rfl | h0
        · rfl
        · exact absurd hx h0
      · rfl
    · have hm := h1 m (by omega) (by omega)
      rw [if_pos hm]
      exact lastLe_eq (by omega) h0 fun j a b => h1 j a (by omega)
/-! rising, by places -/
theorem up_at : ∀ {L : List Rat} {p : Rat}, Up p L → ∀ {i : Nat} {q : Rat}, L[i]? = some q → p ≤ q
  | [], _, _, _, _, h => by simp at h
  | u :: r, p, h, 0, q, e => by
    have : u = q := by simpa using e
    subst this
    exact h.1
  | u :: r, p, h, i + 1, q, e => Rat.le_trans h.1 (up_at h.2 (i := i) (by simpa using e))
theorem up_mono : ∀ {L : List Rat} {p : Rat}, Up p L → ∀ {i j : Nat} {a b : Rat}, i ≤ j → L[i]? = some a → L[j]? = some b → a ≤ b
  | [], _, _, _, _, _, _, _, h, _ => by simp at h
  | u :: r, p, h, 0, 0, a, b, _, e1, e2 => by
    rw [e1] at e2
    rw [Option.some.inj e2]
    exact Rat.le_refl
  | u :: r, p, h, 0, j + 1, a, b, _, e1, e2 => by
    have : u = a := by simpa using e1
    subst this
    exact up_at h.2 (i := j) (by simpa using e2)
  | u :: r, p, h, i + 1, 0, a, b, l, e1, e2 => absurd l (by omega)
  | u :: r, p, h, i + 1, j + 1, a, b, l, e1, e2 => up_mono h.2 (i := i) (j := j) (by omega) (by simpa using e1) (by simpa using e2)
/-! the settled inputs between two told ones -/
theorem spr_told {L : List (Option Rat)} {p q : Rat} {i : Nat} (h : L[i]? = some (some q)) : (spr p L)[i]? = some q := spr_at h
theorem nxt_drop {M : List (Option Rat)} {high : Nat} {hp : Rat} (hh : M[high]? = some (some hp)) : ∀ {d i : Nat}, i + d = high → (∀ k, i ≤ k → k < high → M[k]? = some none) → nxt (M.drop i) = (d + 1, hp)
  | 0, i, e, _ => by
    have : i = high := by omega
    subst this
    obtain ⟨l, e2⟩ := List.getElem?_eq_some_iff.mp hh
    rw [List.drop_eq_getElem_cons l, e2] <;> rfl
  | d + 1, i, e, h => by
    obtain ⟨l, e2⟩ := List.getElem?_eq_some_iff.mp (h i (Nat.le_refl _) (by omega))
    have ih := nxt_drop hh (d := d) (i := i + 1) (by omega) fun k a b => h k (by omega) b
    rw [List.drop_eq_getElem_cons l, e2]
    show ((nxt (M.drop (i + 1))).1 + 1, (nxt (M.drop (i + 1))).2) = _
    rw [ih]
theorem spr_between {M : List (Option Rat)} {p lp hp : Rat} {low high : Nat} (hl : M[low]? = some (some lp)) (hh : M[high]? = some (some hp)) (lt : low < high) (hn : ∀ k, low < k → k < high → M[k]? = some none) :
    ∀ j, j ≤ high - low → (spr p M)[low + j]? = some (lp + (j : Rat) * ((hp - lp) / ((high - low : Nat) : Rat)))
  | 0, _ => by
    have : ((0 : Nat) : Rat) = 0 := rfl
    rw [this, Nat.add_zero, spr_told hl]
    congr 1
    grind
  | j + 1, h => by
    have c0 : ((high - low : Nat) : Rat) ≠ 0 := by exact_mod_cast (by omega : high - low ≠ 0)
    have ej : ((j + 1 : Nat) : Rat) = (j : Rat) + 1 := by rw [Rat.natCast_add]; rfl
    by_cases e : j + 1 = high - low
    · have : low + (j + 1) = high := by omega
      rw [this, spr_told hh, e]
      congr 1
      generalize ((high - low : Nat) : Rat) = C at *
      grind
    · have ih := spr_between (p := p) hl hh lt hn j (by omega)
      have hx := hn (low + (j + 1)) (by omega) (by omega)
      have nd := nxt_drop hh (d := high - (low + (j + 1) + 1)) (i := low + (j + 1) + 1) (by omega) fun k a b => hn k (by omega) b
      rw [spr_at hx, nd]
      have ep : preAt p M (low + (j + 1)) = lp + (j : Rat) * ((hp - lp) / ((high - low : Nat) : Rat)) := by
        show (spr p M)[low + j]?.getD 0 = _
        rw [ih] <;> rfl
      rw [ep]
      congr 1
      show lp + (j : Rat) * ((hp - lp) / ((high - low : Nat) : Rat)) + (hp - (lp + (j : Rat) * ((hp - lp) / ((high - low : Nat) : Rat)))) / ((high - (low + (j + 1) + 1) + 1 + 1 : Nat) : Rat) = _
      have ec : ((high - low : Nat) : Rat) = (j : Rat) + ((high - (low + (j + 1) + 1) + 1 + 1 : Nat) : Rat) := by
        rw [← Rat.natCast_add]
        exact congrArg _ (by omega)
      have m0 : ((high - (low + (j + 1) + 1) + 1 + 1 : Nat) : Rat) ≠ 0 := by exact_mod_cast (by omega : high - (low + (j + 1) + 1) + 1 + 1 ≠ 0)
      rw [ej]
      exact step_eq m0 ec c0 rfl
/-! the filled inputs and the lifted ones -/
def filled (P : List (Rat × Option Rat)) : List (Option Rat) := fillE (P.map (·.2))
def lifted (P : List (Rat × Option Rat)) : List (Option Rat) := lift (headQ (filled P)) (filled P)
theorem filled_len (P : List (Rat × Option Rat)) : (filled P).length = P.length := by
  unfold filled
  rw [fillE_len, List.length_map]
theorem lifted_len (P : List (Rat × Option Rat)) : (lifted P).length = P.length := by
  unfold lifted
  rw [lift_length, filled_len]
/-- where the stretch of told points lies -/
structure Tst (P : List (Rat × Option Rat)) (x : Rat) (low : Nat) (lp : Rat) (high : Nat) (hp : Rat) : Prop where
  lt : low < high
  le : high + 1 ≤ P.length
  hl : (lifted P)[low]? = some (some lp)
  hh : (lifted P)[high]? = some (some hp)
  no : ∀ k, low < k → k < high → (lifted P)[k]? = some none
  hx : low = 0 ∨ ¬ x < lp
  hy : x < hp ∨ high + 1 = P.length
theorem settle_eq (P : List (Rat × Option Rat)) : settle (P.map (·.2)) = spr (headQ (filled P)) (lifted P) := rfl
theorem settle_len (P : List (Rat × Option Rat)) : (settle (P.map (·.2))).length = P.length := by rw [settle_eq, spr_length, lifted_len]
theorem settle_up {P : List (Rat × Option Rat)} (h : 0 < P.length) : Up (headQ (filled P)) (settle (P.map (·.2))) := by
  rw [settle_eq]
  exact spr_up (lift_told (fillE_end (by rw [List.length_map]; exact h)))
theorem getD_of {α : Type} {l : List α} {i : Nat} {a d : α} (h : l[i]? = some a) : l[i]?.getD d = a := by rw [h] <;> rfl
/-- the place of the stretch, and its two ends -/
theorem Tst.find {P : List (Rat × Option Rat)} {x : Rat} {low high : Nat} {lp hp : Rat} (t : Tst P x low lp high hp) (g : Nat) (hg : g < high - low)
    (h1 : g = 0 ∨ ¬ x < lp + (g : Rat) * ((hp - lp) / ((high - low : Nat) : Rat))) (h2 : g + 1 = high - low ∨ x < lp + ((g + 1 : Nat) : Rat) * ((hp - lp) / ((high - low : Nat) : Rat))) :
    lastLe (settle (P.map (·.2))) x (P.length - 1) = low + g := by
  have bt := spr_between (p := headQ (filled P)) t.hl t.hh t.lt t.no
  rw [← settle_eq] at bt
  have up := settle_up (P := P) (by have := t.le; omega)
  have tle := t.le
  have tlt := t.lt
  have b0 := bt 0 (by omega)
  have bg := bt g (by omega)
  have bg1 := bt (g + 1) (by omega)
  refine lastLe_eq (by omega) ?_ ?_
  · rcases h1 with rfl | h1
    · rcases t.hx with h | h
      · exact .inl (by omega)
      · refine .inr ?_
        rw [getD_of bg]
        have : ((0 : Nat) : Rat) = 0 := rfl
        rw [this]
        intro z
        exact h (by grind)
    · exact .inr (by rw [getD_of bg]; exact h1)
  · intro j a b
    have hj : j < (settle (P.map (·.2))).length := by rw [settle_len]; omega
    have ej := List.getElem?_eq_getElem hj
    rw [getD_of ej]
    rcases h2 with h2 | h2
    · have bh := bt (high - low) (by omega)
      have e : low + (high - low) = high := by omega
      rw [e] at bh
      rcases t.hy with h | h
      · have m := up_mono up (i := high) (j := j) (by omega) bh ej
        have c0 : ((high - low : Nat) : Rat) ≠ 0 := by exact_mod_cast (by omega : high - low ≠ 0)
        have eh : lp + ((high - low : Nat) : Rat) * ((hp - lp) / ((high - low : Nat) : Rat)) = hp := by
          generalize ((high - low : Nat) : Rat) = C at *
          grind
        rw [eh] at m
        grind
      · omega
    · have m := up_mono up (i := low + (g + 1)) (j := j) (by omega) bg1 ej
      grind
theorem Tst.ends {P : List (Rat × Option Rat)} {x : Rat} {low high : Nat} {lp hp : Rat} (t : Tst P x low lp high hp) (g : Nat) (hg : g ≤ high - low) :
    (settle (P.map (·.2)))[low + g]?.getD 0 = lp + (g : Rat) * ((hp - lp) / ((high - low : Nat) : Rat)) := by
  have bt := spr_between (p := headQ (filled P)) t.hl t.hh t.lt t.no g hg
  rw [← settle_eq] at bt
  exact getD_of bt
theorem Tst.le' {P : List (Rat × Option Rat)} {x : Rat} {low high : Nat} {lp hp : Rat} (t : Tst P x low lp high hp) : lp ≤ hp := by
  have up := settle_up (P := P) (by have := t.le; omega)
  have a := spr_told (p := headQ (filled P)) t.hl
  have b := spr_told (p := headQ (filled P)) t.hh
  rw [← settle_eq] at a b
  exact up_mono up (Nat.le_of_lt t.lt) a b
/-- the even step's share -/
theorem even_share (lp hp : Rat) (g c : Nat) (hc : 0 < c) (hg : g ≤ c) : (lp * ((c - g : Nat) : Rat) + hp * (g : Rat)) / (c : Rat) = lp + (g : Rat) * ((hp - lp) / (c : Rat)) := by
  have c0 : (c : Rat) ≠ 0 := by exact_mod_cast (by omega : c ≠ 0)
  have ec : (c : Rat) = ((c - g : Nat) : Rat) + (g : Rat) := by
    rw [← Rat.natCast_add]
    exact congrArg _ (by omega)
  generalize ((c - g : Nat) : Rat) = U at *
  generalize (g : Rat) = G at *
  generalize (c : Rat) = C at *
  subst ec
  grind
theorem lt_mul_of_div {a b c : Rat} (hb : 0 < b) : a / b < c ↔ a < c * b := by
  constructor
  · intro h
    have := Rat.mul_lt_mul_of_pos_right h hb
    have e : a / b * b = a := by grind
    rw [e] at this
    exact this
  · intro h
    have := Rat.mul_lt_mul_of_pos_right h (Rat.inv_pos.mpr hb)
    have e1 : a * b⁻¹ = a / b := (Rat.div_def a b).symm
    have e2 : c * b * b⁻¹ = c := by grind
    rw [e1, e2] at this
    exact this
end FC
namespace FC
/-! the ends that are filled in, by places -/
theorem fillE_mid {L : List (Option Rat)} {i : Nat} (h0 : 0 < i) (h1 : i + 1 < L.length) : (fillE L)[i]? = L[i]? := by
  have e1 : ∀ M : List (Option Rat), (if M[0]? = some none then M.set 0 (some 0) else M)[i]? = M[i]? := fun M => by
    split
    · rw [List.getElem?_set, if_neg (by omega)]
    · rfl
  unfold fillE
  simp only
  rw [e1]
  split
  · rw [List.getElem?_set, if_neg (by omega)]
  · rfl
theorem fillE_last {L : List (Option Rat)} (h : 1 < L.length) {x : Option Rat} (hx : L[L.length - 1]? = some x) : (fillE L)[L.length - 1]? = some (some (x.getD 1)) := by
  have e1 : ∀ M : List (Option Rat), (if M[0]? = some none then M.set 0 (some 0) else M)[L.length - 1]? = M[L.length - 1]? := fun M => by
    split
    · rw [List.getElem?_set, if_neg (by omega)]
    · rfl
  unfold fillE
  simp only
  rw [e1, hx]
  cases x with
  | none =>
    rw [if_pos ⟨rfl, h⟩, List.getElem?_set, if_pos rfl, if_pos (by omega)] <;> rfl
  | some q =>
    rw [if_neg (by simp)]
    exact hx
theorem headQ_eq {L : List (Option Rat)} {x : Option Rat} (h0 : 1 < L.length) (hx : L[0]? = some x) : headQ (fillE L) = x.getD 0 := by
  have e : (fillE L)[0]? = some (some (x.getD 0)) := by
    unfold fillE
    simp only
    have e1 : (if L[L.length - 1]? = some none ∧ 1 < L.length then L.set (L.length - 1) (some 1) else L)[0]? = L[0]? := by
      split
      · rw [List.getElem?_set, if_neg (by omega)]
      · rfl
    cases x with
    | none =>
      rw [if_pos (by rw [e1, hx]), List.getElem?_set, if_pos rfl, if_pos (by split <;> (try rw [List.length_set]) <;> omega)] <;> rfl
    | some q =>
      rw [if_neg (by rw [e1, hx]; simp), e1, hx] <;> rfl
  unfold headQ
  rw [e] <;> rfl
/-- ahead of place at: the last told one that is not behind x -/
structure TI (P : List (Rat × Option Rat)) (x : Rat) (at_ : Nat) (low : Nat) (lp : Rat) : Prop where
  lt : low < at_
  hl : (lifted P)[low]? = some (some lp)
  hi : hiAt (headQ (filled P)) (filled P) at_ = lp
  no : ∀ k, low < k → k < at_ → (lifted P)[k]? = some none
  hx : low = 0 ∨ ¬ x < lp
theorem mx_self (h : Rat) : mx h h = h := by unfold mx; split <;> rfl
theorem TI.start {P : List (Rat × Option Rat)} (x : Rat) (h : 2 ≤ P.length) : TI P x 1 0 (headQ (filled P)) := by
  have hF := fillE_head (L := P.map (·.2)) (by rw [List.length_map]; omega)
  obtain ⟨a, b⟩ := lift_some (h := headQ (filled P)) hF
  have e : hiAt (headQ (filled P)) (fillE (P.map (·.2))) 0 = headQ (filled P) := by cases fillE (P.map (·.2)) <;> rfl
  rw [e] at a b
  have e2 : mx (headQ (filled P)) (headQ (fillE (P.map (·.2)))) = headQ (filled P) := mx_self _
  rw [e2] at a b
  exact ⟨Nat.one_pos, a, b, fun k h1 h2 => by omega, .inl rfl⟩
theorem filled_at {P : List (Rat × Option Rat)} {i : Nat} (h0 : 0 < i) (h1 : i + 1 < P.length) : (filled P)[i]? = (P.map (·.2))[i]? := fillE_mid h0 (by rw [List.length_map]; exact h1)
theorem TI.miss {P : List (Rat × Option Rat)} {x lp : Rat} {i low : Nat} (t : TI P x i low lp) (h0 : 0 < i) (h1 : i + 1 < P.length) (e : (P.map (·.2))[i]? = some none) : TI P x (i + 1) low lp := by
  obtain ⟨a, b⟩ := lift_none (h := headQ (filled P)) ((filled_at h0 h1).trans e)
  refine ⟨by have := t.lt; omega, t.hl, b.trans t.hi, fun k k1 k2 => ?_, t.hx⟩
  by_cases z : k = i
  · subst z
    exact a
  · exact t.no k k1 (by omega)
theorem TI.some_ {P : List (Rat × Option Rat)} {x lp q : Rat} {i low : Nat} (t : TI P x i low lp) (e : (filled P)[i]? = some (some q)) : (lifted P)[i]? = some (some (mx lp q)) ∧ hiAt (headQ (filled P)) (filled P) (i + 1) = mx lp q := by
  obtain ⟨a, b⟩ := lift_some (h := headQ (filled P)) e
  rw [t.hi] at a b
  exact ⟨a, b⟩
theorem TI.told {P : List (Rat × Option Rat)} {x lp q : Rat} {i low : Nat} (t : TI P x i low lp) (h0 : 0 < i) (h1 : i + 1 < P.length) (e : (P.map (·.2))[i]? = some (some q)) (hx : ¬ x < mx lp q) : TI P x (i + 1) i (mx lp q) := by
  obtain ⟨a, b⟩ := t.some_ ((filled_at h0 h1).trans e)
  exact ⟨Nat.lt_succ_self _, a, b, fun k k1 k2 => by omega, .inr hx⟩
theorem TI.ret {P : List (Rat × Option Rat)} {x lp q : Rat} {i low : Nat} (t : TI P x i low lp) (h0 : 0 < i) (h1 : i + 1 < P.length) (e : (P.map (·.2))[i]? = some (some q)) (hx : x < mx lp q) : Tst P x low lp i (mx lp q) :=
  ⟨t.lt, by omega, t.hl, (t.some_ ((filled_at h0 h1).trans e)).1, t.no, t.hx, .inl hx⟩
theorem TI.last {P : List (Rat × Option Rat)} {x lp : Rat} {i low : Nat} {u : Option Rat} (t : TI P x i low lp) (h0 : 0 < i) (h1 : i + 1 = P.length) (e : (P.map (·.2))[i]? = Option.some u) : Tst P x low lp i (mx lp (u.getD 1)) := by
  have hl : (P.map (·.2)).length = P.length := List.length_map ..
  have ei : i = (P.map (·.2)).length - 1 := by omega
  have z := fillE_last (L := P.map (·.2)) (by omega) (x := u) (by rw [← ei]; exact e)
  rw [← ei] at z
  exact ⟨t.lt, by omega, t.hl, (t.some_ z).1, t.no, t.hx, .inr h1⟩
end FC

namespace FC
open PySem L2
/-! ### data without lists: it stays where tuples stay -/
mutual
inductive It (K : PySem.W.Frag) (H : Hp) : V → PyData → Prop
  | non : It K H .non .none
  | bl (b : Bool) : It K H (.bl b) (.bool b)
  | int (i : Int) : It K H (.int i) (.int i)
  | str (x : Str) : It K H (.str x) (.str x)
  | tup {a : Addr} {xs : List V} {ds : List PyData} : SqT K H a xs → ItAll K H xs ds → It K H (.ref a) (.tuple ds)
inductive ItAll (K : PySem.W.Frag) (H : Hp) : List V → List PyData → Prop
  | nil : ItAll K H [] []
  | cons {v : V} {vs : List V} {d : PyData} {ds : List PyData} : It K H v d → ItAll K H vs ds → ItAll K H (v :: vs) (d :: ds)
end
section
variable {K : PySem.W.Frag} {H H' : Hp} {Q : VK}
mutual
theorem It.tp (t : Tp K H H') : ∀ (d : PyData) (v : V), It K H v d → It K H' v d
  | .none, _, h => by cases h; exact .non
  | .bool b, _, h => by cases h; exact .bl b
  | .int i, _, h => by cases h; exact .int i
  | .str x, _, h => by cases h; exact .str x
  | .list ds, _, h => by cases h
  | .tuple ds, _, h => by
    cases h with
    | tup s a => exact .tup (t _ _ s) (It.tpAll t ds _ a)
  | .dict _, _, h => by cases h
theorem It.tpAll (t : Tp K H H') : ∀ (ds : List PyData) (vs : List V), ItAll K H vs ds → ItAll K H' vs ds
  | [], _, h => by cases h; exact .nil
  | d :: ds, _, h => by
    cases h with
    | cons a b => exact .cons (It.tp t d _ a) (It.tpAll t ds _ b)
end
mutual
theorem It.dp : ∀ (d : PyData) (v : V), It K H v d → Dp K H v d
  | .none, _, h => by cases h; exact .non
  | .bool b, _, h => by cases h; exact .bl b
  | .int i, _, h => by cases h; exact .int i
  | .str x, _, h => by cases h; exact .str x
  | .list ds, _, h => by cases h
  | .tuple ds, _, h => by
    cases h with
    | tup s a => exact .tup s (It.dpAll ds _ a)
  | .dict _, _, h => by cases h
theorem It.dpAll : ∀ (ds : List PyData) (vs : List V), ItAll K H vs ds → DpAll K H vs ds
  | [], _, h => by cases h; exact .nil
  | d :: ds, _, h => by
    cases h with
    | cons a b => exact .cons (It.dp d _ a) (It.dpAll ds _ b)
end
theorem It.st {v : V} {d : PyData} (h : It K H v d) (t : Tp K H H') : It K H' v d := It.tp t d v h
theorem It.d {v : V} {d : PyData} (h : It K H v d) : Dp K H v d := It.dp d v h
theorem ItAll.len : ∀ {vs : List V} {ds : List PyData}, ItAll K H vs ds → vs.length = ds.length
  | [], [], _ => rfl
  | v :: vs, d :: ds, h => by
    cases h with
    | cons a b => simp [ItAll.len b]
  | [], _ :: _, h => by cases h
  | _ :: _, [], h => by cases h
theorem ItAll.get : ∀ {vs : List V} {ds : List PyData} {i : Nat} {d : PyData}, ItAll K H vs ds → ds[i]? = some d → ∃ v, vs[i]? = some v ∧ It K H v d
  | [], [], _, _, _, e => by simp at e
  | v :: vs, d :: ds, 0, x, h, e => by
    cases h with
    | cons a b =>
      have : d = x := by simpa using e
      subst this
      exact ⟨v, rfl, a⟩
  | v :: vs, d :: ds, i + 1, x, h, e => by
    cases h with
    | cons a b => exact ItAll.get (i := i) b (by simpa using e)
  | [], _ :: _, _, _, h, _ => by cases h
  | _ :: _, [], _, _, h, _ => by cases h
theorem ItAll.of : ∀ {vs : List V} {ds : List PyData}, vs.length = ds.length → (∀ (i : Nat) (v : V) (d : PyData), vs[i]? = some v → ds[i]? = some d → It K H v d) → ItAll K H vs ds
  | [], [], _, _ => .nil
  | v :: vs, d :: ds, l, h => .cons (h 0 v d rfl rfl) (ItAll.of (by simpa using l) fun i v d a b => h (i + 1) v d a b)
  | [], _ :: _, l, _ => by simp at l
  | _ :: _, [], l, _ => by simp at l
theorem It.tupI {v : V} {ds : List PyData} (h : It K H v (.tuple ds)) : ∃ a xs, v = .ref a ∧ SqT K H a xs ∧ ItAll K H xs ds := by
  cases h with
  | tup s a => exact ⟨_, _, rfl, s, a⟩
theorem It.intI {v : V} {i : Int} (h : It K H v (.int i)) : v = .int i := by cases h; rfl
theorem It.strI {v : V} {x : Str} (h : It K H v (.str x)) : v = .str x := by cases h; rfl
theorem It.blI {v : V} {b : Bool} (h : It K H v (.bool b)) : v = .bl b := by cases h; rfl
theorem It.nonI {v : V} (h : It K H v .none) : v = .non := by cases h; rfl
theorem It.frI {v : V} {q : Rat} (h : It K H v (frD q)) : ∃ p, v = .ref p ∧ SqT K H p (fr q) := by
  obtain ⟨a, xs, rfl, s, al⟩ := It.tupI h
  refine ⟨a, rfl, ?_⟩
  cases al with
  | cons h1 r =>
    cases r with
    | cons h2 r2 =>
      cases r2
      rw [It.intI h1, It.intI h2] at s
      exact s
theorem It.fr {p : Addr} {q : Rat} (h : SqT K H p (fr q)) : It K H (.ref p) (frD q) := .tup h (.cons (.int _) (.cons (.int _) .nil))
/-! an item of a tuple -/
theorem ixI_ {v : V} {ds : List PyData} {i : Int} {j : Nat} {d : PyData} (h : It K H v (.tuple ds)) (hi : ixN ds.length i = some j) (e : ds[j]? = some d) (q : ∀ u, It K H u d → Q u H) : rIxT K v (.int i) H Q := by
  obtain ⟨a, xs, rfl, s, al⟩ := It.tupI h
  obtain ⟨u, eu, hu⟩ := ItAll.get al e
  exact ⟨a, xs, i, u, rfl, rfl, s, atI_of (by rw [ItAll.len al]; exact hi) eu, q u hu⟩
theorem ixF_ {v : V} {ds : List PyData} {i : Int} {j : Nat} {r : Rat} (h : It K H v (.tuple ds)) (hi : ixN ds.length i = some j) (e : ds[j]? = some (frD r)) (q : ∀ p, SqT K H p (FC.fr r) → Q (.ref p) H) : rIxT K v (.int i) H Q :=
  ixI_ h hi e fun u hu => by
    obtain ⟨p, rfl, hp⟩ := It.frI hu
    exact q p hp
theorem ixIs_ {v : V} {ds : List PyData} {i : Int} {j : Nat} {x : Str} (h : It K H v (.tuple ds)) (hi : ixN ds.length i = some j) (e : ds[j]? = some (.str x)) (q : Q (.str x) H) : rIxT K v (.int i) H Q :=
  ixI_ h hi e fun u hu => by rw [It.strI hu]; exact q
theorem ixIi_ {v : V} {ds : List PyData} {i : Int} {j : Nat} {x : Int} (h : It K H v (.tuple ds)) (hi : ixN ds.length i = some j) (e : ds[j]? = some (.int x)) (q : Q (.int x) H) : rIxT K v (.int i) H Q :=
  ixI_ h hi e fun u hu => by rw [It.intI hu]; exact q
theorem lenI_ {v : V} {ds : List PyData} (h : It K H v (.tuple ds)) (q : Q (.int ds.length) H) : rLenX K [v] H Q := by
  obtain ⟨a, xs, rfl, s, al⟩ := It.tupI h
  exact lenT_ s (by rw [ItAll.len al]; exact q)
theorem isiI_ {v : V} {ds : List PyData} (h : It K H v (.tuple ds)) (q : Q (.bl true) H) : rIsi K [v, .ty "tuple"] H Q := by
  obtain ⟨a, xs, rfl, s, al⟩ := It.tupI h
  exact isiT_ s q
theorem eqI_ {u v : V} {d e : PyData} (h1 : It K H u d) (h2 : It K H v e) (s1 : SeqAt.shaped d = true) (s2 : SeqAt.shaped e = true) (q : Q (.bl (PyData.eqv d e)) H) : rEqD K u v H Q := ⟨d, e, h1.d, h2.d, s1, s2, q⟩
theorem neI_ {u v : V} {d e : PyData} (h1 : It K H u d) (h2 : It K H v e) (s1 : SeqAt.shaped d = true) (s2 : SeqAt.shaped e = true) (q : Q (.bl (!PyData.eqv d e)) H) : rNeD K u v H Q := ⟨d, e, h1.d, h2.d, s1, s2, q⟩
end
/-! ### points and curves as data -/
def oD : Option Rat → PyData
  | none => .none
  | some q => frD q
def ptD (p : Rat × Option Rat) : PyData := .tuple [frD p.1, oD p.2]
section
variable {K : PySem.W.Frag} {H H' : Hp} {Q : VK}
theorem It.oI {v : V} {x : Option Rat} (h : It K H v (oD x)) : Fo K H v x := by
  cases x with
  | none => exact It.nonI h
  | some q => exact It.frI h
theorem It.o {v : V} {x : Option Rat} (h : Fo K H v x) : It K H v (oD x) := by
  cases x with
  | none => rw [show v = .non from h]; exact .non
  | some q =>
    obtain ⟨p, rfl, hp⟩ := h
    exact It.fr hp
theorem It.ptI {v : V} {p : Rat × Option Rat} (h : It K H v (ptD p)) : Pt K H v p := by
  obtain ⟨a, xs, rfl, s, al⟩ := It.tupI h
  cases al with
  | cons h1 r =>
    cases r with
    | cons h2 r2 =>
      cases r2
      obtain ⟨pv, rfl, hv⟩ := It.frI h1
      exact ⟨a, _, _, pv, rfl, s, rfl, hv, It.oI h2⟩
theorem It.pt {v : V} {p : Rat × Option Rat} (h : Pt K H v p) : It K H v (ptD p) := by
  obtain ⟨a, yv, yx, pv, rfl, s, rfl, hv, ho⟩ := h
  exact .tup s (.cons (It.fr hv) (.cons (It.o ho) .nil))
theorem It.ptsI {v : V} {P : List (Rat × Option Rat)} (h : It K H v (.tuple (P.map ptD))) : ∃ t pts, v = .ref t ∧ SqT K H t pts ∧ PtL K H pts P := by
  obtain ⟨a, xs, rfl, s, al⟩ := It.tupI h
  refine ⟨a, xs, rfl, s, by rw [ItAll.len al, List.length_map], fun i y x hy hx => ?_⟩
  obtain ⟨u, eu, hu⟩ := ItAll.get al (i := i) (d := ptD x) (by rw [List.getElem?_map, hx]; rfl)
  rw [hy] at eu
  obtain rfl := Option.some.inj eu
  exact It.ptI hu
theorem It.pts {t : Addr} {pts : List V} {P : List (Rat × Option Rat)} (s : SqT K H t pts) (h : PtL K H pts P) : It K H (.ref t) (.tuple (P.map ptD)) := by
  refine .tup s (ItAll.of (by rw [h.len, List.length_map]) fun i v d hv hd => ?_)
  rw [List.getElem?_map] at hd
  cases e : P[i]? with
  | none => rw [e] at hd; cases hd
  | some x =>
    rw [e] at hd
    obtain rfl := Option.some.inj hd
    exact It.pt (h.at_ i v x hv e)
end
end FC

namespace FC
open PySem L2
/-- the cubic's value -/
def cub (a b x : Rat) : Rat := if x < 0 then 3 * (a * x) else if x < 1 then x * ((3 * (1 - x)) * ((1 - x) * a + x * b) + x * x) else 1 - (3 * (1 - b)) * (1 - x)
theorem cub_low {a b x : Rat} (h : x < 0) : cub a b x = 3 * (a * x) := if_pos h
theorem cub_mid {a b x : Rat} (h : ¬ x < 0) (h2 : x < 1) : cub a b x = x * ((3 * (1 - x)) * ((1 - x) * a + x * b) + x * x) := (if_neg h).trans (if_pos h2)
theorem cub_high {a b x : Rat} (h : ¬ x < 0) (h2 : ¬ x < 1) : cub a b x = 1 - (3 * (1 - b)) * (1 - x) := (if_neg h).trans (if_neg h2)
theorem num_lt0 (x : Rat) : decide (x.num < 0) = decide (x < 0) := decide_eq_decide.mpr ⟨fun h => by
    rw [Rat.lt_iff]
    simpa using h, fun h => by
    rw [Rat.lt_iff] at h
    simpa using h⟩
theorem num_gt1 (x : Rat) : decide ((x.den : Int) < x.num) = decide (1 < x) := decide_eq_decide.mpr ⟨fun h => by
    rw [Rat.lt_iff]
    simpa using h, fun h => by
    rw [Rat.lt_iff] at h
    simpa using h⟩
theorem cubL_low {a b x : Rat} (h : x < 0) : (3 * a) * x = cub a b x := by
  rw [cub_low h]
  grind
theorem cubL_high {a b x : Rat} (h : 1 < x) : 1 + (3 - 3 * b) * (x - 1) = cub a b x := by
  rw [cub_high (by grind) (by grind)]
  grind
theorem cubL_mid {a b x : Rat} (h : ¬ x < 0) (h2 : ¬ 1 < x) : x * (3 * a + x * ((3 * b - 2 * (3 * a)) + ((1 + 3 * a) - 3 * b) * x)) = cub a b x := by
  by_cases c : x < 1
  · rw [cub_mid h c]
    grind
  · rw [cub_high h c]
    have e : x = 1 := by grind
    subst e
    grind
def spCub (K : PySem.W.Frag) : Sp := fun vs H Q _ => ∃ (a b x : Addr) (p q y : Rat), vs = [.ref a, .ref b, .ref x] ∧ SqT K H a (fr p) ∧ SqT K H b (fr q) ∧ SqT K H x (fr y) ∧ Bd 250 p ∧ Bd 250 q ∧ Bd 1200 y ∧ ∀ c H', Same H H' → SqT K H' c (fr (cub p q y)) → Q (.ref c) H'
theorem Bd.cubG {n m : Nat} {a b x : Rat} (ha : Bd n a) (hb : Bd n b) (hx : Bd m x) : Bd (6 * m + 2 * n + 20) (cub a b x) := by
  unfold FC.cub
  split
  · exact (Bd.mul Bd.q3 (Bd.mul ha hx)).mono (by omega)
  · split
    · exact (Bd.mul hx (Bd.add (Bd.mul (Bd.mul Bd.q3 (Bd.sub Bd.q1 hx)) (Bd.add (Bd.mul (Bd.sub Bd.q1 hx) ha) (Bd.mul hx hb))) (Bd.mul hx hx))).mono (by omega)
    · exact (Bd.sub Bd.q1 (Bd.mul (Bd.mul Bd.q3 (Bd.sub Bd.q1 hb)) (Bd.sub Bd.q1 hx))).mono (by omega)
/-- the four sorts of steps -/
inductive Wh where
  | start | fin | non | both
  deriving DecidableEq
def Wh.s : Wh → Str
  | .start => "start"
  | .fin => "end"
  | .non => "none"
  | .both => "both"
def Wh.up : Wh → Bool
  | .start => true
  | .both => true
  | _ => false
def Wh.isN : Wh → Bool
  | .non => true
  | _ => false
def Wh.isB : Wh → Bool
  | .both => true
  | _ => false
def Wh.most (w : Wh) (n : Int) : Int := if w.isN then n - 1 else if w.isB then n + 1 else n
theorem wh_in {K : PySem.W.Frag} {H : Hp} {Q : VK} {p : Addr} (w : Wh) (h : SqT K H p [.str "start", .str "both"]) (k : Q (.bl w.up) H) : rIn K false (.str w.s) (.ref p) H Q := by
  refine ⟨p, _, rfl, .inr h, by cases w <;> rfl, rfl, ?_⟩
  have e : inV (.str w.s) [V.str "start", V.str "both"] = w.up := by cases w <;> decide +kernel
  show Q (.bl (if false = true then _ else _)) H
  rw [if_neg Bool.false_ne_true, e]
  exact k
theorem wh_in3 {K : PySem.W.Frag} {H : Hp} {Q : VK} {p : Addr} (w : Wh) (h : SqT K H p [.str "start", .str "end", .str "both"]) (k : Q (.bl (!w.isN)) H) : rIn K false (.str w.s) (.ref p) H Q := by
  refine ⟨p, _, rfl, .inr h, by cases w <;> rfl, rfl, ?_⟩
  have e : inV (.str w.s) [V.str "start", V.str "end", V.str "both"] = !w.isN := by cases w <;> decide +kernel
  show Q (.bl (if false = true then _ else _)) H
  rw [if_neg Bool.false_ne_true, e]
  exact k
theorem wh_non {H : Hp} {Q : VK} (w : Wh) (k : Q (.bl w.isN) H) : rEq (.str w.s) (.str "none") H Q := by
  refine seq_ ?_
  have e : decide (w.s = "none") = w.isN := by cases w <;> decide +kernel
  rw [e]
  exact k
theorem wh_both {H : Hp} {Q : VK} (w : Wh) (k : Q (.bl w.isB) H) : rEq (.str w.s) (.str "both") H Q := by
  refine seq_ ?_
  have e : decide (w.s = "both") = w.isB := by cases w <;> decide +kernel
  rw [e]
  exact k
/-- the steps that are done; their share -/
def stp (n : Int) (w : Wh) (q : Rat) (e : Bool) : Int :=
  let s0 := q.num * n / (q.den : Int) + (if w.up then 1 else 0)
  let s1 := if e && decide (q.num * n % (q.den : Int) = 0) then s0 - 1 else s0
  let s2 := if s1 < 0 ∧ 0 ≤ q.num then 0 else s1
  if w.most n < s2 ∧ q.num ≤ (q.den : Int) then w.most n else s2
def stv (n : Int) (w : Wh) (q : Rat) (e : Bool) : Rat := Rat.divInt (stp n w q e) (w.most n)
/-- a number of steps that fits its sort -/
def NOk (n : Int) (w : Wh) : Prop := (if w.isN then 2 else 1) ≤ n ∧ n < 2 ^ 40
theorem NOk.most {n : Int} {w : Wh} (h : NOk n w) : 0 < w.most n ∧ w.most n < 2 ^ 41 := by
  unfold NOk at h
  unfold Wh.most
  cases w <;> simp [Wh.isN, Wh.isB] at h ⊢ <;> omega
theorem NOk.pos {n : Int} {w : Wh} (h : NOk n w) : 1 ≤ n ∧ n < 2 ^ 40 := by
  unfold NOk at h
  cases w <;> simp [Wh.isN] at h ⊢ <;> omega
def spMost : Sp := fun vs H Q _ => ∃ (n : Int) (w : Wh), vs = [.int n, .str w.s] ∧ Q (.int (w.most n)) H
def spAreSteps : Sp := fun vs H Q _ => ∃ (n : Int) (w : Wh), vs = [.int n, .str w.s] ∧ NOk n w ∧ ∀ H', Same H H' → Q (.bl true) H'
def spStep (K : PySem.W.Frag) : Sp := fun vs H Q _ => ∃ (n : Int) (w : Wh) (x : Addr) (e : Bool) (q : Rat), vs = [.int n, .str w.s, .ref x, .bl e] ∧ NOk n w ∧ SqT K H x (fr q) ∧ Bd 1200 q ∧ ∀ c H', Same H H' → SqT K H' c (fr (stv n w q e)) → Q (.ref c) H'
theorem NOk.mul {n : Int} {w : Wh} {q : Rat} (h : NOk n w) (b : Bd 1200 q) : CMulW q.num n := CMulW.of (b := 40) b.1 (by have := h.pos; omega) (by decide)
theorem den_div {q : Rat} (i : Int) (b : Bd 1200 q) : CDivW i (q.den : Int) := wide_div (b := 1200) (by exact_mod_cast den_pos q) (by rw [Int.natAbs_natCast]; exact b.2) (by decide) (by decide)
theorem den_pos' (q : Rat) : (0 : Int) < (q.den : Int) := by exact_mod_cast den_pos q
theorem wNon (w : Wh) : decide (w.s = "none") = w.isN := by cases w <;> decide +kernel
theorem wBoth (w : Wh) : decide (w.s = "both") = w.isB := by cases w <;> decide +kernel
theorem most_N {n : Int} {w : Wh} (h : w.isN = true) : w.most n = n - 1 := by unfold Wh.most; rw [h] <;> rfl
theorem most_B {n : Int} {w : Wh} (h : w.isN = false) (h2 : w.isB = true) : w.most n = n + 1 := by unfold Wh.most; rw [h, h2] <;> rfl
theorem most_S {n : Int} {w : Wh} (h : w.isN = false) (h2 : w.isB = false) : w.most n = n := by unfold Wh.most; rw [h, h2] <;> rfl
theorem stp_eq (n : Int) (w : Wh) (q : Rat) (e : Bool) (s0 : Int) (h : s0 = q.num * n / (q.den : Int) + (if w.up then 1 else 0)) (s1 : Int) (h1 : s1 = if (e && decide (q.num * n % (q.den : Int) = 0)) = true then s0 - 1 else s0) (s2 : Int) (h2 : s2 = if s1 < 0 ∧ 0 ≤ q.num then 0 else s1) :
    stp n w q e = if w.most n < s2 ∧ q.num ≤ (q.den : Int) then w.most n else s2 := by
  subst h2 h1 h
  rfl
/-! ### curves of all sorts -/
inductive Cv where
  | lin (P : List (Rat × Option Rat))
  | cub (a b : Rat)
  | stp (n : Int) (w : Wh)
def cvD : Cv → PyData
  | .lin P => .tuple [.str "linear", .tuple (P.map ptD)]
  | .cub a b => .tuple [.str "cubic", frD a, frD b]
  | .stp n w => .tuple [.str "steps", .int n, .str w.s]
structure PtsOk (n : Nat) (P : List (Rat × Option Rat)) : Prop where
  pos : 0 < P.length
  len : P.length ≤ 200
  val : ∀ p ∈ P, Bd n p.1
  inp : ∀ q, some q ∈ P.map (·.2) → Bd n q
def CvOk (n : Nat) : Cv → Prop
  | .lin P => PtsOk n P
  | .cub a b => Bd n a ∧ Bd n b
  | .stp n w => NOk n w
theorem PtsOk.mono {n m : Nat} {P : List (Rat × Option Rat)} (h : PtsOk n P) (l : n ≤ m) : PtsOk m P := ⟨h.pos, h.len, fun p hp => (h.val p hp).mono l, fun q hq => (h.inp q hq).mono l⟩
theorem CvOk.mono {n m : Nat} : ∀ {c : Cv}, CvOk n c → n ≤ m → CvOk m c
  | .lin P, h, l => PtsOk.mono h l
  | .cub a b, h, l => ⟨h.1.mono l, h.2.mono l⟩
  | .stp n w, h, l => h
def cval (c : Cv) (x : Rat) (e : Bool) : Rat := match c with
  | .lin P => lin P x
  | .cub a b => cub a b x
  | .stp n w => stv n w x e
/-! sizes -/
theorem Bd.quot {n m : Nat} {p q : Rat} (h1 : Bd n p) (h2 : Bd m q) (h0 : 0 < q) : Bd (n + m) (p / q) := by
  rw [← d_div]
  have hq := dn_pos p h0
  obtain ⟨k, hk⟩ := Int.eq_ofNat_of_zero_le (Int.le_of_lt hq)
  rw [hk, Rat.divInt_ofNat]
  refine Bd.mk (by omega) (nmul h1.1 (by rw [Int.natAbs_natCast]; exact h2.2)) ?_
  have := nmul (i := (p.den : Int)) (j := q.num) (a := n) (b := m) (by rw [Int.natAbs_natCast]; exact h1.2) h2.1
  rw [hk, Int.natAbs_natCast] at this
  exact this
theorem headQ_bd {n : Nat} {P : List (Rat × Option Rat)} (h : PtsOk n P) (n1 : 1 ≤ n) : Bd n (headQ (filled P)) ∧ ∀ q, some q ∈ filled P → Bd n q := by
  have b : ∀ q, some q ∈ filled P → Bd n q := fun q hq => (fillE_mem hq).elim (h.inp q) fun z => z.elim (fun z => by rw [z]; exact Bd.q0.mono n1) fun z => by rw [z]; exact Bd.q1.mono n1
  exact ⟨b _ (List.mem_of_getElem? (fillE_head (by rw [List.length_map]; exact h.pos))), b⟩
theorem lifted_bd {n : Nat} {P : List (Rat × Option Rat)} (h : PtsOk n P) (n1 : 1 ≤ n) : ∀ q, some q ∈ lifted P → Bd n q := lift_bd (headQ_bd h n1).1 (headQ_bd h n1).2
theorem settle_bd {n : Nat} {P : List (Rat × Option Rat)} (h : PtsOk n P) (n1 : 1 ≤ n) : ∀ q ∈ settle (P.map (·.2)), Bd (3 * n + 18) q := by
  intro q hq
  rw [settle_eq] at hq
  have e : EndTold (lifted P) := lift_end (fillE_end (by rw [List.length_map]; exact h.pos))
  have f := spr_form (n := n) (N := 200) (by decide) e (by rw [lifted_len]; exact h.len) (lifted_bd h n1) (.inl (headQ_bd h n1).1) q hq
  exact (f.bd (m := 8) (by decide) (by decide)).mono (by omega)
theorem settleD_bd {n : Nat} {P : List (Rat × Option Rat)} (h : PtsOk n P) (n1 : 1 ≤ n) (k : Nat) : Bd (3 * n + 18) ((settle (P.map (·.2)))[k]?.getD 0) := by
  cases e : (settle (P.map (·.2)))[k]? with
  | none => exact Bd.q0.mono (by omega)
  | some q => exact settle_bd h n1 q (List.mem_of_getElem? e)
theorem vAt_bd {n : Nat} {P : List (Rat × Option Rat)} (h : PtsOk n P) (n1 : 1 ≤ n) (k : Nat) : Bd n (vAt P k) := by
  unfold vAt
  cases e : P[k]? with
  | none => exact Bd.q0.mono n1
  | some p => exact h.val p (List.mem_of_getElem? e)
theorem settleD_le {P : List (Rat × Option Rat)} (h : 0 < P.length) (k : Nat) (hk : k + 1 < P.length) : (settle (P.map (·.2)))[k]?.getD 0 ≤ (settle (P.map (·.2)))[k + 1]?.getD 0 := by
  have e1 := List.getElem?_eq_getElem (l := settle (P.map (·.2))) (i := k) (by rw [settle_len]; omega)
  have e2 := List.getElem?_eq_getElem (l := settle (P.map (·.2))) (i := k + 1) (by rw [settle_len]; omega)
  rw [getD_of e1, getD_of e2]
  exact up_mono (settle_up h) (Nat.le_succ k) e1 e2
theorem lt_of_le_ne {a b : Rat} (h : a ≤ b) (n : ¬ a = b) : 0 < b - a := by grind
theorem Bd.lin {n m : Nat} {P : List (Rat × Option Rat)} {x : Rat} (h : PtsOk n P) (n1 : 1 ≤ n) (hx : Bd m x) : Bd (m + 12 * n + 60) (lin P x) := by
  unfold FC.lin
  split
  · exact (vAt_bd h n1 0).mono (by omega)
  · rename_i h1
    have hp := h.pos
    have hk := lastLe_lt (S := settle (P.map (·.2))) (x := x) (m := P.length - 1) (by omega)
    generalize lastLe (settle (P.map (·.2))) x (P.length - 1) = k at hk
    unfold linAt
    split
    · exact (vAt_bd h n1 _).mono (by omega)
    · rename_i ne
      have l := settleD_le hp k (by omega)
      exact (Bd.add (vAt_bd h n1 _) (Bd.mul (Bd.sub (vAt_bd h n1 _) (vAt_bd h n1 _)) (Bd.quot (Bd.sub hx (settleD_bd h n1 _)) (Bd.sub (settleD_bd h n1 _) (settleD_bd h n1 _)) (lt_of_le_ne l ne)))).mono (by omega)
/-! promises -/
section
variable (K : PySem.W.Frag)
def spAreP : Sp := fun vs H Q _ => ∃ (v : V) (P : List (Rat × Option Rat)), vs = [v] ∧ It K H v (.tuple (P.map ptD)) ∧ 0 < P.length ∧ ∀ H', Same H H' → Q (.bl true) H'
def spIsCv : Sp := fun vs H Q _ => ∃ (v : V) (c : Cv) (n : Nat), vs = [v] ∧ It K H v (cvD c) ∧ CvOk n c ∧ ∀ H', Same H H' → Q (.bl true) H'
def spCval : Sp := fun vs H Q _ => ∃ (v : V) (x : Addr) (e : Bool) (c : Cv) (y : Rat), vs = [v, .ref x, .bl e] ∧ It K H v (cvD c) ∧ CvOk 250 c ∧ SqT K H x (fr y) ∧ Bd 1200 y ∧ ∀ c' H', Same H H' → SqT K H' c' (fr (cval c y e)) → Q (.ref c') H'
def spEvenStep : Sp := fun vs H Q _ => ∃ (a b : Addr) (p q : Rat) (g c : Nat), vs = [.ref a, .ref b, .int (g : Nat), .int (c : Nat)] ∧ SqT K H a (fr p) ∧ SqT K H b (fr q) ∧ Bd 250 p ∧ Bd 250 q ∧ 0 < c ∧ g ≤ c ∧ c ≤ 200 ∧ ∀ d H', Same H H' → SqT K H' d (fr (p + (g : Rat) * ((q - p) / (c : Rat)))) → Q (.ref d) H'
def spEvenPlace : Sp := fun vs H Q _ => ∃ (a b x : Addr) (p q y : Rat) (c : Nat), vs = [.ref a, .ref b, .int (c : Nat), .ref x] ∧ SqT K H a (fr p) ∧ SqT K H b (fr q) ∧ SqT K H x (fr y) ∧ Bd 250 p ∧ Bd 250 q ∧ Bd 1200 y ∧ p < q ∧ 0 < c ∧ c ≤ 200 ∧
  ∀ (i : Int) H', Same H H' → (i : Rat) * (q - p) ≤ (y - p) * (c : Rat) → (y - p) * (c : Rat) < ((i : Rat) + 1) * (q - p) → Q (.int i) H'
def spTold : Sp := fun vs H Q _ => ∃ (v : V) (x : Addr) (P : List (Rat × Option Rat)) (y : Rat), vs = [v, .ref x] ∧ It K H v (.tuple (P.map ptD)) ∧ PtsOk 250 P ∧ 2 ≤ P.length ∧ SqT K H x (fr y) ∧ Bd 1200 y ∧
  ∀ (d a b : Addr) (low high : Nat) (lp hp : Rat) H', Same H H' → Tst P y low lp high hp → SqT K H' d [.int (low : Nat), .ref a, .int (high : Nat), .ref b] → SqT K H' a (fr lp) → SqT K H' b (fr hp) → Q (.ref d) H'
def spStretch : Sp := fun vs H Q _ => ∃ (v : V) (x : Addr) (P : List (Rat × Option Rat)) (y : Rat), vs = [v, .ref x] ∧ It K H v (.tuple (P.map ptD)) ∧ PtsOk 250 P ∧ 2 ≤ P.length ∧ SqT K H x (fr y) ∧ Bd 1200 y ∧
  ∀ (d a b : Addr) (k : Nat) H', Same H H' → k = lastLe (settle (P.map (·.2))) y (P.length - 1) → SqT K H' d [.int (k : Nat), .ref a, .ref b] → SqT K H' a (fr ((settle (P.map (·.2)))[k]?.getD 0)) → SqT K H' b (fr ((settle (P.map (·.2)))[k + 1]?.getD 0)) → Q (.ref d) H'
def spLine : Sp := fun vs H Q _ => ∃ (v : V) (x : Addr) (P : List (Rat × Option Rat)) (y : Rat), vs = [v, .ref x] ∧ It K H v (.tuple (P.map ptD)) ∧ PtsOk 250 P ∧ SqT K H x (fr y) ∧ Bd 1200 y ∧ ∀ c H', Same H H' → SqT K H' c (fr (lin P y)) → Q (.ref c) H'
end
section
variable {K : PySem.W.Frag} {σ : L2.St} {H : Hp} {P : L2.St → Hp → Prop} {ga : TG} {gr : TGs}
theorem gcons_ {x : V} {xs : List V} (q : ga x σ H fun σ' H' => gr xs σ' H' P) : gCons ga gr (x :: xs) σ H P := ⟨x, xs, rfl, q⟩
theorem gnil_ (q : P σ H) : gNil [] σ H P := ⟨rfl, q⟩
theorem gtupN_ {a : Addr} {xs : List V} {n : Nat} (h : SqT K H a xs) (hn : xs.length = n) (q : gr xs σ H P) : gTup K n gr (.ref a) σ H P := ⟨a, xs, rfl, h, hn, q⟩
end
section
variable {K : PySem.W.Frag} {H : Hp}
theorem It.linI {v : V} {P : List (Rat × Option Rat)} (h : It K H v (cvD (.lin P))) : ∃ p t, v = .ref p ∧ SqT K H p [.str "linear", .ref t] ∧ It K H (.ref t) (.tuple (P.map ptD)) := by
  obtain ⟨p, xs, rfl, s, al⟩ := It.tupI h
  cases al with
  | cons h1 r =>
    cases r with
    | cons h2 r2 =>
      cases r2
      obtain ⟨t, ys, e, _, _⟩ := It.tupI h2
      rw [It.strI h1, e] at s
      rw [e] at h2
      exact ⟨p, t, rfl, s, h2⟩
theorem It.cubI {v : V} {a b : Rat} (h : It K H v (cvD (.cub a b))) : ∃ p pa pb, v = .ref p ∧ SqT K H p [.str "cubic", .ref pa, .ref pb] ∧ SqT K H pa (FC.fr a) ∧ SqT K H pb (FC.fr b) := by
  obtain ⟨p, xs, rfl, s, al⟩ := It.tupI h
  cases al with
  | cons h1 r =>
    cases r with
    | cons h2 r2 =>
      cases r2 with
      | cons h3 r3 =>
        cases r3
        obtain ⟨pa, e2, ha⟩ := It.frI h2
        obtain ⟨pb, e3, hb⟩ := It.frI h3
        rw [It.strI h1, e2, e3] at s
        exact ⟨p, pa, pb, rfl, s, ha, hb⟩
theorem It.stpI {v : V} {n : Int} {w : Wh} (h : It K H v (cvD (.stp n w))) : ∃ p, v = .ref p ∧ SqT K H p [.str "steps", .int n, .str w.s] := by
  obtain ⟨p, xs, rfl, s, al⟩ := It.tupI h
  cases al with
  | cons h1 r =>
    cases r with
    | cons h2 r2 =>
      cases r2 with
      | cons h3 r3 =>
        cases r3
        rw [It.strI h1, It.intI h2, It.strI h3] at s
        exact ⟨p, rfl, s⟩
theorem It.linC {p t : Addr} {P : List (Rat × Option Rat)} (s : SqT K H p [.str "linear", .ref t]) (h : It K H (.ref t) (.tuple (P.map ptD))) : It K H (.ref p) (cvD (.lin P)) := .tup s (.cons (.str _) (.cons h .nil))
theorem It.cubC {p pa pb : Addr} {a b : Rat} (s : SqT K H p [.str "cubic", .ref pa, .ref pb]) (ha : SqT K H pa (FC.fr a)) (hb : SqT K H pb (FC.fr b)) : It K H (.ref p) (cvD (.cub a b)) := .tup s (.cons (.str _) (.cons (It.fr ha) (.cons (It.fr hb) .nil)))
theorem It.stpC {p : Addr} {n : Int} {w : Wh} (s : SqT K H p [.str "steps", .int n, .str w.s]) : It K H (.ref p) (cvD (.stp n w)) := .tup s (.cons (.str _) (.cons (.int _) (.cons (.str _) .nil)))
end
/-! even steps -/
theorem q_eq (q : Rat) : q = (q.num : Rat) / ((q.den : Int) : Rat) := by
  rw [← Rat.divInt_eq_div, Rat.num_divInt_den]
theorem even_div (p q : Rat) (g c : Nat) (hc : 0 < c) (hg : g ≤ c) : Rat.divInt (p.num * (q.den : Int) * ((c : Int) - (g : Int)) + q.num * (p.den : Int) * (g : Int)) ((p.den : Int) * (q.den : Int) * (c : Int)) = p + (g : Rat) * ((q - p) / (c : Rat)) := by
  rw [← even_share p q g c hc hg, Rat.divInt_eq_div]
  have hp := q_eq p
  have hq := q_eq q
  have dp : ((p.den : Int) : Rat) ≠ 0 := by exact_mod_cast p.den_nz
  have dq : ((q.den : Int) : Rat) ≠ 0 := by exact_mod_cast q.den_nz
  have c0 : (c : Rat) ≠ 0 := by exact_mod_cast (by omega : c ≠ 0)
  have e1 : ((c : Int) - (g : Int)) = ((c - g : Nat) : Int) := by omega
  rw [e1]
  simp only [Rat.intCast_add, Rat.intCast_mul, Rat.intCast_natCast] at *
  generalize ((c - g : Nat) : Rat) = U at *
  generalize (g : Rat) = G at *
  generalize (c : Rat) = C at *
  generalize ((p.num : Int) : Rat) = pn at *
  generalize ((q.num : Int) : Rat) = qn at *
  generalize (p.den : Rat) = pd at *
  generalize (q.den : Rat) = qd at *
  subst hp hq
  grind
theorem place_lo (i : Int) (d w : Rat) (c : Nat) (hw : 0 < w) (h : i * ((d.den : Int) * w.num) ≤ d.num * (w.den : Int) * (c : Int)) : (i : Rat) * w ≤ d * (c : Rat) := by
  have hp := q_eq d
  have hq := q_eq w
  have dp : (0 : Rat) < ((d.den : Int) : Rat) := by exact_mod_cast den_pos d
  have dq : (0 : Rat) < ((w.den : Int) : Rat) := by exact_mod_cast den_pos w
  have h' : ((i * ((d.den : Int) * w.num) : Int) : Rat) ≤ ((d.num * (w.den : Int) * (c : Int) : Int) : Rat) := Rat.intCast_le_intCast.mpr h
  simp only [Rat.intCast_mul, Rat.intCast_natCast] at *
  generalize (i : Rat) = I at *
  generalize (c : Rat) = C at *
  generalize ((d.num : Int) : Rat) = pn at *
  generalize ((w.num : Int) : Rat) = qn at *
  generalize (d.den : Rat) = pd at *
  generalize (w.den : Rat) = qd at *
  have e1 : pn = d * pd := by grind
  have e2 : qn = w * qd := by grind
  subst e1 e2
  have pos : 0 < pd * qd := Rat.mul_pos dp dq
  refine Rat.le_of_mul_le_mul_right (c := pd * qd) ?_ pos
  grind
theorem place_hi (i : Int) (d w : Rat) (c : Nat) (hw : 0 < w) (h : d.num * (w.den : Int) * (c : Int) < (i + 1) * ((d.den : Int) * w.num)) : d * (c : Rat) < ((i : Rat) + 1) * w := by
  have hp := q_eq d
  have hq := q_eq w
  have dp : (0 : Rat) < ((d.den : Int) : Rat) := by exact_mod_cast den_pos d
  have dq : (0 : Rat) < ((w.den : Int) : Rat) := by exact_mod_cast den_pos w
  have h' : ((d.num * (w.den : Int) * (c : Int) : Int) : Rat) < (((i + 1) * ((d.den : Int) * w.num) : Int) : Rat) := Rat.intCast_lt_intCast.mpr h
  have e0 : ((1 : Int) : Rat) = 1 := rfl
  simp only [Rat.intCast_mul, Rat.intCast_natCast, Rat.intCast_add, e0] at *
  generalize (i : Rat) = I at *
  generalize (c : Rat) = C at *
  generalize ((d.num : Int) : Rat) = pn at *
  generalize ((w.num : Int) : Rat) = qn at *
  generalize (d.den : Rat) = pd at *
  generalize (w.den : Rat) = qd at *
  have e1 : pn = d * pd := by grind
  have e2 : qn = w * qd := by grind
  subst e1 e2
  have pos : 0 < pd * qd := Rat.mul_pos dp dq
  refine Rat.lt_of_mul_lt_mul_right (c := pd * qd) ?_ (Rat.le_of_lt pos)
  grind
theorem ifR {D : Ends} {σ : L2.St} {H : Hp} {t u : TS} {c : Bool} (N : V → Prop) (i : Nat) (ha : c = true → ∃ v, N v ∧ (D.nx (σ.set i (some v)) H → t D σ H))
    (hb : c = false → ∃ v, N v ∧ (D.nx (σ.set i (some v)) H → u D σ H)) (k : ∀ v, N v → D.nx (σ.set i (some v)) H) : if c = true then t D σ H else u D σ H := by
  cases c with
  | true =>
    rw [if_pos rfl]
    obtain ⟨v, n, q⟩ := ha rfl
    exact q (k v n)
  | false =>
    rw [if_neg Bool.false_ne_true]
    obtain ⟨v, n, q⟩ := hb rfl
    exact q (k v n)
/-- two ways that meet again -/
theorem ifW {D : Ends} {σ : L2.St} {H : Hp} {t u : TS} {c : Bool} (W : L2.St → Hp → Prop) (ha : c = true → (∀ σ' H', W σ' H' → D.nx σ' H') → t D σ H) (hb : c = false → (∀ σ' H', W σ' H' → D.nx σ' H') → u D σ H)
    (k : ∀ σ' H', W σ' H' → D.nx σ' H') : if c = true then t D σ H else u D σ H := by
  cases c with
  | true =>
    rw [if_pos rfl]
    exact ha rfl k
  | false =>
    rw [if_neg Bool.false_ne_true]
    exact hb rfl k
theorem PtL.val {K : PySem.W.Frag} {H : Hp} {pts : List V} {P : List (Rat × Option Rat)} (h : PtL K H pts P) {k : Nat} (hk : k < P.length) : ∃ a yx pv x, pts[k]? = some (.ref a) ∧ SqT K H a [.ref pv, yx] ∧ SqT K H pv (fr (vAt P k)) ∧ P[k]? = some x ∧ Fo K H yx x.2 := by
  have e := List.getElem?_eq_getElem hk
  have e2 := List.getElem?_eq_getElem (l := pts) (i := k) (by rw [h.len]; exact hk)
  obtain ⟨a, yv, yx, pv, ea, h1, rfl, h2, h3⟩ := h.at_ k _ _ e2 e
  refine ⟨a, yx, pv, P[k], by rw [e2, ea], h1, ?_, e, h3⟩
  unfold vAt
  rw [e]
  exact h2
theorem PtL.tp {K : PySem.W.Frag} {H H' : Hp} {pts : List V} {P : List (Rat × Option Rat)} (h : PtL K H pts P) (t : Tp K H H') : PtL K H' pts P := ⟨h.len, fun i y x a b => (h.at_ i y x a b).tp t⟩
/-! append -/
section
variable {K : PySem.W.Frag} {σ : L2.St} {H H1 H2 : Hp} {Q : VK} {te : TE} {t : TA} {a l : Addr}
def App2 (l : Addr) (Q : VK) : List V → Hp → Prop := fun vs H2 => rAppend (.ref l) vs H2 Q
def AppV (K : PySem.W.Frag) (t : TA) (σ : L2.St) (Q : VK) : VK := fun x H1 => tyV K "list" x H1 ∧ t σ H1 fun xs H2 => rAppend x xs H2 Q
theorem xapp (q : te σ H (AppV K t σ Q)) : tBM K "list" rAppend te t σ H Q := xbm q
theorem app1_ {xs : List V} (h : H l = some (.lst xs)) (q : t σ H (App2 l Q)) : AppV K t σ Q (.ref l) H := ⟨.inl ⟨rfl, xs, SqL.tr h⟩, q⟩
theorem app2_ {xs : List V} {y : V} (h : H l = some (.lst xs)) (hn : xs.length ≤ 9999) (q : ∀ H', H' l = some (.lst (xs ++ [y])) → Frm l H H' → Tp K H H' → Q .non H') : App2 l Q [y] H :=
  ⟨l, xs, y, rfl, rfl, h, Nat.lt_of_lt_of_le (by omega : xs.length < 10000) (by decide), q _ upd_same upd_frm (Tp.lst h)⟩
theorem frmNew (f1 : Frm a H H1) (hn : H l = none) (f2 : Frm l H1 H2) : Frm a H H2 := fun b o n hb => f2 b o (ne_of_none hb hn) (f1 b o n hb)
theorem Frm.srcO (f : Frm l H H1) (n : l ≠ a) (s : Src H a) : Src H1 a := by
  obtain ⟨i, j, k, h⟩ := s
  exact ⟨i, j, k, f _ _ n.symm h⟩
end
theorem atI_pick {xs : List V} {r : Int} (h0 : 0 ≤ r) (h1 : r < (xs.length : Int)) : ∃ v, atI xs r = some v ∧ v ∈ xs := by
  obtain ⟨n, rfl⟩ := Int.eq_ofNat_of_zero_le h0
  have hn : n < xs.length := by exact_mod_cast h1
  exact ⟨xs[n], atI_nat (List.getElem?_eq_getElem hn), List.getElem_mem hn⟩
theorem PtsOk.straight : PtsOk 31 [(0, some 0), (1, some 1)] := by
  refine ⟨by decide, by decide, fun p hp => ?_, fun q hq => ?_⟩
  · simp only [List.mem_cons, List.not_mem_nil, or_false] at hp
    rcases hp with rfl | rfl
    · exact Bd.q0.mono (by decide)
    · exact Bd.q1.mono (by decide)
  · simp only [List.map_cons, List.map_nil, List.mem_cons, List.not_mem_nil, or_false, Option.some.injEq] at hq
    rcases hq with rfl | rfl
    · exact Bd.q0.mono (by decide)
    · exact Bd.q1.mono (by decide)
def spCurve (K : PySem.W.Frag) : Sp := fun vs H Q _ => ∃ a : Addr, vs = [.ref a] ∧ Src H a ∧ ∀ p c H', It K H' (.ref p) (cvD c) → CvOk 31 c → Src H' a → Frm a H H' → Q (.ref p) H'
theorem PtL.nil {K : PySem.W.Frag} {H : Hp} : PtL K H [] [] := ⟨rfl, fun i y x h => by simp at h⟩
theorem PtL.snoc {K : PySem.W.Frag} {H : Hp} {ys : List V} {P : List (Rat × Option Rat)} {y : V} {p : Rat × Option Rat} (h : PtL K H ys P) (hy : Pt K H y p) : PtL K H (ys ++ [y]) (P ++ [p]) := by
  refine ⟨by rw [List.length_append, List.length_append, h.len] <;> rfl, fun i z x hz hx => ?_⟩
  by_cases hi : i < ys.length
  · rw [List.getElem?_append_left hi] at hz
    rw [List.getElem?_append_left (by rw [← h.len]; exact hi)] at hx
    exact h.at_ i z x hz hx
  · rw [List.getElem?_append_right (by omega)] at hz
    rw [List.getElem?_append_right (by rw [← h.len]; omega)] at hx
    have e : i - ys.length = 0 := by
      cases e : i - ys.length with
      | zero => rfl
      | succ k => rw [e] at hz; simp at hz
    rw [e] at hz
    rw [← h.len, e] at hx
    have e1 : y = z := Option.some.inj hz
    have e2 : p = x := Option.some.inj hx
    subst e1 e2
    exact hy
structure PtsB (n : Nat) (P : List (Rat × Option Rat)) : Prop where
  val : ∀ p ∈ P, Bd n p.1
  inp : ∀ q, some q ∈ P.map (·.2) → Bd n q
theorem PtsB.nil (n : Nat) : PtsB n [] := ⟨fun p h => by simp at h, fun q h => by simp at h⟩
theorem PtsB.snoc {n : Nat} {P : List (Rat × Option Rat)} {p : Rat × Option Rat} (h : PtsB n P) (h1 : Bd n p.1) (h2 : ∀ q, p.2 = some q → Bd n q) : PtsB n (P ++ [p]) := by
  refine ⟨fun z hz => ?_, fun q hq => ?_⟩
  · rcases List.mem_append.mp hz with hz | hz
    · exact h.val z hz
    · have : z = p := by simpa using hz
      subst this
      exact h1
  · rw [List.map_append] at hq
    rcases List.mem_append.mp hq with hq | hq
    · exact h.inp q hq
    · have : some q = p.2 := by simpa using hq
      exact h2 q this.symm
theorem mem4' {α : Type} {P : α → Prop} {a b c d v : α} (h : v ∈ [a, b, c, d]) (h1 : P a) (h2 : P b) (h3 : P c) (h4 : P d) : P v := mem4 h1 h2 h3 h4 v h
theorem wh_mem {v : V} (h : v ∈ [V.str "start", V.str "end", V.str "none", V.str "both"]) : ∃ w : Wh, v = .str w.s := by
  simp only [List.mem_cons, List.not_mem_nil, or_false] at h
  rcases h with rfl | rfl | rfl | rfl
  · exact ⟨.start, rfl⟩
  · exact ⟨.fin, rfl⟩
  · exact ⟨.non, rfl⟩
  · exact ⟨.both, rfl⟩
theorem Frm.none {a L : Addr} {H H1 : Hp} (f : Frm a H H1) (n : L ≠ a) (h : H1 L = Option.none) : H L = Option.none := by
  cases e : H L with
  | none => rfl
  | some o =>
    rw [f _ _ n e] at h
    cases h
theorem Same.none {L : Addr} {H H1 : Hp} (f : Same H H1) (h : H1 L = Option.none) : H L = Option.none := by
  cases e : H L with
  | none => rfl
  | some o =>
    rw [f _ _ e] at h
    cases h
end FC

namespace FC
open PySem L2
/-! ### comprehensions over anything that is walked -/
section
variable {K : PySem.W.Frag} {σ : L2.St} {H : Hp} {Q : VK} {te : TE} {tt : TT} {g : TG} {ta : TA} {vs : List Nat} {J : L2.It} {n : Nat} {G : Hp → Prop} {Y : Nat → Hp → V → Hp → Prop}
def LcJ (J : L2.It) (g : TG) (tt : TT) (te : TE) (vs : List Nat) (σ : L2.St) (Q : VK) (H1 : Hp) : Prop := ∀ D, H1 D = none → ∃ W : Nat → Nat → Hp → Prop, (∃ m, W 0 m (upd H1 D (.lst []))) ∧ ∀ i m H, W i m H →
  (J.stop i H ∧ Q (.ref D) H) ∨ (J.go i H ∧ ∃ Nx : Hp → Prop, (∀ H', Nx H' → ∃ m', m' < m ∧ W (i + 1) m' H') ∧ ∀ x H', J.yld i H x H' → g x (wipe σ vs) H' fun σ2 H2 => wipe σ2 vs = wipe σ vs ∧ tt σ2 H2 fun b H3 =>
    if b = true then te σ2 H3 fun y H4 => ∃ acc, H4 D = some (.lst acc) ∧ acc.length < sizeLine ∧ Nx (upd H4 D (.lst (acc ++ [y]))) else Nx H3)
def LcEP (K : PySem.W.Frag) (g : TG) (tt : TT) (te : TE) (own : List Nat) (σ : L2.St) (Q : VK) : List V → Hp → Prop := fun vs H1 => ∃ a xs, vs = [.ref a] ∧ SqL K H1 a xs ∧ LcJ (Ite K a) g tt te own σ Q H1
theorem xlcE (q : ta σ H (LcEP K g tt te vs σ Q)) : tLc (iEnum K ta) g tt te vs σ H Q := q
theorem lce_ {b : Addr} {xs : List V} (h : SqL K H b xs) (q : LcJ (Ite K b) g tt te vs σ Q H) : LcEP K g tt te vs σ Q [.ref b] H := ⟨b, xs, rfl, h, q⟩
/-- one item a turn, nothing else changed -/
theorem lcJS (w : Walk J n G Y) (Item : Nat → V → Hp → Prop) (st : ∀ i y H H', Item i y H → Tp K H H' → Item i y H') (hG : ∀ H', Same H H' → G H') (hn : n ≤ 100000)
    (body : ∀ i x H1 H' (Q' : VK), i < n → Same H H1 → Y i H1 x H' → (∀ y H'', Same H1 H'' → Item i y H'' → Q' y H'') → g x (wipe σ vs) H' fun σ2 H2 => wipe σ2 vs = wipe σ vs ∧ te σ2 H2 Q')
    (k : ∀ D ys H', H D = none → Same H H' → H' D = some (.lst ys) → ys.length = n → AllAt Item ys H' → Q (.ref D) H') : LcJ J g tYes te vs σ Q H := by
  intro D hD
  refine lc_it w (LcInvS Item H D) ⟨same_upd hD, [], upd_same, rfl, fun i y e => by simp at e⟩ (fun i H' _ v => hG H' v.1) ?_ ?_
  · intro i x H1 H' hi v y
    have b := body i x H1 H' (LcBody D (LcInvS Item H D (i + 1))) hi v.1 y fun z H'' e it => LcInvS.next (K := K) st hD v hi hn e it
    have e : (fun σ2 H2 => wipe σ2 vs = wipe σ vs ∧ tYes σ2 H2 fun b H3 => if b = true then te σ2 H3 fun y H4 => ∃ acc, H4 D = some (.lst acc) ∧ acc.length < sizeLine ∧ LcInvS Item H D (i + 1) (upd H4 D (.lst (acc ++ [y]))) else LcInvS Item H D (i + 1) H3) = fun σ2 H2 => wipe σ2 vs = wipe σ vs ∧ te σ2 H2 (LcBody D (LcInvS Item H D (i + 1))) := by
      funext σ2 H2
      refine propext ⟨fun ⟨a, b⟩ => ⟨a, ?_⟩, fun ⟨a, b⟩ => ⟨a, ?_⟩⟩
      · have b' : if true = true then te σ2 H2 (LcBody D (LcInvS Item H D (i + 1))) else LcInvS Item H D (i + 1) H2 := b
        rw [if_pos rfl] at b'
        exact b'
      · show if true = true then te σ2 H2 (LcBody D (LcInvS Item H D (i + 1))) else LcInvS Item H D (i + 1) H2
        rw [if_pos rfl]
        exact b
    rw [e]
    exact b
  · rintro H' ⟨f2, ys, e, l, al⟩
    exact k D ys H' hD f2 e l al
end
/-! ### lists of options, grown -/
section
variable {K : PySem.W.Frag} {H H' : Hp}
theorem FoL.nil : FoL K H [] [] := ⟨rfl, fun i y x h => by simp at h⟩
theorem FoL.append {ys zs : List V} {L M : List (Option Rat)} (h1 : FoL K H ys L) (h2 : FoL K H zs M) : FoL K H (ys ++ zs) (L ++ M) := by
  refine ⟨by rw [List.length_append, List.length_append, h1.len, h2.len], fun i y x hy hx => ?_⟩
  by_cases hi : i < ys.length
  · rw [List.getElem?_append_left hi] at hy
    rw [List.getElem?_append_left (by rw [← h1.len]; exact hi)] at hx
    exact h1.at_ i y x hy hx
  · rw [List.getElem?_append_right (by omega)] at hy
    rw [List.getElem?_append_right (by rw [← h1.len]; omega)] at hx
    rw [← h1.len] at hx
    exact h2.at_ _ y x hy hx
theorem FoL.one {y : V} {x : Option Rat} (h : Fo K H y x) : FoL K H [y] [x] := ⟨rfl, fun i z u hz hu => by
  cases i with
  | zero =>
    have e1 : y = z := by simpa using hz
    have e2 : x = u := by simpa using hu
    subst e1 e2
    exact h
  | succ i => simp at hz⟩
theorem FoL.snoc {ys : List V} {L : List (Option Rat)} {y : V} {x : Option Rat} (h : FoL K H ys L) (hy : Fo K H y x) : FoL K H (ys ++ [y]) (L ++ [x]) := h.append (FoL.one hy)
def Ext2 (l : Addr) (Q : VK) : List V → Hp → Prop := fun vs H2 => rExtend (.ref l) vs H2 Q
def ExtV (K : PySem.W.Frag) (t : TA) (σ : L2.St) (Q : VK) : VK := fun x H1 => tyV K "list" x H1 ∧ t σ H1 fun xs H2 => rExtend x xs H2 Q
theorem xext {te : TE} {t : TA} {σ : L2.St} {Q : VK} (q : te σ H (ExtV K t σ Q)) : tBM K "list" rExtend te t σ H Q := xbm q
theorem ext1_ {t : TA} {σ : L2.St} {Q : VK} {l : Addr} {xs : List V} (h : H l = some (.lst xs)) (q : t σ H (Ext2 l Q)) : ExtV K t σ Q (.ref l) H := ⟨.inl ⟨rfl, xs, SqL.tr h⟩, q⟩
theorem ext2_ {l b : Addr} {xs zs : List V} {Q : VK} (h : H l = some (.lst xs)) (hb : H b = some (.lst zs)) (hn : xs.length + zs.length ≤ 10000) (q : ∀ H', H' l = some (.lst (xs ++ zs)) → Frm l H H' → Tp K H H' → Q .non H') : Ext2 l Q [.ref b] H :=
  ⟨l, b, xs, zs, rfl, rfl, h, hb, szN hn, q _ upd_same upd_frm (Tp.lst h)⟩
end
/-! ### settled points -/
def settledP (P : List (Rat × Option Rat)) : List (Rat × Option Rat) := (P.zip (settle (P.map (·.2)))).map fun z => (z.1.1, some z.2)
theorem settledP_len (P : List (Rat × Option Rat)) : (settledP P).length = P.length := by
  unfold settledP
  rw [List.length_map, List.length_zip, settle_len]
  omega
theorem settledP_at {P : List (Rat × Option Rat)} {i : Nat} {x : Rat × Option Rat} {s : Rat} (h1 : P[i]? = some x) (h2 : (settle (P.map (·.2)))[i]? = some s) : (settledP P)[i]? = some (x.1, some s) := by
  unfold settledP
  have e : (P.zip (settle (P.map (·.2))))[i]? = some (x, s) := List.getElem?_zip_eq_some.mpr ⟨h1, h2⟩
  rw [List.getElem?_map, e]
  rfl
theorem settledP_inp (P : List (Rat × Option Rat)) : (settledP P).map (·.2) = (settle (P.map (·.2))).map some := by
  apply List.ext_getElem?
  intro i
  rw [List.getElem?_map, List.getElem?_map]
  by_cases h : i < P.length
  · have e1 := List.getElem?_eq_getElem h
    have e2 := List.getElem?_eq_getElem (l := settle (P.map (·.2))) (i := i) (by rw [settle_len]; exact h)
    rw [settledP_at e1 e2, e2] <;> rfl
  · rw [List.getElem?_eq_none (by rw [settledP_len]; omega), List.getElem?_eq_none (by rw [settle_len]; omega)] <;> rfl
theorem settledP_vAt (P : List (Rat × Option Rat)) (k : Nat) : vAt (settledP P) k = vAt P k := by
  unfold vAt
  by_cases h : k < P.length
  · have e1 := List.getElem?_eq_getElem h
    have e2 := List.getElem?_eq_getElem (l := settle (P.map (·.2))) (i := k) (by rw [settle_len]; exact h)
    rw [settledP_at e1 e2, e1] <;> rfl
  · rw [List.getElem?_eq_none (by rw [settledP_len]; omega), List.getElem?_eq_none (by omega)]
/-! rising ones, all told, stay -/
theorem mx_ge' {h q : Rat} (l : h ≤ q) : mx h q = q := by
  unfold mx
  split <;> grind
theorem lift_up : ∀ {S : List Rat} {h : Rat}, Up h S → lift h (S.map some) = S.map some
  | [], _, _ => rfl
  | q :: r, h, u => by
    show some (mx h q) :: lift (mx h q) (r.map some) = some q :: r.map some
    rw [mx_ge' u.1, lift_up u.2]
theorem spr_some : ∀ (S : List Rat) (p : Rat), spr p (S.map some) = S
  | [], _ => rfl
  | q :: r, p => by
    show q :: spr q (r.map some) = q :: r
    rw [spr_some r q]
theorem fillE_some (S : List Rat) : fillE (S.map some) = S.map some := by
  have no : ∀ i : Nat, (S.map some)[i]? ≠ some (none : Option Rat) := fun i => by
    rw [List.getElem?_map]
    cases S[i]? <;> simp
  unfold fillE
  simp only
  have e : (if (S.map some)[(S.map some).length - 1]? = some (none : Option Rat) ∧ 1 < (S.map some).length then (S.map some).set ((S.map some).length - 1) (some 1) else S.map some) = S.map some := if_neg fun z => no _ z.1
  rw [e, if_neg (no 0)]
theorem settle_some {S : List Rat} (h : ∀ {i j : Nat} {a b : Rat}, i ≤ j → S[i]? = some a → S[j]? = some b → a ≤ b) : settle (S.map some) = S := by
  unfold settle
  rw [fillE_some]
  cases S with
  | nil => rfl
  | cons q r =>
    have e : headQ ((q :: r).map some) = q := rfl
    have u : Up q (q :: r) := by
      have g : ∀ (S : List Rat) (p : Rat), (∀ {i j : Nat} {a b : Rat}, i ≤ j → S[i]? = some a → S[j]? = some b → a ≤ b) → (∀ {b : Rat}, S[0]? = some b → p ≤ b) → Up p S := by
        intro S
        induction S with
        | nil => intro p _ _; trivial
        | cons u t ih =>
          intro p h1 h2
          exact ⟨h2 rfl, ih u (fun {i j a b} l e1 e2 => h1 (i := i + 1) (j := j + 1) (by omega) (by simpa using e1) (by simpa using e2)) fun {b} e => h1 (i := 0) (j := 1) (by omega) rfl (by simpa using e)⟩
      exact g (q :: r) q h fun {b} e2 => by
        have : q = b := by simpa using e2
        rw [this]
        exact Rat.le_refl
    rw [e, lift_up u, spr_some]
theorem settle_settledP {P : List (Rat × Option Rat)} (h : 0 < P.length) : settle ((settledP P).map (·.2)) = settle (P.map (·.2)) := by
  rw [settledP_inp]
  exact settle_some fun {i j a b} l e1 e2 => up_mono (settle_up h) l e1 e2
theorem lin_settledP {P : List (Rat × Option Rat)} (h : 0 < P.length) (x : Rat) : lin (settledP P) x = lin P x := by
  unfold lin
  rw [settledP_len, settle_settledP h, settledP_vAt]
  unfold linAt
  simp only [settledP_vAt]
theorem settledP_ok {n : Nat} {P : List (Rat × Option Rat)} (h : PtsOk n P) (n1 : 1 ≤ n) : PtsOk (3 * n + 18) (settledP P) := by
  refine ⟨by rw [settledP_len]; exact h.pos, by rw [settledP_len]; exact h.len, fun p hp => ?_, fun q hq => ?_⟩
  · obtain ⟨i, hi⟩ := List.getElem?_of_mem hp
    have hl := (List.getElem?_eq_some_iff.mp hi).1
    rw [settledP_len] at hl
    have e1 := List.getElem?_eq_getElem hl
    have e2 := List.getElem?_eq_getElem (l := settle (P.map (·.2))) (i := i) (by rw [settle_len]; exact hl)
    rw [settledP_at e1 e2] at hi
    rw [← Option.some.inj hi]
    exact (h.val _ (List.getElem_mem hl)).mono (by omega)
  · rw [settledP_inp] at hq
    have : q ∈ settle (P.map (·.2)) := by simpa using hq
    exact settle_bd h n1 q this
def settledC : Cv → Cv
  | .lin P => .lin (settledP P)
  | c => c
section
variable (K : PySem.W.Frag)
def spInner : Sp := fun vs H Q _ => ∃ (a b : Addr) (p q : Rat) (c : Nat), vs = [.ref a, .ref b, .int (c : Nat)] ∧ SqT K H a (fr p) ∧ SqT K H b (fr q) ∧ Bd 250 p ∧ Bd 250 q ∧ 0 < c ∧ c ≤ 200 ∧
  ∀ D ys H', H D = none → Same H H' → H' D = some (.lst ys) → FoL K H' ys ((List.range (c - 1)).map fun k => some (p + ((k + 1 : Nat) : Rat) * ((q - p) / (c : Rat)))) → Q (.ref D) H'
def spLifted : Sp := fun vs H Q _ => ∃ (l : Addr) (zs : List V) (L : List (Option Rat)) (h : Rat), vs = [.ref l] ∧ SqL K H l zs ∧ FoL K H zs L ∧ L[0]? = some (some h) ∧ L.length ≤ 200 ∧ (∀ q, some q ∈ L → Bd 250 q) ∧
  ∀ D ys H', H D = none → Same H H' → H' D = some (.lst ys) → FoL K H' ys (lift h L) → Q (.ref D) H'
def spSpread : Sp := fun vs H Q _ => ∃ (l : Addr) (zs : List V) (M : List (Option Rat)) (h : Rat), vs = [.ref l] ∧ SqL K H l zs ∧ FoL K H zs M ∧ M[0]? = some (some h) ∧ EndTold M ∧ M.length ≤ 200 ∧ (∀ q, some q ∈ M → Bd 250 q) ∧
  ∀ D ys H', H D = none → Same H H' → H' D = some (.lst ys) → FoL K H' ys ((spr h M).map some) → Q (.ref D) H'
def spSetPts : Sp := fun vs H Q _ => ∃ (v : V) (P : List (Rat × Option Rat)), vs = [v] ∧ It K H v (.tuple (P.map ptD)) ∧ PtsOk 250 P ∧ ∀ p H', Same H H' → It K H' (.ref p) (.tuple ((settledP P).map ptD)) → Q (.ref p) H'
def spSettled : Sp := fun vs H Q _ => ∃ (v : V) (c : Cv), vs = [v] ∧ It K H v (cvD c) ∧ CvOk 250 c ∧ ∀ p H', Same H H' → It K H' (.ref p) (cvD (settledC c)) → Q (.ref p) H'
end
/-! the spread so far -/
theorem take_told {h : Rat} {M : List (Option Rat)} {t i : Nat} {a b : Rat} (hl : M[t]? = some (some a)) (hh : M[i]? = some (some b)) (lt : t < i) (hn : ∀ k, t < k → k < i → M[k]? = some none) :
    (spr h M).take (i + 1) = (spr h M).take (t + 1) ++ ((List.range (i - t - 1)).map (fun k => a + ((k + 1 : Nat) : Rat) * ((b - a) / ((i - t : Nat) : Rat)))) ++ [b] := by
  have bt := spr_between (p := h) hl hh lt hn
  apply List.ext_getElem?
  intro j
  have li : i < M.length := (List.getElem?_eq_some_iff.mp hh).1
  have ls : (spr h M).length = M.length := spr_length h M
  have l1 : ((spr h M).take (t + 1)).length = t + 1 := by rw [List.length_take]; omega
  have l2 : ((List.range (i - t - 1)).map (fun k => a + ((k + 1 : Nat) : Rat) * ((b - a) / ((i - t : Nat) : Rat)))).length = i - t - 1 := by simp
  by_cases h1 : j < t + 1
  · rw [List.getElem?_append_left (by rw [List.length_append]; omega), List.getElem?_append_left (by omega), List.getElem?_take, List.getElem?_take, if_pos (by omega), if_pos h1]
  · by_cases h2 : j < i
    · rw [List.getElem?_append_left (by rw [List.length_append]; omega), List.getElem?_append_right (by omega), l1, List.getElem?_take, if_pos (by omega), List.getElem?_map, List.getElem?_range (by omega)]
      have e := bt (j - t) (by omega)
      have ej : t + (j - t) = j := by omega
      rw [ej] at e
      rw [e]
      have e3 : j - (t + 1) + 1 = j - t := by omega
      show some _ = some (a + ((j - (t + 1) + 1 : Nat) : Rat) * _)
      rw [e3]
    · by_cases h3 : j = i
      · subst h3
        rw [List.getElem?_append_right (by rw [List.length_append]; omega), List.length_append, l1, l2, List.getElem?_take, if_pos (by omega), spr_told hh]
        have : j - (t + 1 + (j - t - 1)) = 0 := by omega
        rw [this] <;> rfl
      · rw [List.getElem?_eq_none (by rw [List.length_take]; omega), List.getElem?_eq_none (by rw [List.length_append, List.length_append]; simp only [List.length_cons, List.length_nil]; omega)]
end FC
namespace FC
open PySem L2
theorem ref_ne_non {p : Addr} : ¬ (V.ref p = V.non) := fun z => by cases z
theorem some_ne_none {α : Type} {q : α} : ¬ (some q = none) := fun z => by cases z
end FC
namespace FC
open PySem L2
theorem fillE_zero {L : List (Option Rat)} {x : Option Rat} (h0 : 1 < L.length) (hx : L[0]? = some x) : (fillE L)[0]? = some (some (x.getD 0)) := by
  have h := fillE_head (L := L) (by omega)
  rw [h, headQ_eq h0 hx]
def fillA (L : List (Option Rat)) : List (Option Rat) := if L[0]? = some none then L.set 0 (some 0) else L
def fillB (L : List (Option Rat)) : List (Option Rat) := if L[L.length - 1]? = some none then L.set (L.length - 1) (some 1) else L
theorem fillA_len (L : List (Option Rat)) : (fillA L).length = L.length := by unfold fillA; split <;> simp
theorem fillB_len (L : List (Option Rat)) : (fillB L).length = L.length := by unfold fillB; split <;> simp
theorem fillAB {L : List (Option Rat)} (h : 0 < L.length) : fillB (fillA L) = fillE L := by
  by_cases h1 : L.length = 1
  · match L, h1 with
    | [none], _ => simp [fillA, fillB, fillE]
    | [some q], _ => simp [fillA, fillB, fillE]
  · have hA := fillA_len L
    have hB := fillB_len (fillA L)
    apply List.ext_getElem?
    intro j
    by_cases hj : j < L.length
    · have eL := List.getElem?_eq_getElem hj
      by_cases j0 : j = 0
      · subst j0
        rw [fillE_zero (by omega) eL]
        have a : (fillA L)[0]? = some (some (L[0].getD 0)) := by
          unfold fillA
          cases e : L[0] with
          | none => rw [e] at eL; rw [if_pos eL, List.getElem?_set, if_pos rfl, if_pos hj] <;> rfl
          | some q => rw [e] at eL; rw [if_neg (by rw [eL]; simp), eL] <;> rfl
        unfold fillB
        split
        · rw [List.getElem?_set, if_neg (by omega), a]
        · exact a
      · have a : (fillA L)[j]? = L[j]? := by
          unfold fillA
          split
          · rw [List.getElem?_set, if_neg (by omega)]
          · rfl
        by_cases jl : j = L.length - 1
        · subst jl
          rw [fillE_last (by omega) eL]
          unfold fillB
          rw [hA, a, eL]
          cases e : L[L.length - 1] with
          | none => rw [if_pos rfl, List.getElem?_set, if_pos rfl, if_pos (by omega)] <;> rfl
          | some q => rw [if_neg (by simp), a, eL, e] <;> rfl
        · rw [fillE_mid (by omega) (by omega)]
          unfold fillB
          split
          · rw [List.getElem?_set, if_neg (by omega), a]
          · exact a
    · rw [List.getElem?_eq_none (by omega), List.getElem?_eq_none (by rw [fillE_len]; omega)]
end FC
namespace FC
open PySem L2
theorem lastLe_top {S : List Rat} {x : Rat} : ∀ {m j : Nat}, j < m → ¬ x < S[j]?.getD 0 → j ≤ lastLe S x m
  | 0, j, h, _ => absurd h (by omega)
  | m + 1, j, h, hj => by
    unfold lastLe
    split
    · rename_i hm
      by_cases e : j = m
      · subst e
        exact absurd hm hj
      · exact lastLe_top (by omega) hj
    · omega
theorem lastLe_ok {S : List Rat} {x : Rat} : ∀ (m : Nat), lastLe S x m = 0 ∨ (lastLe S x m < m ∧ ¬ x < S[lastLe S x m]?.getD 0)
  | 0 => .inl rfl
  | m + 1 => by
    unfold lastLe
    split
    · rcases lastLe_ok (S := S) (x := x) m with h | h
      · exact .inl h
      · exact .inr ⟨by omega, h.2⟩
    · rename_i hm
      exact .inr ⟨by omega, hm⟩
def spLinear (K : PySem.W.Frag) : Sp := fun vs H Q _ => ∃ (v : V) (x : Addr) (P : List (Rat × Option Rat)) (y : Rat), vs = [v, .ref x] ∧ It K H v (.tuple (P.map ptD)) ∧ PtsOk 60 P ∧ SqT K H x (fr y) ∧ Bd 1200 y ∧ ∀ c H', Same H H' → SqT K H' c (fr (lin P y)) → Q (.ref c) H'
theorem max_L {K : PySem.W.Frag} {H : Hp} {Q : VK} {a : Addr} {ns : List Int} (m : Int) (h : SqL K H a (ns.map V.int)) (h1 : m ∈ ns) (h2 : ∀ y, y ∈ ns → y ≤ m) (q : Q (.int m) H) : rMax K [.ref a] H Q := by
  refine ⟨a, ns, rfl, h, List.length_pos_of_mem h1, fun z z1 z2 => ?_⟩
  have e : z = m := by
    have := h2 z z1
    have := z2 m h1
    omega
  rw [e]
  exact q
end FC
namespace FC
open PySem L2
def spLed (K : PySem.W.Frag) : Sp := fun vs H Q _ => ∃ (v : V) (x : Addr) (e : Bool) (c : Cv) (y : Rat), vs = [v, .ref x, .bl e] ∧ It K H v (cvD c) ∧ CvOk 31 c ∧ SqT K H x (fr y) ∧ Bd 1200 y ∧ ∀ c' H', Same H H' → SqT K H' c' (fr (cval c y e)) → Q (.ref c') H'
theorem law_most (n : Int) (w : Wh) : n + (if decide (w.s = "both") = true then 1 else 0) - (if decide (w.s = "none") = true then 1 else 0) = w.most n := by
  rw [wBoth, wNon]
  cases w <;> simp [Wh.most, Wh.isN, Wh.isB]
end FC
namespace FC
open PySem L2
section
variable {K : PySem.W.Frag} {σ : L2.St} {H : Hp} {Q : VK} {te : TE} {g : TG} {vs : List Nat} {J : L2.It} {n : Nat} {G : Hp → Prop} {Y : Nat → Hp → V → Hp → Prop} {a : Addr}
theorem LcJ_step {D : Addr} {N : Hp → Prop} {R : L2.St → Prop} : (fun (σ2 : L2.St) (H2 : Hp) => R σ2 ∧ tYes σ2 H2 fun b H3 => if b = true then te σ2 H3 fun y H4 => ∃ acc, H4 D = some (.lst acc) ∧ acc.length < sizeLine ∧ N (upd H4 D (.lst (acc ++ [y]))) else N H3) = fun σ2 H2 => R σ2 ∧ te σ2 H2 (LcBody D N) := by
  funext σ2 H2
  refine propext ⟨fun ⟨a, b⟩ => ⟨a, ?_⟩, fun ⟨a, b⟩ => ⟨a, ?_⟩⟩
  · have b' : if true = true then te σ2 H2 (LcBody D N) else N H2 := b
    rw [if_pos rfl] at b'
    exact b'
  · show if true = true then te σ2 H2 (LcBody D N) else N H2
    rw [if_pos rfl]
    exact b
/-- one item a turn; the items may draw -/
theorem lcJF (s : Src H a) (w : Walk J n G Y) (Item : Nat → V → Hp → Prop) (st : ∀ i y H H', Item i y H → Tp K H H' → Item i y H') (hG : ∀ H', Src H' a → Frm a H H' → G H') (hn : n ≤ 100000)
    (body : ∀ i x H1 H' (Q' : VK), i < n → Src H1 a → Frm a H H1 → Y i H1 x H' → (∀ y H'', Src H'' a → Frm a H1 H'' → Item i y H'' → Q' y H'') → g x (wipe σ vs) H' fun σ2 H2 => wipe σ2 vs = wipe σ vs ∧ te σ2 H2 Q')
    (k : ∀ D ys H', H D = none → Src H' a → Frm a H H' → H' D = some (.lst ys) → ys.length = n → AllAt Item ys H' → Q (.ref D) H') : LcJ J g tYes te vs σ Q H := by
  intro D hD
  have ne : D ≠ a := s.ne hD
  refine lc_it w (LcInvF a Item H D) ⟨?_, Frm.of (same_upd hD), [], upd_same, rfl, fun i y e => by simp at e⟩ (fun i H' _ v => hG H' v.1 v.2.1) ?_ ?_
  · obtain ⟨i1, j1, k1, hs⟩ := s
    exact ⟨i1, j1, k1, by rw [upd_ne ne.symm]; exact hs⟩
  · intro i x H1 H' hi v y
    rw [LcJ_step (R := fun σ2 => wipe σ2 vs = wipe σ vs)]
    exact body i x H1 H' (LcBody D (LcInvF a Item H D (i + 1))) hi v.1 v.2.1 y fun z H'' s2 f2 it => LcInvF.next (K := K) st hD ne v hi hn s2 f2 it
  · rintro H' ⟨s2, f2, ys, e, l, al⟩
    exact k D ys H' hD s2 f2 e l al
theorem LcL.of {b : Addr} {xs : List V} {tt : TT} (h : SqL K H b xs) (q : LcJ (Itl K b) g tt te vs σ Q H) : LcL K g tt te vs σ Q (.ref b) H := ⟨b, rfl, ⟨_, h⟩, q⟩
theorem LcT.of {b : Addr} {xs : List V} {tt : TT} (h : SqT K H b xs) (q : LcJ (Itt K b) g tt te vs σ Q H) : LcT K g tt te vs σ Q (.ref b) H := ⟨b, rfl, ⟨_, h⟩, q⟩
end
def Cv.s : Cv → Str
  | .lin _ => "linear"
  | .cub _ _ => "cubic"
  | .stp _ _ => "steps"
theorem It.cvH {K : PySem.W.Frag} {H : Hp} {v : V} {c : Cv} (h : It K H v (cvD c)) : ∃ p u r, v = .ref p ∧ SqT K H p (.str c.s :: u :: r) := by
  cases c with
  | lin P =>
    obtain ⟨p, t, rfl, hp, _⟩ := It.linI h
    exact ⟨p, _, _, rfl, hp⟩
  | cub a b =>
    obtain ⟨p, pa, pb, rfl, hp, _, _⟩ := It.cubI h
    exact ⟨p, _, _, rfl, hp⟩
  | stp n w =>
    obtain ⟨p, rfl, hp⟩ := It.stpI h
    exact ⟨p, _, _, rfl, hp⟩
/-- a place to ask at, with its flag -/
def Spt (K : PySem.W.Frag) (n : Nat) (v : V) (H : Hp) : Prop := ∃ t px q e, v = .ref t ∧ SqT K H t [.ref px, .bl e] ∧ SqT K H px (fr q) ∧ Bd n q
theorem Spt.tp {K : PySem.W.Frag} {n : Nat} {v : V} {H H' : Hp} (h : Spt K n v H) (t : Tp K H H') : Spt K n v H' := by
  obtain ⟨a, px, q, e, ev, h1, h2, b⟩ := h
  exact ⟨a, px, q, e, ev, t _ _ h1, t _ _ h2, b⟩
def spAsked (K : PySem.W.Frag) : Sp := fun vs H Q _ => ∃ (a p : Addr) (c : Cv), vs = [.ref a, .ref p] ∧ Src H a ∧ It K H (.ref p) (cvD c) ∧ CvOk 31 c ∧ ∀ D ys H', D ≠ a → H D = none → Src H' a → Frm a H H' → H' D = some (.lst ys) → ys.length ≤ 1000 → (∀ y ∈ ys, Spt K 150 y H') → Q (.ref D) H'
theorem Fr.of {K : PySem.W.Frag} {n : Nat} {p : Addr} {q : Rat} {H : Hp} (h : SqT K H p (fr q)) (b : Bd n q) : Fr K n (.ref p) H := ⟨p, q, rfl, h, b⟩
theorem Fr.lit {K : PySem.W.Frag} {n : Nat} {p : Addr} {q : Rat} {H : Hp} {xs : List V} (e : fr q = xs) (h : SqT K H p xs) (b : Bd n q) : Fr K n (.ref p) H := ⟨p, q, rfl, by rw [e]; exact h, b⟩
theorem FrL.mem {K : PySem.W.Frag} {H : Hp} {n : Nat} : ∀ {ys : List V} {qs : List Rat}, FrL K H ys qs → (∀ q ∈ qs, Bd n q) → ∀ y ∈ ys, Fr K n y H
  | [], [], _, _, y, hy => by simp at hy
  | z :: ys, q :: qs, f, b, y, hy => by
    rcases List.mem_cons.mp hy with rfl | hy
    · obtain ⟨p, e, hp⟩ := f.1
      exact ⟨p, q, e, hp, b q (by simp)⟩
    · exact FrL.mem f.2 (fun q hq => b q (by simp [hq])) y hy
  | [], _ :: _, f, _, _, _ => f.elim
  | _ :: _, [], f, _, _, _ => f.elim
theorem FrL.len {K : PySem.W.Frag} {H : Hp} : ∀ {ys : List V} {qs : List Rat}, FrL K H ys qs → ys.length = qs.length
  | [], [], _ => rfl
  | z :: ys, q :: qs, f => by simp [FrL.len f.2]
  | [], _ :: _, f => f.elim
  | _ :: _, [], f => f.elim
theorem fr_half : fr (1 / 2) = [.int 1, .int 2] := by decide +kernel
theorem fr_m72 : fr (-7 / 2) = [.int (-7), .int 2] := by decide +kernel
theorem fr_9 : fr 9 = [.int 9, .int 1] := by decide +kernel
theorem fr_13 : fr (1 / 3) = [.int 1, .int 3] := by decide +kernel
theorem fr_m32 : fr (-3 / 2) = [.int (-3), .int 2] := by decide +kernel
end FC
namespace FC
open PySem L2
theorem cvs_ls (P : List (Rat × Option Rat)) : ¬ (Cv.lin P).s = "steps" := by show ¬ ("linear" : Str) = "steps"; decide
theorem cvs_lc (P : List (Rat × Option Rat)) : ¬ (Cv.lin P).s = "cubic" := by show ¬ ("linear" : Str) = "cubic"; decide
theorem cvs_cs (a b : Rat) : ¬ (Cv.cub a b).s = "steps" := by show ¬ ("cubic" : Str) = "steps"; decide
theorem cvs_cl (a b : Rat) : ¬ (Cv.cub a b).s = "linear" := by show ¬ ("cubic" : Str) = "linear"; decide
theorem cvs_sl (n : Int) (w : Wh) : ¬ (Cv.stp n w).s = "linear" := by show ¬ ("steps" : Str) = "linear"; decide
theorem cvs_sc (n : Int) (w : Wh) : ¬ (Cv.stp n w).s = "cubic" := by show ¬ ("steps" : Str) = "cubic"; decide
end FC
namespace FC
open PySem L2
/-! ### lines moved and turned -/
def aff (st sz s : Rat) : Rat := st + sz * s
theorem aff_lt {st sz a b : Rat} (h : 0 < sz) : aff st sz a < aff st sz b ↔ a < b := by
  unfold aff
  constructor
  · intro z
    have z2 : sz * a < sz * b := by grind
    have z3 : a * sz < b * sz := by grind
    exact Rat.lt_of_mul_lt_mul_right z3 (Rat.le_of_lt h)
  · intro z
    have := Rat.mul_lt_mul_of_pos_right z h
    grind
theorem aff_le {st sz a b : Rat} (h : 0 < sz) (l : a ≤ b) : aff st sz a ≤ aff st sz b := by
  rw [← Rat.not_lt] at l ⊢
  exact fun z => l ((aff_lt h).mp z)
def movedP (st sz : Rat) (P : List (Rat × Option Rat)) : List (Rat × Option Rat) := (settledP P).map fun p => (p.1, p.2.map (aff st sz))
def turnedP (st : Rat) (P : List (Rat × Option Rat)) : List (Rat × Option Rat) := (settledP P).map fun p => (st + (-3 / 2) * p.1, p.2)
theorem movedP_inp (st sz : Rat) (P : List (Rat × Option Rat)) : (movedP st sz P).map (·.2) = ((settle (P.map (·.2))).map (aff st sz)).map some := by
  unfold movedP
  rw [List.map_map]
  have e : ((fun p : Rat × Option Rat => p.2) ∘ fun p : Rat × Option Rat => (p.1, p.2.map (aff st sz))) = (fun o : Option Rat => o.map (aff st sz)) ∘ (·.2) := rfl
  rw [e, ← List.map_map, settledP_inp, List.map_map, List.map_map] <;> rfl
theorem turnedP_inp (st : Rat) (P : List (Rat × Option Rat)) : (turnedP st P).map (·.2) = (settle (P.map (·.2))).map some := by
  unfold turnedP
  rw [List.map_map, ← settledP_inp] <;> rfl
theorem moved_settle {st sz : Rat} {P : List (Rat × Option Rat)} (h : 0 < P.length) (hz : 0 < sz) : settle ((movedP st sz P).map (·.2)) = (settle (P.map (·.2))).map (aff st sz) := by
  rw [movedP_inp]
  refine settle_some fun {i j a b} l e1 e2 => ?_
  rw [List.getElem?_map] at e1 e2
  cases x1 : (settle (P.map (·.2)))[i]? with
  | none => rw [x1] at e1; cases e1
  | some u =>
    cases x2 : (settle (P.map (·.2)))[j]? with
    | none => rw [x2] at e2; cases e2
    | some v =>
      rw [x1] at e1
      rw [x2] at e2
      rw [← Option.some.inj e1, ← Option.some.inj e2]
      exact aff_le hz (up_mono (settle_up h) l x1 x2)
theorem turned_settle {st : Rat} {P : List (Rat × Option Rat)} (h : 0 < P.length) : settle ((turnedP st P).map (·.2)) = settle (P.map (·.2)) := by
  rw [turnedP_inp]
  exact settle_some fun {i j a b} l e1 e2 => up_mono (settle_up h) l e1 e2
theorem lastLe_aff {st sz x : Rat} (hz : 0 < sz) {S : List Rat} : ∀ {m : Nat}, m ≤ S.length → lastLe (S.map (aff st sz)) (aff st sz x) m = lastLe S x m
  | 0, _ => rfl
  | m + 1, h => by
    unfold lastLe
    have e := List.getElem?_eq_getElem (l := S) (i := m) (by omega)
    have e2 : (S.map (aff st sz))[m]? = some (aff st sz S[m]) := by rw [List.getElem?_map, e] <;> rfl
    rw [getD_of e, getD_of e2, lastLe_aff hz (m := m) (by omega)]
    by_cases c : x < S[m]
    · rw [if_pos c, if_pos ((aff_lt hz).mpr c)]
    · rw [if_neg c, if_neg fun z => c ((aff_lt hz).mp z)]
theorem vAt_map {P : List (Rat × Option Rat)} {f : Rat × Option Rat → Rat × Option Rat} {k : Nat} {g : Rat → Rat} (hf : ∀ p, (f p).1 = g p.1) (hk : k < P.length) : vAt (P.map f) k = g (vAt P k) := by
  unfold vAt
  have e := List.getElem?_eq_getElem hk
  rw [List.getElem?_map, e]
  exact hf _
theorem movedP_vAt {st sz : Rat} {P : List (Rat × Option Rat)} {k : Nat} (hk : k < P.length) : vAt (movedP st sz P) k = vAt P k := by
  unfold movedP
  rw [vAt_map (f := fun p : Rat × Option Rat => (p.1, p.2.map (aff st sz))) (g := id) (fun _ => rfl) (by rw [settledP_len]; exact hk)]
  exact settledP_vAt P k
theorem turnedP_vAt {st : Rat} {P : List (Rat × Option Rat)} {k : Nat} (hk : k < P.length) : vAt (turnedP st P) k = st + (-3 / 2) * vAt P k := by
  unfold turnedP
  rw [vAt_map (g := fun v => st + (-3 / 2) * v) (fun _ => rfl) (by rw [settledP_len]; exact hk), settledP_vAt]
theorem movedP_len (st sz : Rat) (P : List (Rat × Option Rat)) : (movedP st sz P).length = P.length := by unfold movedP; rw [List.length_map, settledP_len]
theorem turnedP_len (st : Rat) (P : List (Rat × Option Rat)) : (turnedP st P).length = P.length := by unfold turnedP; rw [List.length_map, settledP_len]
theorem lin_moved {st sz x : Rat} {P : List (Rat × Option Rat)} (h : 0 < P.length) (hz : 0 < sz) : lin (movedP st sz P) (aff st sz x) = lin P x := by
  unfold lin
  rw [movedP_len]
  by_cases h1 : P.length = 1
  · rw [if_pos h1, if_pos h1, movedP_vAt h]
  · rw [if_neg h1, if_neg h1, moved_settle h hz, lastLe_aff hz (by rw [settle_len]; omega)]
    have hk := lastLe_lt (S := settle (P.map (·.2))) (x := x) (m := P.length - 1) (by omega)
    have sl := settle_len P
    generalize lastLe (settle (P.map (·.2))) x (P.length - 1) = k at hk
    generalize settle (P.map (·.2)) = S at *
    unfold linAt
    rw [movedP_vAt (by omega), movedP_vAt (by omega)]
    have e1 := List.getElem?_eq_getElem (l := S) (i := k) (by omega)
    have e2 := List.getElem?_eq_getElem (l := S) (i := k + 1) (by omega)
    have a1 : (S.map (aff st sz))[k]?.getD 0 = aff st sz (S[k]?.getD 0) := by rw [List.getElem?_map, e1] <;> rfl
    have a2 : (S.map (aff st sz))[k + 1]?.getD 0 = aff st sz (S[k + 1]?.getD 0) := by rw [List.getElem?_map, e2] <;> rfl
    rw [a1, a2]
    generalize S[k]?.getD 0 = s0
    generalize S[k + 1]?.getD 0 = s1
    by_cases c : s0 = s1
    · subst c
      rw [if_pos rfl, if_pos rfl]
    · have c2 : ¬ aff st sz s0 = aff st sz s1 := by
        unfold aff
        intro z
        have z2 : sz * s0 = sz * s1 := by grind
        exact c (by grind)
      rw [if_neg c, if_neg c2]
      have e : (aff st sz x - aff st sz s0) / (aff st sz s1 - aff st sz s0) = (x - s0) / (s1 - s0) := by
        unfold aff
        have n1 : s1 - s0 ≠ 0 := by grind
        have n2 : sz ≠ 0 := by grind
        have f1 : st + sz * x - (st + sz * s0) = sz * (x - s0) := by grind
        have f2 : st + sz * s1 - (st + sz * s0) = sz * (s1 - s0) := by grind
        rw [f1, f2]
        generalize x - s0 = A
        generalize s1 - s0 = B at n1
        grind
      rw [e]
theorem lin_turned {st x : Rat} {P : List (Rat × Option Rat)} (h : 0 < P.length) : lin (turnedP st P) x = st + (-3 / 2) * lin P x := by
  unfold lin
  rw [turnedP_len]
  by_cases h1 : P.length = 1
  · rw [if_pos h1, if_pos h1, turnedP_vAt h]
  · rw [if_neg h1, if_neg h1, turned_settle h]
    have hk := lastLe_lt (S := settle (P.map (·.2))) (x := x) (m := P.length - 1) (by omega)
    generalize lastLe (settle (P.map (·.2))) x (P.length - 1) = k at hk
    generalize settle (P.map (·.2)) = S at *
    unfold linAt
    rw [turnedP_vAt (by omega), turnedP_vAt (by omega)]
    generalize S[k]?.getD 0 = s0
    generalize S[k + 1]?.getD 0 = s1
    by_cases c : s0 = s1
    · rw [if_pos c, if_pos c]
    · rw [if_neg c, if_neg c]
      generalize (x - s0) / (s1 - s0) = w
      grind
theorem movedP_ok {st sz : Rat} {P : List (Rat × Option Rat)} (h : PtsOk 31 P) (b1 : Bd 31 st) (b2 : Bd 40 sz) : PtsOk 250 (movedP st sz P) := by
  have s := settledP_ok h (by decide)
  refine ⟨by rw [movedP_len]; exact h.pos, by rw [movedP_len]; exact h.len, fun p hp => ?_, fun q hq => ?_⟩
  · unfold movedP at hp
    obtain ⟨z, hz, rfl⟩ := List.mem_map.mp hp
    exact (s.val z hz).mono (by decide)
  · rw [movedP_inp] at hq
    have hq' : q ∈ (settle (P.map (·.2))).map (aff st sz) := by simpa using hq
    obtain ⟨z, hz, rfl⟩ := List.mem_map.mp hq'
    exact (Bd.add b1 (Bd.mul b2 (settle_bd h (by decide) z hz))).mono (by decide)
theorem turnedP_ok {st : Rat} {P : List (Rat × Option Rat)} (h : PtsOk 31 P) (b1 : Bd 31 st) : PtsOk 250 (turnedP st P) := by
  have s := settledP_ok h (by decide)
  have b : Bd 2 (-3 / 2 : Rat) := by unfold Bd; decide +kernel
  refine ⟨by rw [turnedP_len]; exact h.pos, by rw [turnedP_len]; exact h.len, fun p hp => ?_, fun q hq => ?_⟩
  · unfold turnedP at hp
    obtain ⟨z, hz, rfl⟩ := List.mem_map.mp hp
    exact (Bd.add b1 (Bd.mul b (s.val z hz))).mono (by decide)
  · rw [turnedP_inp] at hq
    have hq' : q ∈ settle (P.map (·.2)) := by simpa using hq
    exact (settle_bd h (by decide) q hq').mono (by decide)
theorem settledP_some {P : List (Rat × Option Rat)} {i : Nat} (hi : i < P.length) : ∃ v s, (settledP P)[i]? = some (v, some s) ∧ P[i]?.map (·.1) = some v ∧ (settle (P.map (·.2)))[i]? = some s := by
  have e1 := List.getElem?_eq_getElem hi
  have e2 := List.getElem?_eq_getElem (l := settle (P.map (·.2))) (i := i) (by rw [settle_len]; exact hi)
  exact ⟨_, _, settledP_at e1 e2, by rw [e1] <;> rfl, e2⟩
def spChanged (K : PySem.W.Frag) : Sp := fun vs H Q _ => ∃ (a p x : Addr) (P : List (Rat × Option Rat)) (y : Rat), vs = [.ref a, .ref p, .ref x] ∧ Src H a ∧ It K H (.ref p) (cvD (.lin P)) ∧ PtsOk 31 P ∧ SqT K H x (fr y) ∧ Bd 31 y ∧ ∀ H', Src H' a → Frm a H H' → Q (.bl true) H'
end FC
namespace FC
open PySem L2
section
variable {r : L2.St} {H : Hp} {Q : VK} {v : V} {p0 p1 p2 p3 p4 p5 p6 p7 p8 p9 p10 p11 p12 p13 p14 p15 p16 p17 p18 p19 : Option V}
theorem v10 (q : Q v H) : tVar 10 (p0 :: p1 :: p2 :: p3 :: p4 :: p5 :: p6 :: p7 :: p8 :: p9 :: some v :: r) H Q := ⟨v, rfl, q⟩
theorem g10 {P : L2.St → Hp → Prop} (q : P (p0 :: p1 :: p2 :: p3 :: p4 :: p5 :: p6 :: p7 :: p8 :: p9 :: some v :: r) H) : gName 10 v (p0 :: p1 :: p2 :: p3 :: p4 :: p5 :: p6 :: p7 :: p8 :: p9 :: p10 :: r) H P := q
theorem v11 (q : Q v H) : tVar 11 (p0 :: p1 :: p2 :: p3 :: p4 :: p5 :: p6 :: p7 :: p8 :: p9 :: p10 :: some v :: r) H Q := ⟨v, rfl, q⟩
theorem g11 {P : L2.St → Hp → Prop} (q : P (p0 :: p1 :: p2 :: p3 :: p4 :: p5 :: p6 :: p7 :: p8 :: p9 :: p10 :: some v :: r) H) : gName 11 v (p0 :: p1 :: p2 :: p3 :: p4 :: p5 :: p6 :: p7 :: p8 :: p9 :: p10 :: p11 :: r) H P := q
theorem v12 (q : Q v H) : tVar 12 (p0 :: p1 :: p2 :: p3 :: p4 :: p5 :: p6 :: p7 :: p8 :: p9 :: p10 :: p11 :: some v :: r) H Q := ⟨v, rfl, q⟩
theorem g12 {P : L2.St → Hp → Prop} (q : P (p0 :: p1 :: p2 :: p3 :: p4 :: p5 :: p6 :: p7 :: p8 :: p9 :: p10 :: p11 :: some v :: r) H) : gName 12 v (p0 :: p1 :: p2 :: p3 :: p4 :: p5 :: p6 :: p7 :: p8 :: p9 :: p10 :: p11 :: p12 :: r) H P := q
theorem v13 (q : Q v H) : tVar 13 (p0 :: p1 :: p2 :: p3 :: p4 :: p5 :: p6 :: p7 :: p8 :: p9 :: p10 :: p11 :: p12 :: some v :: r) H Q := ⟨v, rfl, q⟩
theorem g13 {P : L2.St → Hp → Prop} (q : P (p0 :: p1 :: p2 :: p3 :: p4 :: p5 :: p6 :: p7 :: p8 :: p9 :: p10 :: p11 :: p12 :: some v :: r) H) : gName 13 v (p0 :: p1 :: p2 :: p3 :: p4 :: p5 :: p6 :: p7 :: p8 :: p9 :: p10 :: p11 :: p12 :: p13 :: r) H P := q
theorem v14 (q : Q v H) : tVar 14 (p0 :: p1 :: p2 :: p3 :: p4 :: p5 :: p6 :: p7 :: p8 :: p9 :: p10 :: p11 :: p12 :: p13 :: some v :: r) H Q := ⟨v, rfl, q⟩
theorem g14 {P : L2.St → Hp → Prop} (q : P (p0 :: p1 :: p2 :: p3 :: p4 :: p5 :: p6 :: p7 :: p8 :: p9 :: p10 :: p11 :: p12 :: p13 :: some v :: r) H) : gName 14 v (p0 :: p1 :: p2 :: p3 :: p4 :: p5 :: p6 :: p7 :: p8 :: p9 :: p10 :: p11 :: p12 :: p13 :: p14 :: r) H P := q
theorem v15 (q : Q v H) : tVar 15 (p0 :: p1 :: p2 :: p3 :: p4 :: p5 :: p6 :: p7 :: p8 :: p9 :: p10 :: p11 :: p12 :: p13 :: p14 :: some v :: r) H Q := ⟨v, rfl, q⟩
theorem g15 {P : L2.St → Hp → Prop} (q : P (p0 :: p1 :: p2 :: p3 :: p4 :: p5 :: p6 :: p7 :: p8 :: p9 :: p10 :: p11 :: p12 :: p13 :: p14 :: some v :: r) H) : gName 15 v (p0 :: p1 :: p2 :: p3 :: p4 :: p5 :: p6 :: p7 :: p8 :: p9 :: p10 :: p11 :: p12 :: p13 :: p14 :: p15 :: r) H P := q
theorem v16 (q : Q v H) : tVar 16 (p0 :: p1 :: p2 :: p3 :: p4 :: p5 :: p6 :: p7 :: p8 :: p9 :: p10 :: p11 :: p12 :: p13 :: p14 :: p15 :: some v :: r) H Q := ⟨v, rfl, q⟩
theorem g16 {P : L2.St → Hp → Prop} (q : P (p0 :: p1 :: p2 :: p3 :: p4 :: p5 :: p6 :: p7 :: p8 :: p9 :: p10 :: p11 :: p12 :: p13 :: p14 :: p15 :: some v :: r) H) : gName 16 v (p0 :: p1 :: p2 :: p3 :: p4 :: p5 :: p6 :: p7 :: p8 :: p9 :: p10 :: p11 :: p12 :: p13 :: p14 :: p15 :: p16 :: r) H P := q
theorem v17 (q : Q v H) : tVar 17 (p0 :: p1 :: p2 :: p3 :: p4 :: p5 :: p6 :: p7 :: p8 :: p9 :: p10 :: p11 :: p12 :: p13 :: p14 :: p15 :: p16 :: some v :: r) H Q := ⟨v, rfl, q⟩
theorem g17 {P : L2.St → Hp → Prop} (q : P (p0 :: p1 :: p2 :: p3 :: p4 :: p5 :: p6 :: p7 :: p8 :: p9 :: p10 :: p11 :: p12 :: p13 :: p14 :: p15 :: p16 :: some v :: r) H) : gName 17 v (p0 :: p1 :: p2 :: p3 :: p4 :: p5 :: p6 :: p7 :: p8 :: p9 :: p10 :: p11 :: p12 :: p13 :: p14 :: p15 :: p16 :: p17 :: r) H P := q
theorem v18 (q : Q v H) : tVar 18 (p0 :: p1 :: p2 :: p3 :: p4 :: p5 :: p6 :: p7 :: p8 :: p9 :: p10 :: p11 :: p12 :: p13 :: p14 :: p15 :: p16 :: p17 :: some v :: r) H Q := ⟨v, rfl, q⟩
theorem g18 {P : L2.St → Hp → Prop} (q : P (p0 :: p1 :: p2 :: p3 :: p4 :: p5 :: p6 :: p7 :: p8 :: p9 :: p10 :: p11 :: p12 :: p13 :: p14 :: p15 :: p16 :: p17 :: some v :: r) H) : gName 18 v (p0 :: p1 :: p2 :: p3 :: p4 :: p5 :: p6 :: p7 :: p8 :: p9 :: p10 :: p11 :: p12 :: p13 :: p14 :: p15 :: p16 :: p17 :: p18 :: r) H P := q
theorem v19 (q : Q v H) : tVar 19 (p0 :: p1 :: p2 :: p3 :: p4 :: p5 :: p6 :: p7 :: p8 :: p9 :: p10 :: p11 :: p12 :: p13 :: p14 :: p15 :: p16 :: p17 :: p18 :: some v :: r) H Q := ⟨v, rfl, q⟩
theorem g19 {P : L2.St → Hp → Prop} (q : P (p0 :: p1 :: p2 :: p3 :: p4 :: p5 :: p6 :: p7 :: p8 :: p9 :: p10 :: p11 :: p12 :: p13 :: p14 :: p15 :: p16 :: p17 :: p18 :: some v :: r) H) : gName 19 v (p0 :: p1 :: p2 :: p3 :: p4 :: p5 :: p6 :: p7 :: p8 :: p9 :: p10 :: p11 :: p12 :: p13 :: p14 :: p15 :: p16 :: p17 :: p18 :: p19 :: r) H P := q
end
end FC

namespace FC
open PySem L2
/-! ### classes -/
structure GoodMk (P : Program) (w : World) (K : PySem.W.Frag) (mg : Str → Option Value) (base : Heap) (x : Str) (k : Nat) (ps : List Str) (sp : Sp) : Prop where
  g : mg x = some (.ref (He.ga K x))
  mk_ : Mk K (He.ga K x) (He.ma K (He.ga K x) "__init__")
  fn : ∃ fd, Binds K fd ps [] ∧ FnOk P w K mg base CX0 k (He.ma K (He.ga K x) "__init__") fd ps sp
theorem pe_gmk {X : Cx} {x : Str} {k : Nat} {ps : List Str} {sp : Sp} {e : Expr} {es : List Expr} {t : TA} {p pos : Pos} (G : GoodMk X.prog X.w X.K X.mg X.base x k ps sp) (hr : Room (k + 1) X.A) (ha : PA X (e :: es) t) (hg : Gl X x := by rfl) (hdb : (x == ("__debug__" : Str)) = false := by decide)
    (he : starEach (e :: es) X.env = (false, eval e X.env) :: starEach es X.env := by rfl) (hpl : (backTo pos (starEach es X.env)).any (·.1) = false := by rfl) : PE X (.Call (.Name x p) (e :: es) [] pos) (tMake (He.ga X.K x) sp [] E0 t) := by
  obtain ⟨fd, hb, F⟩ := G.fn
  exact pe_make G.mk_ F hr hg G.g hb .nil pass0 ha hdb he hpl
section
variable {K : PySem.W.Frag} {σ : L2.St} {H : Hp} {Q : VK} {D : Ends} {ta tv : TE} {t : TA} {f : Str} {C a dx : Addr} {fs : List (Str × V)} {v y : V}
def FldP (K : PySem.W.Frag) (f : Str) (Q : VK) : VK := fun x H1 => ∃ a C dx fs v, x = .ref a ∧ H1 a = some (.ins C dx fs) ∧ Cls K C ∧ NoAttr K C f ∧ fs.lookup f = some v ∧ Q v H1
theorem xfld (q : ta σ H (FldP K f Q)) : tFld K ta f σ H Q := q
theorem fld_ (h : H a = some (.ins C dx fs)) (c : Cls K C) (n : NoAttr K C f) (l : fs.lookup f = some v) (q : Q v H) : FldP K f Q (.ref a) H := ⟨a, C, dx, fs, v, rfl, h, c, n, l, q⟩
def SFldP (K : PySem.W.Frag) (f : Str) (D : Ends) (σ : L2.St) (y : V) : VK := fun x H2 => ∃ a C dx fs, x = .ref a ∧ H2 a = some (.ins C dx fs) ∧ Cls K C ∧ NoAttr K C f ∧ fs.length < 1000 ∧ D.nx σ (upd H2 a (.ins C dx (putF f y fs)))
theorem xsfld (q : tv σ H fun y H1 => ta σ H1 (SFldP K f D σ y)) : sFld K ta tv f D σ H := q
theorem sfld_ (h : H a = some (.ins C dx fs)) (c : Cls K C) (n : NoAttr K C f) (l : fs.length < 1000) (q : D.nx σ (upd H a (.ins C dx (putF f y fs)))) : SFldP K f D σ y (.ref a) H := ⟨a, C, dx, fs, rfl, h, c, n, l, q⟩
def MkP (C : Addr) (sp : Sp) (E : XK) (Q : VK) : List V → Hp → Prop := fun vs H1 => ∀ x dx, H1 x = none → H1 dx = none → dx ≠ x → sp (.ref x :: vs) (upd (upd H1 dx (.own x)) x (.ins C dx [])) (fun v H2 => v = .non ∧ Q (.ref x) H2) E
theorem xmake {sp : Sp} {E : XK} (q : t σ H (MkP C sp E Q)) : tMake C sp [] E t σ H Q := by
  have e : (fun vs H1 => ∀ x dx, H1 x = none → H1 dx = none → dx ≠ x → sp (.ref x :: (vs ++ [])) (upd (upd H1 dx (.own x)) x (.ins C dx [])) (fun v H2 => v = .non ∧ Q (.ref x) H2) E) = MkP C sp E Q := by
    funext vs H1
    rw [List.append_nil] <;> rfl
  show t σ H (fun vs H1 => ∀ x dx, H1 x = none → H1 dx = none → dx ≠ x → sp (.ref x :: (vs ++ [])) (upd (upd H1 dx (.own x)) x (.ins C dx [])) (fun v H2 => v = .non ∧ Q (.ref x) H2) E)
  rw [e]
  exact q
end
/-! ### durations: fractions, or endless -/
def duD : Option Rat → PyData
  | none => .str "endless"
  | some q => frD q
def jn : Option Rat → Option Rat → Option Rat
  | some p, some q => some (p + q)
  | _, _ => none
def mul2 : Option Rat → Option Rat → Option Rat
  | some p, some q => some (p * q)
  | _, _ => none
def rp (a b : Option Rat) : Option Rat := if a = some 0 ∨ b = some 0 then some 0 else mul2 a b
/-- below: endless is above all -/
def blw : Option Rat → Option Rat → Bool
  | none, _ => false
  | some _, none => true
  | some p, some q => decide (p < q)
def lsr (a b : Option Rat) : Option Rat := if blw b a = true then b else a
def gtr (a b : Option Rat) : Option Rat := if blw a b = true then b else a
/-- sizes of both fit, if both are fractions -/
def Pro (a b : Option Rat) : Prop := ∀ p q, a = some p → b = some q → Pr p q
def Bo (n : Nat) (a : Option Rat) : Prop := ∀ q, a = some q → Bd n q
theorem Bo.pro {n m : Nat} {a b : Option Rat} (h1 : Bo n a) (h2 : Bo m b) (h : n + m ≤ 8990) : Pro a b := fun p q e1 e2 => Pr.bd (h1 p e1) (h2 q e2) h
theorem Bo.some {n : Nat} {q : Rat} (h : Bd n q) : Bo n (Option.some q) := fun p e => by cases e; exact h
theorem Bo.none {n : Nat} : Bo n Option.none := fun p e => by cases e
theorem Bo.mono {n m : Nat} {a : Option Rat} (h : Bo n a) (l : n ≤ m) : Bo m a := fun q e => (h q e).mono l
theorem Bo.jn {n m : Nat} {a b : Option Rat} (h1 : Bo n a) (h2 : Bo m b) : Bo (n + m + 1) (jn a b) := by
  cases a with
  | none => exact Bo.none
  | some p =>
    cases b with
    | none => exact Bo.none
    | some q => exact Bo.some (Bd.add (h1 p rfl) (h2 q rfl))
theorem Bo.rp {n m : Nat} {a b : Option Rat} (h1 : Bo n a) (h2 : Bo m b) : Bo (n + m + 1) (rp a b) := by
  unfold FC.rp
  split
  · exact Bo.some (Bd.q0.mono (by omega))
  · cases a with
    | none => exact Bo.none
    | some p =>
      cases b with
      | none => exact Bo.none
      | some q => exact Bo.some ((Bd.mul (h1 p rfl) (h2 q rfl)).mono (by omega))
theorem Bo.lsr {n m : Nat} {a b : Option Rat} (h1 : Bo n a) (h2 : Bo m b) : Bo (max n m) (lsr a b) := by
  unfold FC.lsr
  split
  · exact h2.mono (Nat.le_max_right _ _)
  · exact h1.mono (Nat.le_max_left _ _)
theorem Bo.gtr {n m : Nat} {a b : Option Rat} (h1 : Bo n a) (h2 : Bo m b) : Bo (max n m) (gtr a b) := by
  unfold FC.gtr
  split
  · exact h2.mono (Nat.le_max_right _ _)
  · exact h1.mono (Nat.le_max_left _ _)
section
variable {K : PySem.W.Frag} {H : Hp} {Q : VK} {E : XK}
theorem It.duE {v : V} (h : It K H v (duD none)) : v = .str "endless" := It.strI h
theorem It.duF {v : V} {q : Rat} (h : It K H v (duD (some q))) : ∃ p, v = .ref p ∧ SqT K H p (FC.fr q) := It.frI h
theorem sh_du (x : Option Rat) : SeqAt.shaped (duD x) = true := by
  cases x with
  | none => show SeqAt.shaped (.str "endless") = true; decide +kernel
  | some q => exact sh_fr q
theorem eqv_du (a b : Option Rat) : PyData.eqv (duD a) (duD b) = decide (a = b) := by
  cases a with
  | none =>
    cases b with
    | none => decide +kernel
    | some q => rfl
  | some p =>
    cases b with
    | none => rfl
    | some q =>
      show PyData.eqv (frD p) (frD q) = _
      rw [eqv_fr]
      exact decide_eq_decide.mpr ⟨fun h => by rw [h], fun h => Option.some.inj h⟩
/-- == of two of these -/
theorem eqDu_ {u v : V} {a b : Option Rat} (h1 : It K H u (duD a)) (h2 : It K H v (duD b)) (q : Q (.bl (decide (a = b))) H) : rEqD K u v H Q := eqI_ h1 h2 (sh_du a) (sh_du b) (by rw [eqv_du]; exact q)
theorem neDu_ {u v : V} {a b : Option Rat} (h1 : It K H u (duD a)) (h2 : It K H v (duD b)) (q : Q (.bl (!decide (a = b))) H) : rNeD K u v H Q := neI_ h1 h2 (sh_du a) (sh_du b) (by rw [eqv_du]; exact q)
theorem It.du0 {p : Addr} (h : SqT K H p (FC.fr 0)) : It K H (.ref p) (duD (some 0)) := It.fr h
theorem It.duS : It K H (.str "endless") (duD none) := .str _
def spDu2 (K : PySem.W.Frag) (op : Option Rat → Option Rat → Option Rat) (pre : Option Rat → Option Rat → Prop) : Sp := fun vs H Q _ => ∃ (u v : V) (a b : Option Rat), vs = [u, v] ∧ It K H u (duD a) ∧ It K H v (duD b) ∧ pre a b ∧ ∀ z H', Same H H' → It K H' z (duD (op a b)) → Q z H'
abbrev spJoined (K : PySem.W.Frag) : Sp := spDu2 K jn Pro
abbrev spRepeated (K : PySem.W.Frag) : Sp := spDu2 K rp Pro
abbrev spLesser (K : PySem.W.Frag) : Sp := spDu2 K lsr Pro
abbrev spGreater (K : PySem.W.Frag) : Sp := spDu2 K gtr Pro
def spBelow (K : PySem.W.Frag) : Sp := fun vs H Q _ => ∃ (u v : V) (a b : Option Rat), vs = [u, v] ∧ It K H u (duD a) ∧ It K H v (duD b) ∧ Pro a b ∧ Q (.bl (blw a b)) H
theorem du2_ {op : Option Rat → Option Rat → Option Rat} {pre : Option Rat → Option Rat → Prop} {u v : V} {a b : Option Rat} (h1 : It K H u (duD a)) (h2 : It K H v (duD b)) (h3 : pre a b) (k : ∀ z H', Same H H' → It K H' z (duD (op a b)) → Q z H') : spDu2 K op pre [u, v] H Q E := ⟨u, v, a, b, rfl, h1, h2, h3, k⟩
theorem blw_ {u v : V} {a b : Option Rat} (h1 : It K H u (duD a)) (h2 : It K H v (duD b)) (h3 : Pro a b) (k : Q (.bl (blw a b)) H) : spBelow K [u, v] H Q E := ⟨u, v, a, b, rfl, h1, h2, h3, k⟩
theorem It.same {H' : Hp} {v : V} {d : PyData} (e : Same H H') (h : It K H v d) : It K H' v d := h.st (Tp.same e)
end
end FC

namespace FC
open PySem L2
/-! ### timings -/
inductive Fi where
  | non | fwd | bwd | both
  deriving DecidableEq
def Fi.s : Fi → Str
  | .non => "none"
  | .fwd => "forwards"
  | .bwd => "backwards"
  | .both => "both"
inductive Wy where
  | nor | rev | alt | altr
  deriving DecidableEq
def Wy.s : Wy → Str
  | .nor => "normal"
  | .rev => "reverse"
  | .alt => "alternate"
  | .altr => "alternate reverse"
structure Tm where
  delay : Rat
  behind : Rat
  fill : Fi
  first : Rat
  times : Option Rat
  length : Option (Option Rat)
  way : Wy
  curve : Cv
def loD : Option (Option Rat) → PyData
  | none => .none
  | some d => duD d
def tmD (t : Tm) : PyData := .tuple [frD t.delay, frD t.behind, .str t.fill.s, frD t.first, duD t.times, loD t.length, .str t.way.s, cvD t.curve]
def Nn (d : Option Rat) : Prop := ∀ q, d = some q → 0 ≤ q
structure TmOk (n m : Nat) (t : Tm) : Prop where
  delay : Bd n t.delay
  behind : Bd n t.behind
  first0 : 0 ≤ t.first
  first : Bd m t.first
  times0 : Nn t.times
  times : Bo m t.times
  length0 : ∀ d, t.length = some d → Nn d
  length : ∀ d, t.length = some d → Bo m d
  curve : CvOk 31 t.curve
def Tm.len (t : Tm) : Option Rat := t.length.getD (some 0)
def Tm.act (t : Tm) : Option Rat := rp t.len t.times
def Tm.over (t : Tm) : Option Rat := jn (some t.delay) t.act
def Tm.fin (t : Tm) : Option Rat := gtr (jn t.over (some t.behind)) (some 0)
def Tm.fe (t : Tm) : Option Rat := gtr (lsr (some t.delay) t.fin) (some 0)
def Tm.se (t : Tm) : Option Rat := gtr (lsr t.over t.fin) (some 0)
theorem TmOk.lenB {n m : Nat} {t : Tm} (h : TmOk n m t) (m1 : 1 ≤ m) : Bo m t.len := by
  unfold Tm.len
  cases e : t.length with
  | none => exact Bo.some (Bd.q0.mono m1)
  | some d => exact h.length d e
theorem TmOk.len0 {n m : Nat} {t : Tm} (h : TmOk n m t) : Nn t.len := by
  unfold Tm.len
  cases e : t.length with
  | none => intro q z; cases z; exact Rat.le_refl
  | some d => exact h.length0 d e
theorem TmOk.actB {n m : Nat} {t : Tm} (h : TmOk n m t) (m1 : 1 ≤ m) : Bo (2 * m + 1) t.act := (Bo.rp (h.lenB m1) h.times).mono (by omega)
theorem TmOk.overB {n m : Nat} {t : Tm} (h : TmOk n m t) (m1 : 1 ≤ m) : Bo (n + 2 * m + 2) t.over := (Bo.jn (Bo.some h.delay) (h.actB m1)).mono (by omega)
theorem TmOk.finB {n m : Nat} {t : Tm} (h : TmOk n m t) (m1 : 1 ≤ m) : Bo (2 * n + 2 * m + 3) t.fin := (Bo.gtr (Bo.jn (h.overB m1) (Bo.some h.behind)) (Bo.some (Bd.q0.mono m1))).mono (by omega)
theorem TmOk.feB {n m : Nat} {t : Tm} (h : TmOk n m t) (m1 : 1 ≤ m) : Bo (2 * n + 2 * m + 3) t.fe := (Bo.gtr (Bo.lsr (Bo.some h.delay) (h.finB m1)) (Bo.some (Bd.q0.mono m1))).mono (by omega)
theorem TmOk.seB {n m : Nat} {t : Tm} (h : TmOk n m t) (m1 : 1 ≤ m) : Bo (2 * n + 2 * m + 3) t.se := (Bo.gtr (Bo.lsr (h.overB m1) (h.finB m1)) (Bo.some (Bd.q0.mono m1))).mono (by omega)
section
variable {K : PySem.W.Frag} {H H' : Hp} {Q : VK} {E : XK}
theorem It.tmI {v : V} {t : Tm} (h : It K H v (tmD t)) : ∃ p pd pb pf ut ul uc, v = .ref p ∧ SqT K H p [.ref pd, .ref pb, .str t.fill.s, .ref pf, ut, ul, .str t.way.s, uc] ∧ SqT K H pd (FC.fr t.delay) ∧ SqT K H pb (FC.fr t.behind) ∧ SqT K H pf (FC.fr t.first) ∧ It K H ut (duD t.times) ∧ It K H ul (loD t.length) ∧ It K H uc (cvD t.curve) := by
  obtain ⟨p, xs, rfl, s, al⟩ := It.tupI h
  cases al with
  | cons h1 r =>
    cases r with
    | cons h2 r =>
      cases r with
      | cons h3 r =>
        cases r with
        | cons h4 r =>
          cases r with
          | cons h5 r =>
            cases r with
            | cons h6 r =>
              cases r with
              | cons h7 r =>
                cases r with
                | cons h8 r =>
                  cases r
                  obtain ⟨pd, rfl, hd⟩ := It.frI h1
                  obtain ⟨pb, rfl, hb⟩ := It.frI h2
                  obtain rfl := It.strI h3
                  obtain ⟨pf, rfl, hf⟩ := It.frI h4
                  obtain rfl := It.strI h7
                  exact ⟨p, pd, pb, pf, _, _, _, rfl, s, hd, hb, hf, h5, h6, h8⟩
theorem It.tmC {p pd pb pf : Addr} {ut ul uc : V} {t : Tm} (s : SqT K H p [.ref pd, .ref pb, .str t.fill.s, .ref pf, ut, ul, .str t.way.s, uc]) (hd : SqT K H pd (FC.fr t.delay)) (hb : SqT K H pb (FC.fr t.behind)) (hf : SqT K H pf (FC.fr t.first)) (ht : It K H ut (duD t.times)) (hl : It K H ul (loD t.length)) (hc : It K H uc (cvD t.curve)) : It K H (.ref p) (tmD t) :=
  .tup s (.cons (It.fr hd) (.cons (It.fr hb) (.cons (.str _) (.cons (It.fr hf) (.cons ht (.cons hl (.cons (.str _) (.cons hc .nil))))))))
theorem It.loN {v : V} (h : It K H v (loD none)) : v = .non := It.nonI h
/-! ### words -/
theorem inStr {z : Str} {p : Addr} {ws : List Str} (h : SqT K H p (ws.map V.str)) (q : Q (.bl (inV (.str z) (ws.map V.str))) H) : rIn K false (.str z) (.ref p) H Q := by
  refine ⟨p, _, rfl, .inr h, rfl, ?_, ?_⟩
  · rw [List.all_map]
    exact List.all_eq_true.mpr fun x _ => rfl
  · show Q (.bl (if false = true then _ else _)) H
    rw [if_neg Bool.false_ne_true]
    exact q
theorem isiTs_ {p : Addr} {xs : List V} (h : SqT K H p xs) (q : Q (.bl false) H) : rIsi K [.ref p, .ty "str"] H Q := by
  rcases h with (h | ⟨o, h⟩) | ⟨o, its, n, h, c, _⟩
  · exact ⟨_, _, _, _, false, rfl, .ty _, .base (.tup h), kit_ty (by decide +kernel), q⟩
  · exact ⟨_, _, _, _, false, rfl, .ty _, .fTuple h, kit_ty (by decide +kernel), q⟩
  · exact ⟨_, _, _, _, false, rfl, .ty _, .kTuple h c, kit_ty (by decide +kernel), q⟩
def spWord (K : PySem.W.Frag) : Sp := fun vs H Q _ => ∃ (v : V) (p : Addr) (ws : List Str), vs = [v, .ref p] ∧ SqT K H p (ws.map V.str) ∧ ((∃ z, v = .str z ∧ Q (.bl (inV (.str z) (ws.map V.str))) H) ∨ (∃ a xs, v = .ref a ∧ SqT K H a xs ∧ Q (.bl false) H))
theorem wordS_ {z : Str} {p : Addr} (ws : List Str) (h : SqT K H p (ws.map V.str)) (b : Bool) (e : inV (.str z) (ws.map V.str) = b) (q : Q (.bl b) H) : spWord K [.str z, .ref p] H Q E := ⟨_, p, ws, rfl, h, .inl ⟨z, rfl, by rw [e]; exact q⟩⟩
theorem wordT_ {a p : Addr} {xs : List V} (ws : List Str) (h : SqT K H p (ws.map V.str)) (h2 : SqT K H a xs) (q : Q (.bl false) H) : spWord K [.ref a, .ref p] H Q E := ⟨_, p, ws, rfl, h, .inr ⟨a, xs, rfl, h2, q⟩⟩
theorem fi_in (f : Fi) : inV (.str f.s) ((["none", "forwards", "backwards", "both"] : List Str).map V.str) = true := by cases f <;> decide +kernel
theorem wy_in (w : Wy) : inV (.str w.s) ((["normal", "reverse", "alternate", "alternate reverse"] : List Str).map V.str) = true := by cases w <;> decide +kernel
theorem en_in : inV (.str "endless") ((["endless"] : List Str).map V.str) = true := by decide +kernel
def spIsAmount (K : PySem.W.Frag) : Sp := fun vs H Q _ => ∃ (a : Addr) (q : Rat), vs = [.ref a] ∧ SqT K H a (fr q) ∧ 0 ≤ q ∧ Q (.bl true) H
def spIsSpan (K : PySem.W.Frag) : Sp := fun vs H Q _ => ∃ (v : V) (d : Option Rat), vs = [v] ∧ It K H v (duD d) ∧ Nn d ∧ ∀ H', Same H H' → Q (.bl true) H'
def spIsTm (K : PySem.W.Frag) : Sp := fun vs H Q _ => ∃ (v : V) (t : Tm) (n m : Nat), vs = [v] ∧ It K H v (tmD t) ∧ TmOk n m t ∧ ∀ H', Same H H' → Q (.bl true) H'
/-! ### spans -/
theorem lk_same {f : Str} {y : V} {fs : List (Str × V)} : (putF f y fs).lookup f = some y := by rw [lookup_putF, if_pos rfl]
theorem lk_ne {f g : Str} {y v : V} {fs : List (Str × V)} (h : ¬ g = f) (q : fs.lookup g = some v) : (putF f y fs).lookup g = some v := by rw [lookup_putF, if_neg h]; exact q
theorem putF_len {f : Str} {y : V} : ∀ {fs : List (Str × V)}, (putF f y fs).length ≤ fs.length + 1
  | [] => Nat.le_refl _
  | (g, z) :: r => by
    unfold putF
    split
    · simp
    · have := putF_len (f := f) (y := y) (fs := r)
      simp only [List.length_cons]
      omega
theorem Tp.ins {C p dx : Addr} {fs gs : List (Str × V)} (h : H p = some (.ins C dx fs)) : Tp K H (upd H p (.ins C dx gs)) := fun b xs hb => by
  rcases hb with (hb | ⟨o, hb⟩) | hb
  · exact .inl (.inl (by rw [upd_ne (ne_of hb h (by intro z; cases z))]; exact hb))
  · exact .inl (.inr ⟨o, by rw [upd_ne (ne_of hb h (by intro z; cases z))]; exact hb⟩)
  · exact .inr hb
structure Sps where
  len : Option Rat
  act : Option Rat
  fin : Option Rat
  fe : Option Rat
  se : Option Rat
def Tm.sps (t : Tm) : Sps := ⟨t.len, t.act, t.fin, t.fe, t.se⟩
def SpanO (K : PySem.W.Frag) (H : Hp) (p : Addr) (S : Sps) : Prop := ∃ dx fs vl va ve vf vs, H p = some (.ins (He.ga K "Spans") dx fs) ∧ fs.lookup ("length" : Str) = some vl ∧ It K H vl (duD S.len) ∧ fs.lookup ("active" : Str) = some va ∧ It K H va (duD S.act) ∧
  fs.lookup ("end" : Str) = some ve ∧ It K H ve (duD S.fin) ∧ fs.lookup ("first_edge" : Str) = some vf ∧ It K H vf (duD S.fe) ∧ fs.lookup ("second_edge" : Str) = some vs ∧ It K H vs (duD S.se)
theorem SpanO.keep {p : Addr} {S : Sps} (h : SpanO K H p S) (e : H' p = H p) (t : Tp K H H') : SpanO K H' p S := by
  obtain ⟨dx, fs, vl, va, ve, vf, vs, h1, l1, i1, l2, i2, l3, i3, l4, i4, l5, i5⟩ := h
  exact ⟨dx, fs, vl, va, ve, vf, vs, e.trans h1, l1, i1.st t, l2, i2.st t, l3, i3.st t, l4, i4.st t, l5, i5.st t⟩
theorem SpanO.same {p : Addr} {S : Sps} (h : SpanO K H p S) (e : Same H H') : SpanO K H' p S := by
  obtain ⟨dx, fs, vl, va, ve, vf, vs, h1, r⟩ := id h
  exact h.keep ((e _ _ h1).trans h1.symm) (Tp.same e)
def spSpansInit (K : PySem.W.Frag) : Sp := fun vs H Q _ => ∃ (p dx : Addr) (v u : V) (t : Tm) (n m : Nat), vs = [.ref p, v, u] ∧ H p = some (.ins (He.ga K "Spans") dx []) ∧ It K H v (tmD t) ∧ It K H u (duD t.len) ∧ TmOk n m t ∧ 1 ≤ m ∧ 4 * n + 4 * m + 10 ≤ 8900 ∧
  ∀ H', SpanO K H' p t.sps → Tp K H H' → (∀ b o, b ≠ p → H b = some o → H' b = some o) → Q .non H'
def spOwnSpans (K : PySem.W.Frag) : Sp := fun vs H Q _ => ∃ (v : V) (t : Tm) (n m : Nat), vs = [v] ∧ It K H v (tmD t) ∧ TmOk n m t ∧ 1 ≤ m ∧ 4 * n + 4 * m + 10 ≤ 8900 ∧ ∀ p H', H p = none → Same H H' → SpanO K H' p t.sps → Q (.ref p) H'
def spEdges (K : PySem.W.Frag) : Sp := fun vs H Q _ => ∃ (v : V) (t : Tm) (n m : Nat), vs = [v] ∧ It K H v (tmD t) ∧ TmOk n m t ∧ 1 ≤ m ∧ 4 * n + 4 * m + 10 ≤ 8900 ∧ ∀ p H', Same H H' → It K H' (.ref p) (.tuple [duD t.fe, duD t.se, duD t.fin]) → Q (.ref p) H'
end
end FC
namespace FC
open PySem L2
section
variable {K : PySem.W.Frag} {σ : L2.St} {H : Hp} {Q : VK} {D : Ends} {f : Str} {C a dx : Addr} {fs : List (Str × V)} {y : V} {E : XK}
theorem sfldW_ (h : H a = some (.ins C dx fs)) (c : Cls K C) (n : NoAttr K C f) (l : fs.length < 1000) (q : ∀ H', H' a = some (.ins C dx (putF f y fs)) → Tp K H H' → (∀ b o, b ≠ a → H b = some o → H' b = some o) → D.nx σ H') : SFldP K f D σ y (.ref a) H :=
  sfld_ h c n l (q _ upd_same (Tp.ins h) fun b o nb hb => by rw [upd_ne nb]; exact hb)
theorem mk_ {sp : Sp} {xs : List V} (q : ∀ x dx H', H x = none → Same H H' → H' x = some (.ins C dx []) → sp (.ref x :: xs) H' (fun v H2 => v = .non ∧ Q (.ref x) H2) E) : MkP C sp E Q xs H := fun x dx hx hdx ne =>
  q x dx _ hx (fun b o hb => by rw [upd_ne (ne_of_none hb hx), upd_ne (ne_of_none hb hdx)]; exact hb) upd_same
theorem edges_ {v : V} {t : Tm} (n m : Nat) (h1 : It K H v (tmD t)) (h2 : TmOk n m t) (h3 : 1 ≤ m) (h4 : 4 * n + 4 * m + 10 ≤ 8900) (k : ∀ p H', Same H H' → It K H' (.ref p) (.tuple [duD t.fe, duD t.se, duD t.fin]) → Q (.ref p) H') : spEdges K [v] H Q E := ⟨v, t, n, m, rfl, h1, h2, h3, h4, k⟩
end
end FC
namespace FC
open PySem L2
theorem mem3' {α : Type} {P : α → Prop} {a b c v : α} (h : v ∈ [a, b, c]) (h1 : P a) (h2 : P b) (h3 : P c) : P v := by
  simp only [List.mem_cons, List.not_mem_nil, or_false] at h
  rcases h with rfl | rfl | rfl <;> assumption
theorem mem5' {α : Type} {P : α → Prop} {a b c d e v : α} (h : v ∈ [a, b, c, d, e]) (h1 : P a) (h2 : P b) (h3 : P c) (h4 : P d) (h5 : P e) : P v := by
  simp only [List.mem_cons, List.not_mem_nil, or_false] at h
  rcases h with rfl | rfl | rfl | rfl | rfl <;> assumption
theorem mem6' {α : Type} {P : α → Prop} {a b c d e f v : α} (h : v ∈ [a, b, c, d, e, f]) (h1 : P a) (h2 : P b) (h3 : P c) (h4 : P d) (h5 : P e) (h6 : P f) : P v := by
  simp only [List.mem_cons, List.not_mem_nil, or_false] at h
  rcases h with rfl | rfl | rfl | rfl | rfl | rfl <;> assumption
theorem mem8' {α : Type} {P : α → Prop} {a b c d e f g h v : α} (m : v ∈ [a, b, c, d, e, f, g, h]) (h1 : P a) (h2 : P b) (h3 : P c) (h4 : P d) (h5 : P e) (h6 : P f) (h7 : P g) (h8 : P h) : P v := by
  simp only [List.mem_cons, List.not_mem_nil, or_false] at m
  rcases m with rfl | rfl | rfl | rfl | rfl | rfl | rfl | rfl <;> assumption
/-- a fraction not below 0, or endless -/
def DuN (K : PySem.W.Frag) (n : Nat) (v : V) (H : Hp) : Prop := ∃ d, It K H v (duD d) ∧ Nn d ∧ Bo n d
/-- the same, or none -/
def LoN (K : PySem.W.Frag) (n : Nat) (v : V) (H : Hp) : Prop := ∃ l : Option (Option Rat), It K H v (loD l) ∧ (∀ d, l = some d → Nn d) ∧ (∀ d, l = some d → Bo n d)
section
variable {K : PySem.W.Frag} {H H' : Hp} {n : Nat}
theorem DuN.tp {v : V} (h : DuN K n v H) (t : Tp K H H') : DuN K n v H' := by
  obtain ⟨d, a, b, c⟩ := h
  exact ⟨d, a.st t, b, c⟩
theorem LoN.tp {v : V} (h : LoN K n v H) (t : Tp K H H') : LoN K n v H' := by
  obtain ⟨d, a, b, c⟩ := h
  exact ⟨d, a.st t, b, c⟩
theorem DuN.fr {p : Addr} {q : Rat} (h : SqT K H p (FC.fr q)) (h0 : 0 ≤ q) (b : Bd n q) : DuN K n (.ref p) H := ⟨some q, It.fr h, fun r e => (by cases e; exact h0), Bo.some b⟩
theorem DuN.en : DuN K n (.str "endless") H := ⟨none, It.duS, fun r e => (by cases e), Bo.none⟩
theorem LoN.du {v : V} (h : DuN K n v H) : LoN K n v H := by
  obtain ⟨d, a, b, c⟩ := h
  exact ⟨some d, a, fun e z => (by cases z; exact b), fun e z => (by cases z; exact c)⟩
theorem LoN.non : LoN K n .non H := ⟨none, .non, fun e z => (by cases z), fun e z => (by cases z)⟩
end
theorem fi_mem {v : V} (h : v ∈ [V.str "none", V.str "forwards", V.str "backwards", V.str "both"]) : ∃ w : Fi, v = .str w.s := by
  simp only [List.mem_cons, List.not_mem_nil, or_false] at h
  rcases h with rfl | rfl | rfl | rfl
  · exact ⟨.non, rfl⟩
  · exact ⟨.fwd, rfl⟩
  · exact ⟨.bwd, rfl⟩
  · exact ⟨.both, rfl⟩
theorem wy_mem {v : V} (h : v ∈ [V.str "normal", V.str "normal", V.str "reverse", V.str "alternate", V.str "alternate reverse"]) : ∃ w : Wy, v = .str w.s := by
  simp only [List.mem_cons, List.not_mem_nil, or_false] at h
  rcases h with rfl | rfl | rfl | rfl | rfl
  · exact ⟨.nor, rfl⟩
  · exact ⟨.nor, rfl⟩
  · exact ⟨.rev, rfl⟩
  · exact ⟨.alt, rfl⟩
  · exact ⟨.altr, rfl⟩
theorem fr_10 : fr 10 = [.int 10, .int 1] := by decide +kernel
theorem fr_4 : fr 4 = [.int 4, .int 1] := by decide +kernel
def spTiming (K : PySem.W.Frag) : Sp := fun vs H Q _ => ∃ a : Addr, vs = [.ref a] ∧ Src H a ∧ ∀ p t H', It K H' (.ref p) (tmD t) → TmOk 31 31 t → Src H' a → Frm a H H' → Q (.ref p) H'
end FC
namespace FC
open PySem L2
theorem Room.u65 {k : Nat} {A : Around} (r : Room k A) : A.units + 65 < cLine := by have := r.un; omega
/-! ### x in (a, b, ..) of data -/
def rInDT (K : PySem.W.Frag) : R2 := fun x y H Q => ∃ d ds, Dp K H x d ∧ Dp K H y (.tuple ds) ∧ SeqAt.shaped d = true ∧ SeqAt.shaped (.tuple ds) = true ∧ Q (.bl (ds.any fun z => PyData.eqv z d)) H
theorem op_inDT {X : Cx} (hu : X.A.units + 65 < cLine) : OpR X (compareOp .In) (rInDT X.K) := by
  intro pins s σ H x y v u Q I rx ry h
  obtain ⟨d, ds, hd, he, sd, se, q⟩ := h
  obtain ⟨as, r1⟩ := Dp.reads I d x v hd rx
  obtain ⟨bs, r2⟩ := Dp.reads I (.tuple ds) y u he ry
  exact SeqAt.in_tuple_reads r2 r1 (SeqAt.canLay_of_shaped se) (SeqAt.canLay_of_shaped sd) (PyProof.Rows.room_in_shaped sd hu) ⟨.bl _, H, I, rfl, q⟩
theorem op_notInDT {X : Cx} (hu : X.A.units + 65 < cLine) : OpR X (compareOp .NotIn) (fun x y H Q => ∃ d ds, Dp X.K H x d ∧ Dp X.K H y (.tuple ds) ∧ SeqAt.shaped d = true ∧ SeqAt.shaped (.tuple ds) = true ∧ Q (.bl (!ds.any fun z => PyData.eqv z d)) H) := by
  intro pins s σ H x y v u Q I rx ry h
  obtain ⟨d, ds, hd, he, sd, se, q⟩ := h
  obtain ⟨as, r1⟩ := Dp.reads I d x v hd rx
  obtain ⟨bs, r2⟩ := Dp.reads I (.tuple ds) y u he ry
  exact SeqAt.notIn_tuple_reads r2 r1 (SeqAt.canLay_of_shaped se) (SeqAt.canLay_of_shaped sd) (PyProof.Rows.room_in_shaped sd hu) ⟨.bl _, H, I, rfl, q⟩
/-! ### shapes, told by their depth -/
def OkD (n : Nat) (d : PyData) : Prop := d.canLay0 = true ∧ d.depth ≤ n
def OkA (n : Nat) (ds : List PyData) : Prop := PyData.canLayAll0 ds = true ∧ PyData.depthAll ds ≤ n
theorem OkD.sh {n : Nat} {d : PyData} (h : OkD n d) (l : n ≤ 64) : SeqAt.shaped d = true := by
  unfold SeqAt.shaped
  rw [h.1, decide_eq_true (Nat.le_trans h.2 l)] <;> rfl
theorem OkD.mono {n m : Nat} {d : PyData} (h : OkD n d) (l : n ≤ m) : OkD m d := ⟨h.1, Nat.le_trans h.2 l⟩
theorem OkA.nil {n : Nat} : OkA n [] := ⟨rfl, Nat.zero_le _⟩
theorem OkA.cons {n : Nat} {d : PyData} {ds : List PyData} (h : OkD n d) (r : OkA n ds) : OkA n (d :: ds) := ⟨by
  simp only [PyData.canLayAll0]
  rw [h.1, r.1] <;> rfl, by
  have h1 := h.2
  have h2 := r.2
  simp only [PyData.depthAll]
  omega⟩
theorem OkA.of {n : Nat} : ∀ {ds : List PyData}, (∀ d ∈ ds, OkD n d) → OkA n ds
  | [], _ => OkA.nil
  | d :: ds, h => OkA.cons (h d (by simp)) (OkA.of fun x hx => h x (by simp [hx]))
theorem OkD.tup {n : Nat} {ds : List PyData} (h : OkA n ds) : OkD (n + 1) (.tuple ds) := ⟨h.1, by
  have := h.2
  simp only [PyData.depth]
  omega⟩
theorem OkD.int {n : Nat} (i : Int) : OkD n (.int i) := ⟨rfl, by simp [PyData.depth]⟩
theorem OkD.non {n : Nat} : OkD n .none := ⟨rfl, by simp [PyData.depth]⟩
theorem OkD.str {n : Nat} {x : Str} (h : PyData.canLay0 (.str x) = true) : OkD n (.str x) := ⟨h, by simp [PyData.depth]⟩
theorem OkD.fr (q : Rat) : OkD 1 (frD q) := OkD.tup (OkA.cons (OkD.int _) (OkA.cons (OkD.int _) OkA.nil))
theorem OkD.du (a : Option Rat) : OkD 1 (duD a) := by
  cases a with
  | none => exact OkD.str (by decide +kernel)
  | some q => exact OkD.fr q
theorem any_du2 (a b c : Option Rat) : [duD a, duD b].any (fun z => PyData.eqv z (duD c)) = (decide (a = c) || decide (b = c)) := by
  simp only [List.any_cons, List.any_nil, Bool.or_false]
  rw [eqv_du, eqv_du]
theorem inDu2_ {K : PySem.W.Frag} {H : Hp} {Q : VK} {x : V} {p : Addr} {u v : V} {a b c : Option Rat} (hx : It K H x (duD c)) (hp : SqT K H p [u, v]) (hu : It K H u (duD a)) (hv : It K H v (duD b)) (q : Q (.bl (decide (a = c) || decide (b = c))) H) : rInDT K x (.ref p) H Q :=
  ⟨duD c, [duD a, duD b], hx.d, (It.tup hp (.cons hu (.cons hv .nil))).d, sh_du c, (OkD.tup (OkA.cons (OkD.du a) (OkA.cons (OkD.du b) OkA.nil))).sh (by decide), by rw [any_du2]; exact q⟩
/-! == of three -/
theorem eqv_du3 (a b c d e f : Option Rat) : PyData.eqv (.tuple [duD a, duD b, duD c]) (.tuple [duD d, duD e, duD f]) = (decide (a = d) && (decide (b = e) && decide (c = f))) := by
  simp only [PyData.eqv, PyData.eqvAll, eqv_du, Bool.and_true]
theorem OkD.du3 (a b c : Option Rat) : OkD 2 (.tuple [duD a, duD b, duD c]) := OkD.tup (OkA.cons (OkD.du a) (OkA.cons (OkD.du b) (OkA.cons (OkD.du c) OkA.nil)))
theorem eqDu3_ {K : PySem.W.Frag} {H : Hp} {Q : VK} {u v : V} {a b c d e f : Option Rat} (h1 : It K H u (.tuple [duD a, duD b, duD c])) (h2 : It K H v (.tuple [duD d, duD e, duD f])) (q : Q (.bl (decide (a = d) && (decide (b = e) && decide (c = f)))) H) : rEqD K u v H Q :=
  eqI_ h1 h2 ((OkD.du3 a b c).sh (by decide)) ((OkD.du3 d e f).sh (by decide)) (by rw [eqv_du3]; exact q)
theorem neDu3_ {K : PySem.W.Frag} {H : Hp} {Q : VK} {u v : V} {a b c d e f : Option Rat} (h1 : It K H u (.tuple [duD a, duD b, duD c])) (h2 : It K H v (.tuple [duD d, duD e, duD f])) (q : Q (.bl (!(decide (a = d) && (decide (b = e) && decide (c = f))))) H) : rNeD K u v H Q :=
  neI_ h1 h2 ((OkD.du3 a b c).sh (by decide)) ((OkD.du3 d e f).sh (by decide)) (by rw [eqv_du3]; exact q)
/-! ### the order of durations -/
theorem blw_tot {a b : Option Rat} (h1 : blw a b = false) (h2 : blw b a = false) : a = b := by
  cases a with
  | none =>
    cases b with
    | none => rfl
    | some q => cases h2
  | some p =>
    cases b with
    | none => cases h1
    | some q =>
      have h1' : ¬ p < q := of_decide_eq_false h1
      have h2' : ¬ q < p := of_decide_eq_false h2
      congr 1
      grind
theorem blw_asym {a b : Option Rat} (h1 : blw a b = true) : blw b a = false := by
  cases a with
  | none => cases h1
  | some p =>
    cases b with
    | none => rfl
    | some q =>
      have h1' : p < q := of_decide_eq_true h1
      exact decide_eq_false (by grind)
theorem gtr_comm (a b : Option Rat) : gtr a b = gtr b a := by
  unfold gtr
  cases h1 : blw a b with
  | true =>
    rw [if_pos rfl, blw_asym h1, if_neg Bool.false_ne_true]
  | false =>
    rw [if_neg Bool.false_ne_true]
    cases h2 : blw b a with
    | true => rw [if_pos rfl]
    | false => rw [if_neg Bool.false_ne_true, blw_tot h1 h2]
theorem lsr_alt (a b : Option Rat) : (if blw a b = true then a else b) = lsr a b := by
  unfold lsr
  cases h1 : blw a b with
  | true => rw [if_pos rfl, blw_asym h1, if_neg Bool.false_ne_true]
  | false =>
    rw [if_neg Bool.false_ne_true]
    cases h2 : blw b a with
    | true => rw [if_pos rfl]
    | false => rw [if_neg Bool.false_ne_true, blw_tot h1 h2]
theorem jn_comm (a b : Option Rat) : jn a b = jn b a := by
  cases a with
  | none => cases b <;> rfl
  | some p =>
    cases b with
    | none => rfl
    | some q => show some (p + q) = some (q + p); rw [Rat.add_comm]
/-- a not above b -/
def Le (a b : Option Rat) : Prop := blw b a = false
theorem Le.refl (a : Option Rat) : Le a a := by
  cases a with
  | none => rfl
  | some p => exact decide_eq_false (by grind)
theorem Le.trans {a b c : Option Rat} (h1 : Le a b) (h2 : Le b c) : Le a c := by
  unfold Le at *
  cases c with
  | none => rfl
  | some r =>
    cases b with
    | none => cases h2
    | some q =>
      cases a with
      | none => cases h1
      | some p =>
        have h1' : ¬ q < p := of_decide_eq_false h1
        have h2' : ¬ r < q := of_decide_eq_false h2
        exact decide_eq_false (by grind)
theorem Le.gtrL (a b : Option Rat) : Le a (gtr a b) := by
  unfold gtr
  cases h : blw a b with
  | true => rw [if_pos rfl]; exact blw_asym h
  | false => rw [if_neg Bool.false_ne_true]; exact Le.refl a
theorem Le.gtrR (a b : Option Rat) : Le b (gtr a b) := by rw [gtr_comm]; exact Le.gtrL b a
theorem Le.gtrI {a b c : Option Rat} (h1 : Le a c) (h2 : Le b c) : Le (gtr a b) c := by
  unfold gtr
  split <;> assumption
theorem Le.lsrL (a b : Option Rat) : Le (lsr a b) a := by
  unfold lsr
  cases h : blw b a with
  | true => rw [if_pos rfl]; exact blw_asym h
  | false => rw [if_neg Bool.false_ne_true]; exact Le.refl a
theorem Le.lsrR (a b : Option Rat) : Le (lsr a b) b := by
  unfold lsr
  cases h : blw b a with
  | true => rw [if_pos rfl]; exact Le.refl b
  | false => rw [if_neg Bool.false_ne_true]; exact h
theorem Le.lsrI {a b c : Option Rat} (h1 : Le c a) (h2 : Le c b) : Le c (lsr a b) := by
  unfold lsr
  split <;> assumption
theorem Nn.act {n m : Nat} {t : Tm} (h : TmOk n m t) : Nn t.act := by
  intro q e
  unfold Tm.act rp at e
  split at e
  · cases e; exact Rat.le_refl
  · cases h1 : t.len with
    | none => rw [h1] at e; cases e
    | some p =>
      cases h2 : t.times with
      | none => rw [h1, h2] at e; cases e
      | some r =>
        rw [h1, h2] at e
        cases e
        exact Rat.mul_nonneg (h.len0 p h1) (h.times0 r h2)
theorem over_ge {n m : Nat} {t : Tm} (h : TmOk n m t) : Le (some t.delay) t.over := by
  unfold Tm.over
  cases e : t.act with
  | none => rfl
  | some q =>
    have := Nn.act h q e
    exact decide_eq_false (by grind)
theorem fe_le_se {n m : Nat} {t : Tm} (h : TmOk n m t) : Le t.fe t.se := by
  unfold Tm.fe Tm.se
  exact Le.gtrI (Le.trans (Le.lsrI (Le.trans (Le.lsrL _ _) (over_ge h)) (Le.lsrR _ _)) (Le.gtrL _ _)) (Le.gtrR _ _)
theorem fin_ge (t : Tm) : Le (some 0) t.fin := by
  unfold Tm.fin
  exact Le.gtrR _ _
theorem se_le_fin (t : Tm) : Le t.se t.fin := by
  unfold Tm.se
  exact Le.gtrI (Le.lsrR _ _) (fin_ge t)
theorem fe_ge (t : Tm) : Le (some 0) t.fe := by
  unfold Tm.fe
  exact Le.gtrR _ _
def spEnds (K : PySem.W.Frag) : Sp := fun vs H Q _ => ∃ (v : V) (t : Tm) (n m : Nat), vs = [v] ∧ It K H v (tmD t) ∧ TmOk n m t ∧ 1 ≤ m ∧ 4 * n + 4 * m + 10 ≤ 8900 ∧ ∀ p H', Same H H' → It K H' (.ref p) (.tuple [duD t.fe, duD t.se, duD t.fin, duD t.act]) → Q (.ref p) H'
def spLeast (K : PySem.W.Frag) : Sp := spDu2 K lsr Pro
end FC
namespace FC
open PySem L2
/-- two ways to a value -/
theorem ifVW {c : Bool} {ta tb : TE} {σ : L2.St} {H : Hp} {Q : VK} (W : V → Hp → Prop) (ha : c = true → (∀ v H', W v H' → Q v H') → ta σ H Q) (hb : c = false → (∀ v H', W v H' → Q v H') → tb σ H Q)
    (k : ∀ v H', W v H' → Q v H') : if c = true then ta σ H Q else tb σ H Q := by
  cases c with
  | true =>
    rw [if_pos rfl]
    exact ha rfl k
  | false =>
    rw [if_neg Bool.false_ne_true]
    exact hb rfl k
theorem Tm.lenN {t : Tm} (h : t.length = none) : t.len = some 0 := by unfold Tm.len; rw [h] <;> rfl
theorem Tm.lenS {t : Tm} {d : Option Rat} (h : t.length = some d) : t.len = d := by unfold Tm.len; rw [h] <;> rfl
theorem It.loNe {K : PySem.W.Frag} {H : Hp} {v : V} {d : Option Rat} (h : It K H v (loD (some d))) : ¬ v = .non := by
  intro z
  subst z
  cases d with
  | none => have := It.duE h; cases this
  | some q => obtain ⟨_, e, _⟩ := It.duF h; cases e
end FC
namespace FC
open PySem L2
/-! ### slices, joined tuples -/
section
variable {K : PySem.W.Frag} {σ : L2.St} {H : Hp} {Q : VK} {te : TE} {tl th : TO} {a b p : Addr} {xs ys : List V}
theorem xsl {r : V → Option Int → Option Int → Hp → VK → Prop} (q : te σ H fun x H1 => tl σ H1 fun l H2 => th σ H2 fun u H3 => r x l u H3 Q) : tSl r te tl th σ H Q := q
theorem xnop {R : Option Int → Hp → Prop} (q : R none H) : tNoPart σ H R := q
def PartP (R : Option Int → Hp → Prop) : VK := fun x H1 => ∃ i, x = .int i ∧ R (some i) H1
theorem xpart {R : Option Int → Hp → Prop} (q : te σ H (PartP R)) : tPart te σ H R := q
theorem part1_ {R : Option Int → Hp → Prop} {i : Int} (q : R (some i) H) : PartP R (.int i) H := ⟨i, rfl, q⟩
theorem slT_ {lo hi : Option Int} (ys : List V) (h : SqT K H p xs) (e : cutV xs lo hi = ys) (ne : ¬ (HT.sIx xs.length 0 lo = 0 ∧ HT.sIx xs.length xs.length hi = xs.length)) (q : ∀ c H', H c = none → Same H H' → H' c = some (.tup ys) → Q (.ref c) H') : rSlT K (.ref p) lo hi H Q :=
  ⟨p, xs, rfl, h, ne, fun c hc => q c _ hc (same_upd hc) (by rw [upd_same, e])⟩
theorem catT_ (h1 : SqT K H a xs) (h2 : SqT K H b ys) (n1 : xs ≠ []) (n2 : ys ≠ []) (l : xs.length + ys.length ≤ 10000) (q : ∀ p H', H p = none → Same H H' → H' p = some (.tup (xs ++ ys)) → Q (.ref p) H') : rCatT K (.ref a) (.ref b) H Q :=
  ⟨a, b, xs, ys, rfl, rfl, h1, h2, n1, szN l, fun z => absurd z n2, fun _ p hp => q p _ hp (same_upd hp) upd_same⟩
theorem repT_ {k : Int} (h : SqT K H a xs) (n1 : xs ≠ []) (h0 : 2 ≤ k) (h1 : k ≤ 1000) (l : xs.length ≤ 1000) (q : ∀ p H', H p = none → Same H H' → H' p = some (.tup (List.replicate k.toNat xs).flatten) → Q (.ref p) H') : rRepT K (.ref a) (.int k) H Q :=
  ⟨a, k, xs, rfl, rfl, h, n1, h0, h1, l, fun p hp => q p _ hp (same_upd hp) upd_same⟩
end
theorem fr_52 : fr (5 / 2) = [.int 5, .int 2] := by decide +kernel
theorem fr_7 : fr 7 = [.int 7, .int 1] := by decide +kernel
/-- a timing drawn near its edges -/
def spSpansL (K : PySem.W.Frag) : Sp := fun vs H Q _ => ∃ a : Addr, vs = [.ref a] ∧ Src H a ∧ ∀ p t H', It K H' (.ref p) (tmD t) → TmOk 140 31 t → Src H' a → Frm a H H' → Q (.ref p) H'
theorem mem5p {α : Type} {P : α → Prop} {a b c d e v : α} (h : v ∈ [a, b, c, d, e]) (h1 : P a) (h2 : P b) (h3 : P c) (h4 : P d) (h5 : P e) : P v := mem5' h h1 h2 h3 h4 h5
end FC
namespace FC
open PySem L2
/-! ### shown data -/
structure ShD (n : Nat) (d : PyData) : Prop where
  sh : PyData.showable d = true
  lay : d.canLay0 = true
  dp : d.depth ≤ 4
  ln : d.shown.length ≤ n
theorem ShD.fr {q : Rat} (b : Bd 1000 q) : ShD 2010 (frD q) := by
  have h2 : ((q.den : Int)).natAbs < 2 ^ 1000 := by rw [Int.natAbs_natCast]; exact b.2
  refine ⟨(shows_fr b).1, (OkD.fr q).1, Nat.le_trans (OkD.fr q).2 (by decide), ?_⟩
  have e : (frD q).shown = tupleText [Str.ofString (toString q.num), Str.ofString (toString (q.den : Int))] := by
    unfold frD
    simp only [PyData.shown, PyData.shownAll]
  rw [e]
  have t := tupleText_len_le [Str.ofString (toString q.num), Str.ofString (toString (q.den : Int))]
  have t1 := text_len b.1
  have t2 := text_len h2
  simp only [List.map_cons, List.map_nil, List.sum_cons, List.sum_nil, List.length_cons, List.length_nil] at t
  omega
theorem ShD.du {a : Option Rat} (b : Bo 1000 a) : ShD 2010 (duD a) := by
  cases a with
  | none => exact ⟨rfl, (OkD.du none).1, by decide +kernel, by decide +kernel⟩
  | some q => exact ShD.fr (b q rfl)
theorem ShD.tup3 {n : Nat} {a b c : PyData} (h1 : ShD n a) (h2 : ShD n b) (h3 : ShD n c) (o1 : a.depth ≤ 3) (o2 : b.depth ≤ 3) (o3 : c.depth ≤ 3) : ShD (3 * n + 9) (.tuple [a, b, c]) := by
  refine ⟨?_, ?_, ?_, ?_⟩
  · simp only [PyData.showable, PyData.showableAll, Bool.and_true]
    rw [h1.sh, h2.sh, h3.sh] <;> rfl
  · simp only [PyData.canLay0, PyData.canLayAll0, Bool.and_true]
    rw [h1.lay, h2.lay, h3.lay] <;> rfl
  · simp only [PyData.depth, PyData.depthAll]
    omega
  · have e : (PyData.tuple [a, b, c]).shown = tupleText [a.shown, b.shown, c.shown] := by simp only [PyData.shown, PyData.shownAll]
    rw [e]
    have t := tupleText_len_le [a.shown, b.shown, c.shown]
    have l1 := h1.ln
    have l2 := h2.ln
    have l3 := h3.ln
    simp only [List.map_cons, List.map_nil, List.sum_cons, List.sum_nil, List.length_cons, List.length_nil] at t
    omega
theorem reprI_ {K : PySem.W.Frag} {p : Addr} {d : PyData} {n : Nat} {H : Hp} {Q : VK} (h : It K H (.ref p) d) (s : ShD n d) (hn : n ≤ 9000) (k : Q (.str d.shown) H) : rRepr K [.ref p] H Q :=
  ⟨p, d, rfl, h.d, s.sh, PyData.hasDict_of_canLay d s.lay, Nat.le_trans s.dp (by decide), Nat.le_trans s.ln (Nat.le_trans hn (by rw [sizeLine_eq]; decide)), k⟩
theorem ShD.du3 {a b c : Option Rat} (h1 : Bo 1000 a) (h2 : Bo 1000 b) (h3 : Bo 1000 c) : ShD 6039 (.tuple [duD a, duD b, duD c]) :=
  ShD.tup3 (ShD.du h1) (ShD.du h2) (ShD.du h3) (Nat.le_trans (OkD.du a).2 (by decide)) (Nat.le_trans (OkD.du b).2 (by decide)) (Nat.le_trans (OkD.du c).2 (by decide))
section
variable {K : PySem.W.Frag} {H : Hp}
theorem It.du4I {p : Addr} {a b c d : Option Rat} (h : It K H (.ref p) (.tuple [duD a, duD b, duD c, duD d])) : ∃ v1 v2 v3 v4, SqT K H p [v1, v2, v3, v4] ∧ It K H v1 (duD a) ∧ It K H v2 (duD b) ∧ It K H v3 (duD c) ∧ It K H v4 (duD d) := by
  obtain ⟨_, xs, e, s, al⟩ := It.tupI h
  cases e
  cases al with
  | cons h1 r =>
    cases r with
    | cons h2 r =>
      cases r with
      | cons h3 r =>
        cases r with
        | cons h4 r =>
          cases r
          exact ⟨_, _, _, _, s, h1, h2, h3, h4⟩
end
def Tm.mix (t o : Tm) : Tm := ⟨t.delay, t.behind, o.fill, o.first, t.times, t.length, o.way, o.curve⟩
theorem TmOk.mix {n m k l : Nat} {t o : Tm} (h : TmOk n m t) (g : TmOk k l o) (lm : l ≤ m) : TmOk n m (t.mix o) := ⟨h.delay, h.behind, g.first0, g.first.mono lm, h.times0, h.times, h.length0, h.length, g.curve⟩
def Tm.lz (t : Tm) : Tm := ⟨t.delay, t.behind, t.fill, t.first, t.times, some (some 0), t.way, t.curve⟩
theorem TmOk.lz {n m : Nat} {t : Tm} (h : TmOk n m t) (m1 : 1 ≤ m) : TmOk n m t.lz := ⟨h.delay, h.behind, h.first0, h.first, h.times0, h.times, fun d e => by
  cases e
  intro q z
  cases z
  exact Rat.le_refl, fun d e => by
  cases e
  exact Bo.some (Bd.q0.mono m1), h.curve⟩
theorem Tm.lz_eq {t : Tm} (h : t.length = none) : t.lz.fe = t.fe ∧ t.lz.se = t.se ∧ t.lz.fin = t.fin := by
  have e : t.lz.len = t.len := by rw [Tm.lenN h] <;> rfl
  have ea : t.lz.act = t.act := by unfold Tm.act; rw [e] <;> rfl
  have eo : t.lz.over = t.over := by unfold Tm.over; rw [ea] <;> rfl
  have ef : t.lz.fin = t.fin := by unfold Tm.fin; rw [eo] <;> rfl
  refine ⟨?_, ?_, ef⟩
  · unfold Tm.fe
    rw [ef] <;> rfl
  · unfold Tm.se
    rw [ef, eo]
theorem fr_i (i : Int) : fr (i : Rat) = [.int i, .int 1] := rfl
end FC
namespace FC
open PySem L2
def tmA (d b : Int) : Tm := ⟨(d : Rat), (b : Rat), .non, 0, some ((2 : Int) : Rat), some (some ((5 : Int) : Rat)), .nor, .stp 1 .fin⟩
def tmB (d b : Int) : Tm := ⟨(d : Rat), (b : Rat), .non, 0, none, some (some ((5 : Int) : Rat)), .nor, .stp 1 .fin⟩
theorem bd_i {n : Nat} {i : Int} (h : i.natAbs < 2 ^ n) (h0 : 0 < n) : Bd n (i : Rat) := Bd.int h h0
theorem tmA_ok {d b : Int} (h1 : d.natAbs < 2 ^ 31) (h2 : b.natAbs < 2 ^ 31) : TmOk 140 31 (tmA d b) :=
  ⟨(Bd.int h1 (by decide)).mono (by decide), (Bd.int h2 (by decide)).mono (by decide), Rat.le_refl, Bd.q0.mono (by decide), fun q e => by cases e; decide +kernel, Bo.some (Bd.int (by decide) (by decide)), fun x e => by
    cases e
    intro q z
    cases z
    decide +kernel, fun x e => by
    cases e
    exact Bo.some (Bd.int (by decide) (by decide)), by show NOk 1 .fin; unfold NOk; decide⟩
theorem tmB_ok {d b : Int} (h1 : d.natAbs < 2 ^ 31) (h2 : b.natAbs < 2 ^ 31) : TmOk 140 31 (tmB d b) :=
  ⟨(Bd.int h1 (by decide)).mono (by decide), (Bd.int h2 (by decide)).mono (by decide), Rat.le_refl, Bd.q0.mono (by decide), fun q e => (by cases e), Bo.none, fun x e => by
    cases e
    intro q z
    cases z
    decide +kernel, fun x e => by
    cases e
    exact Bo.some (Bd.int (by decide) (by decide)), by show NOk 1 .fin; unfold NOk; decide⟩
section
variable {K : PySem.W.Frag} {H : Hp}
theorem It.i {p : Addr} {i : Int} (h : SqT K H p [.int i, .int 1]) : It K H (.ref p) (duD (some (i : Rat))) := It.fr (q := (i : Rat)) h
theorem It.tmAC {p pd pb pf p2 p5 ps : Addr} {d b : Int} (s : SqT K H p [.ref pd, .ref pb, .str "none", .ref pf, .ref p2, .ref p5, .str "normal", .ref ps]) (hd : SqT K H pd [.int d, .int 1]) (hb : SqT K H pb [.int b, .int 1]) (hf : SqT K H pf [.int 0, .int 1]) (h2 : SqT K H p2 [.int 2, .int 1]) (h5 : SqT K H p5 [.int 5, .int 1]) (hs : SqT K H ps [.str "steps", .int 1, .str "end"]) : It K H (.ref p) (tmD (tmA d b)) :=
  It.tmC (t := tmA d b) s hd hb hf (It.i h2) (It.i h5) (It.stpC (n := 1) (w := .fin) hs)
theorem It.tmBC {p pd pb pf p5 ps : Addr} {d b : Int} (s : SqT K H p [.ref pd, .ref pb, .str "none", .ref pf, .str "endless", .ref p5, .str "normal", .ref ps]) (hd : SqT K H pd [.int d, .int 1]) (hb : SqT K H pb [.int b, .int 1]) (hf : SqT K H pf [.int 0, .int 1]) (h5 : SqT K H p5 [.int 5, .int 1]) (hs : SqT K H ps [.str "steps", .int 1, .str "end"]) : It K H (.ref p) (tmD (tmB d b)) :=
  It.tmC (t := tmB d b) s hd hb hf It.duS (It.i h5) (It.stpC (n := 1) (w := .fin) hs)
end
theorem exA1 : (tmA 3 4).fe = some ((3 : Int) : Rat) ∧ (tmA 3 4).se = some ((13 : Int) : Rat) ∧ (tmA 3 4).fin = some ((17 : Int) : Rat) := by decide +kernel
theorem exA2 : (tmA 3 (-4)).fe = some ((3 : Int) : Rat) ∧ (tmA 3 (-4)).se = some ((9 : Int) : Rat) ∧ (tmA 3 (-4)).fin = some ((9 : Int) : Rat) := by decide +kernel
theorem exA3 : (tmA 3 (-11)).fe = some ((2 : Int) : Rat) ∧ (tmA 3 (-11)).se = some ((2 : Int) : Rat) ∧ (tmA 3 (-11)).fin = some ((2 : Int) : Rat) := by decide +kernel
theorem exA4 : (tmA (-4) (-11)).fe = some ((0 : Int) : Rat) ∧ (tmA (-4) (-11)).se = some ((0 : Int) : Rat) ∧ (tmA (-4) (-11)).fin = some ((0 : Int) : Rat) := by decide +kernel
theorem exB1 : (tmB (-2) (-90)).fe = some ((0 : Int) : Rat) ∧ (tmB (-2) (-90)).se = none ∧ (tmB (-2) (-90)).fin = none := by decide +kernel
end FC

namespace FC
open PySem L2
/-- the four phases -/
inductive Ph where
  | idle | bef | act | aft
deriving DecidableEq
def Ph.s : Ph → Str
  | .idle => "idle" | .bef => "before" | .act => "active" | .aft => "after"
/-- a moment, or none -/
def xD : Option Rat → PyData
  | none => .none
  | some q => frD q
def itD : Option Int → PyData
  | none => .str "endless"
  | some i => .int i
theorem gcd_mod (a b : Int) : Int.gcd (a % b) b = Int.gcd a b := by
  rw [Int.emod_def, Int.mul_comm, Int.gcd_sub_mul_right_left]
/-- what is behind the whole part of a fraction -/
def fracR (q : Rat) : Rat := ⟨q.num % (q.den : Int), q.den, q.den_nz, by
  have h : Int.gcd q.num (q.den : Int) = 1 := q.reduced
  rw [← gcd_mod] at h
  exact h⟩
def flo (q : Rat) : Int := q.num / (q.den : Int)
theorem fr_frac (q : Rat) : fr (fracR q) = [.int (q.num % (q.den : Int)), .int (q.den : Int)] := rfl
/-- a denominator fits -/
def Dn (n : Nat) (q : Rat) : Prop := q.den < 2 ^ n
theorem Dn.mono {n m : Nat} {q : Rat} (h : Dn n q) (l : n ≤ m) : Dn m q := pow_up h l
theorem Bd.dn {n : Nat} {q : Rat} (h : Bd n q) : Dn n q := h.2
theorem Dn.mk {n : Nat} {a : Int} {b : Nat} (hb : b ≠ 0) (h2 : b < 2 ^ n) : Dn n (mkRat a b) := Nat.lt_of_le_of_lt (mk_den_le a b hb) h2
theorem Dn.add {n m : Nat} {p q : Rat} (h1 : Dn n p) (h2 : Dn m q) : Dn (n + m) (p + q) := by
  rw [Rat.add_def']
  exact Dn.mk (Nat.mul_ne_zero p.den_nz q.den_nz) (ndm h1 h2)
theorem Dn.sub {n m : Nat} {p q : Rat} (h1 : Dn n p) (h2 : Dn m q) : Dn (n + m) (p - q) := by
  rw [Rat.sub_def']
  exact Dn.mk (Nat.mul_ne_zero p.den_nz q.den_nz) (ndm h1 h2)
theorem Dn.mul {n m : Nat} {p q : Rat} (h1 : Dn n p) (h2 : Dn m q) : Dn (n + m) (p * q) := by
  rw [Rat.mul_def']
  exact Dn.mk (Nat.mul_ne_zero p.den_nz q.den_nz) (ndm h1 h2)
theorem Dn.quot {n m : Nat} {p q : Rat} (h1 : Dn n p) (h2 : Bd m q) (h0 : 0 < q) : Dn (n + m) (p / q) := by
  rw [← d_div]
  have hq := dn_pos p h0
  obtain ⟨k, hk⟩ := Int.eq_ofNat_of_zero_le (Int.le_of_lt hq)
  rw [hk, Rat.divInt_ofNat]
  refine Dn.mk (by omega) ?_
  have := nmul (i := (p.den : Int)) (j := q.num) (a := n) (b := m) (by rw [Int.natAbs_natCast]; exact h1) h2.1
  rw [hk, Int.natAbs_natCast] at this
  exact this
theorem Dn.frac {n : Nat} {q : Rat} (h : Dn n q) : Bd n (fracR q) := by
  have h0 : (0 : Int) < q.den := by have := den_pos q; omega
  have a := Int.emod_nonneg q.num (b := (q.den : Int)) (by omega)
  have b := Int.emod_lt_of_pos q.num h0
  refine ⟨?_, h⟩
  show (q.num % (q.den : Int)).natAbs < 2 ^ n
  have : q.den < 2 ^ n := h
  omega
theorem fe_some (t : Tm) : ∃ q, t.fe = some q := by
  unfold Tm.fe
  have a : ∃ r, lsr (some t.delay) t.fin = some r := by
    unfold lsr
    cases e : t.fin with
    | none => exact ⟨_, rfl⟩
    | some f => split <;> exact ⟨_, rfl⟩
  obtain ⟨r, hr⟩ := a
  rw [hr]
  unfold gtr
  split <;> exact ⟨_, rfl⟩
/-! ### what is told at a moment -/
def Fi.bk : Fi → Bool
  | .bwd => true | .both => true | _ => false
def Fi.fw : Fi → Bool
  | .fwd => true | .both => true | _ => false
def Tm.ph (t : Tm) (x : Option Rat) (s : Int) : Ph := match x with
  | none => .idle
  | some x => if (blw (some x) t.fe || (decide (s = -1) && decide (some x = t.fe))) = true then .bef else if (blw t.se (some x) || (decide (s = 1) && decide (some x = t.se))) = true then .aft else .act
/-- the lesser of a time and a span -/
def lsq (r : Rat) (d : Option Rat) : Rat := (lsr (some r) d).getD 0
def mx0 (r : Rat) : Rat := (gtr (some r) (some 0)).getD 0
theorem lsq_eq (r : Rat) (d : Option Rat) : lsr (some r) d = some (lsq r d) := by
  unfold lsq lsr
  cases d with
  | none => rfl
  | some a => split <;> rfl
theorem mx0_eq (r : Rat) : gtr (some r) (some 0) = some (mx0 r) := by
  unfold mx0 gtr
  split <;> rfl
def Tm.el (t : Tm) (p : Ph) (x : Rat) : Option Rat := match p with
  | .act => some (x - t.delay)
  | .bef => if t.fill.bk = true then some (mx0 (x - t.delay)) else none
  | .aft => if t.fill.fw = true then some (mx0 (lsq (x - t.delay) t.act)) else none
  | .idle => none
def Tm.ov (t : Tm) (p : Ph) (e : Rat) : Option Rat := match t.len with
  | none => some t.first
  | some l => if l = 0 then (if p = .bef then some t.first else jn (some t.first) t.times) else some (t.first + e / l)
def Tm.si (t : Tm) (p : Ph) (e : Rat) (ov : Option Rat) : Rat :=
  let s := fracR (ov.getD t.first)
  if (p = .act ∨ p = .aft) ∧ some e = t.act ∧ ¬ t.times = some 0 ∧ s = 0 then 1 else s
def Tm.itr (t : Tm) (p : Ph) (ov : Option Rat) (s : Rat) : Option Int := match ov with
  | none => none
  | some o => if p = .aft ∧ t.times = none then none else some (if s = 1 then flo o - 1 else flo o)
def Tm.dr (t : Tm) (i : Option Int) : Bool := match t.way with
  | .nor => true
  | .rev => false
  | .alt => match i with
    | none => true
    | some i => decide (i % 2 = 0)
  | .altr => match i with
    | none => true
    | some i => !decide (i % 2 = 0)
def dir (s : Rat) (w : Bool) : Rat := if w = true then s else 1 - s
def flg (p : Ph) (w : Bool) : Bool := (decide (p = .bef) && w) || (decide (p = .aft) && !w)
/-- the seven -/
def tellE (t : Tm) (p : Ph) (e : Rat) : PyData :=
  let ov := t.ov p e
  let s := t.si p e ov
  let i := t.itr p ov s
  let d := dir s (t.dr i)
  .tuple [.str p.s, frD e, duD ov, frD s, itD i, frD d, frD (cval t.curve d (flg p (t.dr i)))]
def tellN (p : Ph) : PyData := .tuple [.str p.s, .none, .none, .none, .none, .none, .none]
def Tm.elx (t : Tm) (p : Ph) (x : Option Rat) : Option Rat := match x with
  | none => none
  | some x => t.el p x
def Tm.tell (t : Tm) (x : Option Rat) (s : Int) : PyData := match t.elx (t.ph x s) x with
  | none => tellN (t.ph x s)
  | some e => tellE t (t.ph x s) e
/-- sizes at which all is told -/
structure TdOk (t : Tm) (x : Option Rat) where
  n : Nat
  d : Nat
  N : Nat
  D : Nat
  ok : TmOk n 31 t
  hn : n ≤ 1000
  hd : Dn d t.delay
  hx : ∀ q, x = some q → Bd N q ∧ Dn D q
  hN : N ≤ 3000
  hD : D + d ≤ 1000
def ElB (n m : Nat) (e : Rat) : Prop := Bd n e ∧ Dn m e
theorem lsq_or (r : Rat) (d : Option Rat) : lsq r d = r ∨ d = some (lsq r d) := by
  unfold lsq lsr
  cases d with
  | none => exact .inl rfl
  | some a => split
              · exact .inr rfl
              · exact .inl rfl
theorem mx0_or (r : Rat) : mx0 r = r ∨ mx0 r = 0 := by
  unfold mx0 gtr
  split
  · exact .inr rfl
  · exact .inl rfl
theorem act_dn {n : Nat} {t : Tm} (h : TmOk n 31 t) : ∀ q, t.act = some q → Bd 63 q ∧ Dn 62 q := by
  intro q hq
  refine ⟨h.actB (by decide) q hq, ?_⟩
  unfold Tm.act rp at hq
  split at hq
  · cases hq
    exact (Bd.q0.dn).mono (by decide)
  · unfold mul2 at hq
    split at hq
    · rename_i a b e1 e2
      cases hq
      exact Dn.mul ((h.lenB (by decide) _ e1).dn) ((h.times _ e2).dn)
    · cases hq
theorem el_bd {t : Tm} {x : Rat} (h : TdOk t (some x)) {p : Ph} {e : Rat} (he : t.el p x = some e) : Bd (h.N + h.n + 64) e ∧ Dn (h.D + h.d + 62) e := by
  have b1 : Bd (h.N + h.n + 1) (x - t.delay) := Bd.sub (h.hx x rfl).1 h.ok.delay
  have b2 : Dn (h.D + h.d) (x - t.delay) := Dn.sub (h.hx x rfl).2 h.hd
  have z1 : Bd (h.N + h.n + 64) (x - t.delay) := b1.mono (by omega)
  have z2 : Dn (h.D + h.d + 62) (x - t.delay) := b2.mono (by omega)
  have o1 : Bd (h.N + h.n + 64) (0 : Rat) := Bd.q0.mono (by omega)
  have o2 : Dn (h.D + h.d + 62) (0 : Rat) := (Bd.q0.dn).mono (by omega)
  cases p with
  | idle => cases he
  | act => cases he; exact ⟨z1, z2⟩
  | bef =>
    replace he : (if t.fill.bk = true then some (mx0 (x - t.delay)) else none) = some e := he
    split at he
    · cases he
      rcases mx0_or (x - t.delay) with e | e <;> rw [e]
      · exact ⟨z1, z2⟩
      · exact ⟨o1, o2⟩
    · cases he
  | aft =>
    replace he : (if t.fill.fw = true then some (mx0 (lsq (x - t.delay) t.act)) else none) = some e := he
    split at he
    · cases he
      rcases mx0_or (lsq (x - t.delay) t.act) with e | e <;> rw [e]
      · rcases lsq_or (x - t.delay) t.act with e | e
        · rw [e]; exact ⟨z1, z2⟩
        · have := act_dn h.ok _ e
          exact ⟨this.1.mono (by omega), this.2.mono (by omega)⟩
      · exact ⟨o1, o2⟩
    · cases he
theorem ov_bd {t : Tm} {x : Rat} (h : TdOk t (some x)) {p : Ph} {e : Rat} (he : t.el p x = some e) : ∀ q, t.ov p e = some q → Bd (h.N + h.n + 130) q ∧ Dn (h.D + h.d + 130) q := by
  have be := el_bd h he
  have f1 : Bd (h.N + h.n + 130) t.first := h.ok.first.mono (by omega)
  have f2 : Dn (h.D + h.d + 130) t.first := h.ok.first.dn.mono (by omega)
  intro q hq
  unfold Tm.ov at hq
  cases el : t.len with
  | none => rw [el] at hq; cases hq; exact ⟨f1, f2⟩
  | some l =>
    rw [el] at hq
    dsimp only at hq
    have bl := h.ok.lenB (by decide) l el
    have nl := h.ok.len0 l el
    split at hq
    · split at hq
      · cases hq; exact ⟨f1, f2⟩
      · cases et : t.times with
        | none => rw [et] at hq; cases hq
        | some k =>
          rw [et] at hq
          cases hq
          have bk := h.ok.times k et
          exact ⟨(Bd.add h.ok.first bk).mono (by omega), (Dn.add h.ok.first.dn bk.dn).mono (by omega)⟩
    · rename_i nz
      cases hq
      have l0 : 0 < l := by
        have := lt_of_le_ne nl (fun z => nz z.symm)
        grind
      exact ⟨(Bd.add h.ok.first (Bd.quot be.1 bl l0)).mono (by omega), (Dn.add h.ok.first.dn (Dn.quot be.2 bl l0)).mono (by omega)⟩
end FC

namespace FC
open PySem L2
theorem si_bd {t : Tm} {x : Rat} (h : TdOk t (some x)) {p : Ph} {e : Rat} (he : t.el p x = some e) : Bd (h.D + h.d + 130) (t.si p e (t.ov p e)) := by
  have b : Bd (h.D + h.d + 130) (fracR ((t.ov p e).getD t.first)) := by
    cases eo : t.ov p e with
    | none => exact (h.ok.first.dn.mono (by omega) : Dn (h.D + h.d + 130) t.first).frac
    | some q => exact (ov_bd h he q eo).2.frac
  unfold Tm.si
  dsimp only
  split
  · exact Bd.q1.mono (by omega)
  · exact b
theorem dir_bd {n : Nat} {s : Rat} {w : Bool} (h : Bd n s) : Bd (n + 2) (dir s w) := by
  unfold dir
  split
  · exact h.mono (by omega)
  · exact (Bd.sub Bd.q1 h).mono (by omega)
section
variable {K : PySem.W.Frag} {H : Hp} {Q : VK} {E : XK}
def spWholeQ (K : PySem.W.Frag) : Sp := fun vs H Q _ => ∃ (a : Addr) (q : Rat), vs = [.ref a] ∧ SqT K H a (fr q) ∧ Dn 1200 q ∧ Q (.int (flo q)) H
def spRestQ (K : PySem.W.Frag) : Sp := fun vs H Q _ => ∃ (a : Addr) (q : Rat), vs = [.ref a] ∧ SqT K H a (fr q) ∧ ∀ c H', Same H H' → SqT K H' c (fr (fracR q)) → Q (.ref c) H'
def spPhase (K : PySem.W.Frag) : Sp := fun vs H Q _ => ∃ (p : Addr) (v : V) (t : Tm) (x : Option Rat) (s : Int) (d : TdOk t x), vs = [.ref p, v, .int s] ∧ SpanO K H p t.sps ∧ It K H v (xD x) ∧ Q (.str (t.ph x s).s) H
def spActive (K : PySem.W.Frag) : Sp := fun vs H Q _ => ∃ (pd sp : Addr) (v : V) (t : Tm) (x : Option Rat) (p : Ph) (d : TdOk t x), vs = [.ref pd, .ref sp, .str t.fill.s, .str p.s, v] ∧ SqT K H pd (fr t.delay) ∧ SpanO K H sp t.sps ∧ It K H v (xD x) ∧ (x = none → p = .idle) ∧ ∀ z H', Same H H' → It K H' z (xD (t.elx p x)) → Q z H'
def spOverall (K : PySem.W.Frag) : Sp := fun vs H Q _ => ∃ (pt sp pe : Addr) (t : Tm) (x : Rat) (p : Ph) (e : Rat) (d : TdOk t (some x)), vs = [.ref pt, .ref sp, .str p.s, .ref pe] ∧ It K H (.ref pt) (tmD t) ∧ SpanO K H sp t.sps ∧ SqT K H pe (fr e) ∧ t.el p x = some e ∧ ∀ z H', Same H H' → It K H' z (duD (t.ov p e)) → Q z H'
def spSimple (K : PySem.W.Frag) : Sp := fun vs H Q _ => ∃ (pt sp pe : Addr) (z : V) (t : Tm) (p : Ph) (e : Rat) (o : Option Rat), vs = [.ref pt, .ref sp, .str p.s, .ref pe, z] ∧ It K H (.ref pt) (tmD t) ∧ SpanO K H sp t.sps ∧ SqT K H pe (fr e) ∧ It K H z (duD o) ∧ ∀ c H', Same H H' → SqT K H' c (fr (t.si p e o)) → Q (.ref c) H'
def spIter (K : PySem.W.Frag) : Sp := fun vs H Q _ => ∃ (pt ps : Addr) (z : V) (t : Tm) (p : Ph) (o : Option Rat) (s : Rat), vs = [.ref pt, .str p.s, z, .ref ps] ∧ It K H (.ref pt) (tmD t) ∧ SqT K H ps (fr s) ∧ It K H z (duD o) ∧ (∀ q, o = some q → Dn 1200 q) ∧ ∀ u, It K H u (itD (t.itr p o s)) → Q u H
def spDir (K : PySem.W.Frag) : Sp := fun vs H Q _ => ∃ (pt : Addr) (z : V) (t : Tm) (i : Option Int), vs = [.ref pt, z] ∧ It K H (.ref pt) (tmD t) ∧ It K H z (itD i) ∧ Q (.int (if t.dr i = true then 1 else -1)) H
def spFacts (K : PySem.W.Frag) : Sp := fun vs H Q _ => ∃ (pt sp : Addr) (v : V) (t : Tm) (x : Option Rat) (s : Int) (d : TdOk t x), vs = [.ref pt, .ref sp, v, .int s] ∧ It K H (.ref pt) (tmD t) ∧ SpanO K H sp t.sps ∧ It K H v (xD x) ∧ (s = 1 ∨ s = -1) ∧ ∀ p H', Same H H' → It K H' (.ref p) (t.tell x s) → Q (.ref p) H'
def spTellAt (K : PySem.W.Frag) : Sp := fun vs H Q _ => ∃ (u : V) (v : V) (t : Tm) (x : Option Rat) (s : Int) (d : TdOk t x), vs = [u, v, .int s] ∧ It K H u (tmD t) ∧ It K H v (xD x) ∧ (s = 1 ∨ s = -1) ∧ ∀ p H', Same H H' → It K H' (.ref p) (t.tell x s) → Q (.ref p) H'
theorem It.xI {v : V} {x : Option Rat} (h : It K H v (xD x)) : (x = none ∧ v = .non) ∨ (∃ q p, x = some q ∧ v = .ref p ∧ SqT K H p (FC.fr q)) := by
  cases x with
  | none => exact .inl ⟨rfl, It.nonI h⟩
  | some q => obtain ⟨p, e, hp⟩ := It.frI h; exact .inr ⟨q, p, rfl, e, hp⟩
theorem den_divn {q : Rat} (i : Int) (b : Dn 1200 q) : CDivW i (q.den : Int) := wide_div (b := 1200) (by exact_mod_cast den_pos q) (by rw [Int.natAbs_natCast]; exact b) (by decide) (by decide)
theorem SpanO.I {p : Addr} {S : Sps} (h : SpanO K H p S) : SpanO K H p S := h
end
end FC

namespace FC
open PySem L2
/-- a fraction with a size and a size of its denominator -/
def FrM (K : PySem.W.Frag) (N D : Nat) (v : V) (H : Hp) : Prop := ∃ p q, v = .ref p ∧ SqT K H p (fr q) ∧ Bd N q ∧ Dn D q
theorem FrM.tp {K : PySem.W.Frag} {N D : Nat} {v : V} {H H' : Hp} (h : FrM K N D v H) (t : Tp K H H') : FrM K N D v H' := by
  obtain ⟨p, q, e, h1, h2⟩ := h
  exact ⟨p, q, e, t _ _ h1, h2⟩
theorem FrM.mono {K : PySem.W.Frag} {N D N' D' : Nat} {v : V} {H : Hp} (h : FrM K N D v H) (l1 : N ≤ N') (l2 : D ≤ D') : FrM K N' D' v H := by
  obtain ⟨p, q, e, h1, h2, h3⟩ := h
  exact ⟨p, q, e, h1, h2.mono l1, h3.mono l2⟩
section
variable {K : PySem.W.Frag} {σ : L2.St} {H : Hp} {Q : VK} {te : TE} {tt : TT} {g : TG} {vs : List Nat} {J : L2.It} {n : Nat} {G : Hp → Prop} {Y : Nat → Hp → V → Hp → Prop} {a : Addr}
/-- a comprehension with a test: what holds of each item that is taken -/
theorem lcJP (w : Walk J n G Y) (Pd : V → Hp → Prop) (st : ∀ y H H', Pd y H → Tp K H H' → Pd y H') (hG : ∀ H', Same H H' → G H') (hn : n ≤ 100000)
    (body : ∀ i x H1 H' (N : Hp → Prop) (A : VK), i < n → Same H H1 → Y i H1 x H' → (∀ H'', Same H1 H'' → N H'') → (∀ y H'', Same H1 H'' → Pd y H'' → A y H'') → g x (wipe σ vs) H' fun σ2 H2 => wipe σ2 vs = wipe σ vs ∧ tt σ2 H2 fun b H3 => if b = true then te σ2 H3 A else N H3)
    (k : ∀ D ys H', H D = none → Same H H' → H' D = some (.lst ys) → ys.length ≤ n → (∀ v ∈ ys, Pd v H') → Q (.ref D) H') : LcJ J g tt te vs σ Q H := by
  intro D hD
  refine lc_it w (fun i H' => Same H H' ∧ ∃ ys, H' D = some (.lst ys) ∧ ys.length ≤ i ∧ ∀ v ∈ ys, Pd v H') ⟨same_upd hD, [], upd_same, by simp, fun v hv => by simp at hv⟩ (fun i H' _ v => hG H' v.1) ?_ ?_
  · rintro i x H1 H' hi ⟨e1, ys, t1, l1, al⟩ y
    refine body i x H1 H' _ _ hi e1 y (fun H'' e2 => ⟨e1.trans e2, ys, e2 _ _ t1, by omega, fun v hv => st v _ _ (al v hv) (Tp.same e2)⟩) (fun z H'' e2 hz => ?_)
    have e' : H'' D = some (.lst ys) := e2 _ _ t1
    have t : Tp K H1 (upd H'' D (.lst (ys ++ [z]))) := (Tp.same e2).trans (Tp.lst e')
    refine ⟨ys, e', Nat.lt_of_lt_of_le (by omega : ys.length < 100000) (by decide), ?_, ys ++ [z], upd_same, by rw [List.length_append]; simp; omega, ?_⟩
    · intro b o hb
      rw [upd_ne (ne_of_none hb hD)]
      exact e2 _ _ (e1 _ _ hb)
    · intro v hv
      rcases List.mem_append.mp hv with hv | hv
      · exact st v _ _ (al v hv) t
      · rw [List.mem_singleton.mp hv]
        exact st z _ _ hz (Tp.lst e')
  · rintro H' ⟨e1, ys, t1, l1, al⟩
    exact k D ys H' hD e1 t1 l1 al
end

def Dno (n : Nat) (a : Option Rat) : Prop := ∀ q, a = some q → Dn n q
theorem Dno.some {n : Nat} {q : Rat} (h : Dn n q) : Dno n (Option.some q) := fun p e => by cases e; exact h
theorem Dno.mono {n m : Nat} {a : Option Rat} (h : Dno n a) (l : n ≤ m) : Dno m a := fun q e => (h q e).mono l
theorem Dno.jn {n m : Nat} {a b : Option Rat} (h1 : Dno n a) (h2 : Dno m b) : Dno (n + m) (jn a b) := by
  cases a with
  | none => exact fun q e => by cases e
  | some p =>
    cases b with
    | none => exact fun q e => by cases e
    | some q => exact Dno.some (Dn.add (h1 p rfl) (h2 q rfl))
theorem Dno.lsr {n : Nat} {a b : Option Rat} (h1 : Dno n a) (h2 : Dno n b) : Dno n (lsr a b) := by
  unfold FC.lsr
  split
  · exact h2
  · exact h1
theorem Dno.gtr {n : Nat} {a b : Option Rat} (h1 : Dno n a) (h2 : Dno n b) : Dno n (gtr a b) := by
  unfold FC.gtr
  split
  · exact h2
  · exact h1
theorem TmOk.overD {n d : Nat} {t : Tm} (h : TmOk n 31 t) (h1 : Dn d t.delay) : Dno (d + 62) t.over := Dno.jn (Dno.some h1) (fun q e => (act_dn h q e).2)
theorem TmOk.finD {n d : Nat} {t : Tm} (h : TmOk n 31 t) (h1 : Dn d t.delay) (h2 : Dn d t.behind) : Dno (2 * d + 62) t.fin := Dno.gtr ((Dno.jn (h.overD h1) (Dno.some h2)).mono (by omega)) (Dno.some (Bd.q0.dn.mono (by omega)))
theorem TmOk.feD {n d : Nat} {t : Tm} (h : TmOk n 31 t) (h1 : Dn d t.delay) (h2 : Dn d t.behind) : Dno (2 * d + 62) t.fe := Dno.gtr (Dno.lsr (Dno.some (h1.mono (by omega))) (h.finD h1 h2)) (Dno.some (Bd.q0.dn.mono (by omega)))
theorem TmOk.seD {n d : Nat} {t : Tm} (h : TmOk n 31 t) (h1 : Dn d t.delay) (h2 : Dn d t.behind) : Dno (2 * d + 62) t.se := Dno.gtr (Dno.lsr ((h.overD h1).mono (by omega)) (h.finD h1 h2)) (Dno.some (Bd.q0.dn.mono (by omega)))
/-- a time or endless, with sizes -/
def DuM (K : PySem.W.Frag) (N D : Nat) (v : V) (H : Hp) : Prop := ∃ x : Option Rat, It K H v (duD x) ∧ Bo N x ∧ Dno D x
theorem DuM.tp {K : PySem.W.Frag} {N D : Nat} {v : V} {H H' : Hp} (h : DuM K N D v H) (t : Tp K H H') : DuM K N D v H' := by
  obtain ⟨x, h1, h2⟩ := h
  exact ⟨x, h1.st t, h2⟩
end FC

namespace FC
open PySem L2
/-! ### a tuple whose object is known, and its methods -/
def tTupF (t : TA) : TE := fun σ H Q => t σ H fun xs H1 => xs.length ≤ sizeLine ∧ ∀ p o, H1 p = none → o.cls = Value.type "tuple" → o.dict = none → Q (.ref p) (upd H1 p (.frz o (.tup xs)))
theorem pe_tupF {X : Cx} {es : List Expr} {t : TA} {pos : Pos} {x1} (h : PA X es t) : PE X (.Tuple es x1 pos) (tTupF t) := by
  refine ⟨fun pins s σ H Q I hq => ?_⟩
  refine wpAny_Tuple_spliced (thn (h.run pos pins s σ H _ I hq) fun us s1 ⟨xs, H1, I1, r, z, q⟩ => ⟨by rw [← r.length]; exact z, ?_⟩)
  have hf : H1 s1.heap.objs.size = none := I1.hok.fresh (Nat.le_refl _)
  refine ⟨.ref s1.heap.objs.size, upd H1 s1.heap.objs.size (.frz _ (.tup xs)), I1.laid (t' := s1.toks) (fun b u e => Heap.get?_push_of_some _ e) (Nat.le_refl _) ⟨Heap.get?_push_size _ rfl, ?_⟩, rfl, q _ _ hf rfl rfl⟩
  exact ⟨z, us, r, ⟨_, Heap.get?_push_size _ rfl, rfl, _, rfl⟩⟩
def FrzT (H : Hp) (x : V) : Prop := ∃ p o u, x = .ref p ∧ H p = some (.frz o u) ∧ o.cls = Value.type "tuple" ∧ o.dict = none
def tBMF (r : V → List V → Hp → VK → Prop) (to : TE) (t : TA) : TE := fun σ H Q => to σ H fun x H1 => FrzT H1 x ∧ t σ H1 fun xs H2 => r x xs H2 Q
theorem pe_bmF {X : Cx} {o e : Expr} {es : List Expr} {to : TE} {t : TA} {name : Str} {apos cpos : Pos} {id : String} {r : V → List V → Hp → VK → Prop} (pa : PlainAttrs "tuple") (slot : Slot "tuple" name id) (hty : typeOf (.builtin id) = pure (.type "method_descriptor")) (hm : MtR X id r) (ho : PE X o to) (ha : PA X (e :: es) t)
    (hbase : attributeBase o name X.env (eval o X.env) = eval o X.env := by rfl)
    (hfew : ((backTo cpos (starEach (e :: es) X.env)).all (fun x => !x.1) && (backToKw cpos (keywordEach [] X.env)).all (fun x => x.1.isSome)
      && decide ((e :: es).length + ([] : List Keyword).length + (if ([] : List Keyword).isEmpty then 0 else 1) < 30)) = true := by rfl)
    (hline : (apos.endLine == cpos.line) = true := by rfl) (hs : starEach (e :: es) X.env = (false, eval e X.env) :: starEach es X.env := by rfl) (hplain : (backTo cpos (starEach es X.env)).any (·.1) = false := by rfl) :
    PE X (.Call (.Attribute o name apos) (e :: es) [] cpos) (tBMF r to t) := by
  refine ⟨fun pins s σ H Q I h => ?_⟩
  refine wpAny_Call_method_late hbase hfew hline rfl (thn (ho.run pins s σ H _ I h) fun v s1 ⟨x, H1, I1, r1, ty, q1⟩ => ?_)
  obtain ⟨p, ob, u, rfl, hp, hc, hd⟩ := ty
  cases r1
  have hk := (I1.hok p _ hp).1
  refine ⟨"tuple", id, pa, slot, hty, ⟨ob, hk, hc⟩, fun a e2 => ?_, ?_⟩
  · cases e2
    exact ⟨ob, hk, hd⟩
  have hA := ha.run cpos pins s1 σ H1 _ I1 q1
  rw [hs] at hA ⊢
  refine Calls.callWith_builtin (by show (false || (backTo cpos (starEach es X.env)).any (·.1)) = false; rw [hplain] <;> rfl) (Calls.evalArgs_plain ?_)
  exact thn hA fun us s2 ⟨vs, H2, I2, r2, q2⟩ => hm pins s2 σ H2 (.ref p) vs (.ref p) us Q I2 rfl r2 q2
section
variable {σ : L2.St} {H : Hp} {Q : VK} {te : TE} {t : TA}
def TupFP (Q : VK) : List V → Hp → Prop := fun xs H1 => xs.length ≤ sizeLine ∧ ∀ p o, H1 p = none → o.cls = Value.type "tuple" → o.dict = none → Q (.ref p) (upd H1 p (.frz o (.tup xs)))
theorem xtupF (q : t σ H (TupFP Q)) : tTupF t σ H Q := q
theorem tupF_ {xs : List V} (hl : xs.length ≤ sizeLine) (q : ∀ p o H', H p = none → Same H H' → H' p = some (.frz o (.tup xs)) → o.cls = Value.type "tuple" → o.dict = none → Q (.ref p) H') : TupFP Q xs H :=
  ⟨hl, fun p o hp hc hd => q p o _ hp (same_upd hp) upd_same hc hd⟩
theorem xbmF {r : V → List V → Hp → VK → Prop} (q : te σ H fun x H1 => FrzT H1 x ∧ t σ H1 fun xs H2 => r x xs H2 Q) : tBMF r te t σ H Q := q
end
/-! ### the order of phases -/
def Ph.ix : Ph → Nat
  | .bef => 0 | .act => 1 | .aft => 2 | .idle => 3
theorem ph_b {t : Tm} {f x : Rat} {s : Int} (hf : t.fe = some f) (h : x < f ∨ (s = -1 ∧ x = f)) : t.ph (some x) s = .bef := by
  unfold Tm.ph
  dsimp only
  rw [hf]
  refine if_pos ?_
  simp only [blw, Bool.or_eq_true, Bool.and_eq_true, decide_eq_true_eq, Option.some.injEq]
  exact h
theorem ph_nb {t : Tm} {f x : Rat} {s : Int} (hf : t.fe = some f) (h : ¬ (x < f ∨ (s = -1 ∧ x = f))) : t.ph (some x) s = if (blw t.se (some x) || (decide (s = 1) && decide (some x = t.se))) = true then .aft else .act := by
  unfold Tm.ph
  dsimp only
  rw [hf]
  refine if_neg ?_
  simp only [blw, Bool.or_eq_true, Bool.and_eq_true, decide_eq_true_eq, Option.some.injEq]
  exact h
theorem ph_a {t : Tm} {f x g : Rat} {s : Int} (hf : t.fe = some f) (h : ¬ (x < f ∨ (s = -1 ∧ x = f))) (hg : t.se = some g) (h2 : g < x ∨ (s = 1 ∧ x = g)) : t.ph (some x) s = .aft := by
  rw [ph_nb hf h, hg]
  refine if_pos ?_
  simp only [blw, Bool.or_eq_true, Bool.and_eq_true, decide_eq_true_eq, Option.some.injEq]
  exact h2
theorem ph_c {t : Tm} {f x : Rat} {s : Int} (hf : t.fe = some f) (h : ¬ (x < f ∨ (s = -1 ∧ x = f))) (h2 : ∀ g, t.se = some g → ¬ (g < x ∨ (s = 1 ∧ x = g))) : t.ph (some x) s = .act := by
  rw [ph_nb hf h]
  refine if_neg ?_
  cases e : t.se with
  | none => simp [blw]
  | some g =>
    simp only [blw, Bool.or_eq_true, Bool.and_eq_true, decide_eq_true_eq, Option.some.injEq]
    exact h2 g e
theorem ph_mono {t : Tm} {x y : Rat} {s : Int} (h : x ≤ y) : (t.ph (some x) s).ix ≤ (t.ph (some y) s).ix := by
  obtain ⟨f, hf⟩ := fe_some t
  by_cases c1 : x < f ∨ (s = -1 ∧ x = f)
  · rw [ph_b hf c1]; exact Nat.zero_le _
  · have c2 : ¬ (y < f ∨ (s = -1 ∧ y = f)) := by grind
    by_cases c3 : ∃ g, t.se = some g ∧ (g < x ∨ (s = 1 ∧ x = g))
    · obtain ⟨g, hg, h3⟩ := c3
      rw [ph_a hf c1 hg h3, ph_a hf c2 hg (by grind)]
      exact Nat.le_refl _
    · rw [ph_c hf c1 (fun g hg z => c3 ⟨g, hg, z⟩), ph_nb hf c2]
      split <;> decide
theorem ph_in {t : Tm} {f x : Rat} {s : Int} (hf : t.fe = some f) (h1 : f < x) (h2 : blw (some x) t.se = true) : t.ph (some x) s = .act := by
  refine ph_c hf (by grind) fun g hg => ?_
  rw [hg] at h2
  have h3 : x < g := of_decide_eq_true h2
  grind
theorem ph_ne {t : Tm} {x : Rat} {s : Int} : t.ph (some x) s ≠ .idle := by
  obtain ⟨f, hf⟩ := fe_some t
  by_cases c1 : x < f ∨ (s = -1 ∧ x = f)
  · rw [ph_b hf c1]; intro z; cases z
  · rw [ph_nb hf c1]
    split <;> (intro z; cases z)
/-- at the edges -/
theorem ph_e1 {n m : Nat} {t : Tm} (ok : TmOk n m t) {f : Rat} (hf : t.fe = some f) (h : ¬ t.fe = t.se) : t.ph (some f) 1 = .act := by
  have l := fe_le_se ok
  refine ph_c hf (by grind) fun g hg => ?_
  rw [hf, hg] at h l
  have l2 : ¬ g < f := of_decide_eq_false l
  grind
theorem ph_e2 {n m : Nat} {t : Tm} (ok : TmOk n m t) {g : Rat} (hg : t.se = some g) : t.ph (some g) 1 = .aft := by
  obtain ⟨f, hf⟩ := fe_some t
  have l := fe_le_se ok
  rw [hf, hg] at l
  have l2 : ¬ g < f := of_decide_eq_false l
  exact ph_a hf (by grind) hg (by grind)
theorem ph_e3 {n m : Nat} {t : Tm} (ok : TmOk n m t) {g : Rat} (hg : t.se = some g) (h : ¬ t.fe = t.se) : t.ph (some g) (-1) = .act := by
  obtain ⟨f, hf⟩ := fe_some t
  have l := fe_le_se ok
  rw [hf, hg] at l h
  have l2 : ¬ g < f := of_decide_eq_false l
  refine ph_c hf (by grind) fun g' hg' => ?_
  rw [hg] at hg'
  cases hg'
  grind
theorem ph_e4 {t : Tm} {f : Rat} (hf : t.fe = some f) : t.ph (some f) (-1) = .bef := ph_b hf (by grind)
theorem tell_hd (t : Tm) (x : Option Rat) (s : Int) : ∃ ds, t.tell x s = .tuple (.str (t.ph x s).s :: ds) := by
  unfold Tm.tell
  cases t.elx (t.ph x s) x with
  | none => exact ⟨_, rfl⟩
  | some e => exact ⟨_, rfl⟩
theorem tell_none (t : Tm) (s : Int) : t.tell none s = .tuple [.str "idle", .none, .none, .none, .none, .none, .none] := rfl
/-! ### sorted -/
def ins (x : Rat) (qs : List Rat) : List Rat := (qs.filter fun q => !decide (x < q)) ++ [x] ++ qs.drop (qs.filter fun q => !decide (x < q)).length
theorem ins_cons_le {x a : Rat} {r : List Rat} (h : ¬ x < a) : ins x (a :: r) = a :: ins x r := by
  unfold ins
  rw [List.filter_cons, if_pos (by rw [decide_eq_false h] <;> rfl)]
  rfl
theorem ins_cons_gt {x a : Rat} {r : List Rat} (h : x < a) (hr : ∀ b ∈ r, a ≤ b) : ins x (a :: r) = x :: a :: r := by
  unfold ins
  have e : (a :: r).filter (fun q => !decide (x < q)) = [] := by
    rw [List.filter_eq_nil_iff]
    intro b hb
    rcases List.mem_cons.mp hb with rfl | hb
    · rw [decide_eq_true h]; decide
    · have := hr b hb
      rw [decide_eq_true (show x < b by grind)]; decide
  rw [e] <;> rfl
theorem ins_mem {x y : Rat} : ∀ {qs : List Rat}, y ∈ ins x qs → y = x ∨ y ∈ qs := by
  intro qs h
  unfold ins at h
  rcases List.mem_append.mp h with h | h
  · rcases List.mem_append.mp h with h | h
    · exact .inr (List.mem_filter.mp h).1
    · exact .inl (List.mem_singleton.mp h)
  · exact .inr (List.mem_of_mem_drop h)
theorem ins_pw {x : Rat} : ∀ {qs : List Rat}, qs.Pairwise (· ≤ ·) → (ins x qs).Pairwise (· ≤ ·)
  | [], _ => by unfold ins; simp
  | a :: r, h => by
    have h1 := List.pairwise_cons.mp h
    by_cases c : x < a
    · rw [ins_cons_gt c h1.1]
      refine List.pairwise_cons.mpr ⟨fun b hb => ?_, h⟩
      rcases List.mem_cons.mp hb with rfl | hb
      · grind
      · have := h1.1 b hb
        grind
    · rw [ins_cons_le c]
      refine List.pairwise_cons.mpr ⟨fun b hb => ?_, ins_pw h1.2⟩
      rcases ins_mem hb with rfl | hb
      · grind
      · exact h1.1 b hb
theorem ins_len (x : Rat) (qs : List Rat) : (ins x qs).length = qs.length + 1 := by
  unfold ins
  have := List.length_filter_le (fun q => !decide (x < q)) qs
  rw [List.length_append, List.length_append, List.length_drop]
  simp only [List.length_cons, List.length_nil]
  omega
/-! ### lists of fractions -/
section
variable {K : PySem.W.Frag} {H H' : Hp}
theorem FrL.append : ∀ {ys zs : List V} {qs rs : List Rat}, FrL K H ys qs → FrL K H zs rs → FrL K H (ys ++ zs) (qs ++ rs)
  | [], _, [], _, _, h2 => h2
  | y :: ys, _, q :: qs, _, h1, h2 => ⟨h1.1, FrL.append h1.2 h2⟩
  | [], _, _ :: _, _, h1, _ => h1.elim
  | _ :: _, _, [], _, h1, _ => h1.elim
theorem FrL.one {p : Addr} {q : Rat} (h : SqT K H p (fr q)) : FrL K H [.ref p] [q] := ⟨⟨p, rfl, h⟩, trivial⟩
theorem FrL.drop : ∀ {ys : List V} {qs : List Rat} (n : Nat), FrL K H ys qs → FrL K H (ys.drop n) (qs.drop n)
  | _, _, 0, h => h
  | [], [], _ + 1, _ => trivial
  | y :: ys, q :: qs, n + 1, h => FrL.drop n h.2
  | [], _ :: _, _ + 1, h => h.elim
  | _ :: _, [], _ + 1, h => h.elim
/-- from what holds of each item -/
theorem FrL.ofM {N D : Nat} : ∀ {ys : List V}, (∀ y ∈ ys, FrM K N D y H) → ∃ qs : List Rat, FrL K H ys qs ∧ ∀ q ∈ qs, Bd N q ∧ Dn D q
  | [], _ => ⟨[], trivial, fun q h => by simp at h⟩
  | y :: ys, h => by
    obtain ⟨p, q, e, h1, h2, h3⟩ := h y (by simp)
    obtain ⟨qs, g1, g2⟩ := FrL.ofM (ys := ys) fun z hz => h z (by simp [hz])
    refine ⟨q :: qs, ⟨⟨p, e, h1⟩, g1⟩, fun r hr => ?_⟩
    rcases List.mem_cons.mp hr with rfl | hr
    · exact ⟨h2, h3⟩
    · exact g2 r hr
theorem cutV_from {xs : List V} {n : Nat} (h : n ≤ xs.length) : cutV xs (some (n : Int)) none = xs.drop n := by
  unfold cutV
  rw [HT.sIx_nat, HT.sIx_none, Nat.min_eq_left h]
  refine List.take_of_length_le ?_
  rw [List.length_drop]
  exact Nat.le_refl _
theorem slL_ {Q : VK} {p : Addr} {xs : List V} {lo hi : Option Int} (ys : List V) (h : SqL K H p xs) (e : cutV xs lo hi = ys) (q : ∀ c H', H c = none → Same H H' → H' c = some (.lst ys) → Q (.ref c) H') : rSlL K (.ref p) lo hi H Q :=
  ⟨p, xs, rfl, h, fun c hc => q c _ hc (same_upd hc) (by rw [upd_same, e])⟩
/-- those of a list that pass a test, as they are -/
theorem lcFil {σ : L2.St} {Q : VK} {te : TE} {tt : TT} {b : Addr} {xs : List V} {qs : List Rat} {i0 : Nat} (f : Rat → Bool) (h : SqL K H b xs) (hq : FrL K H xs qs) (hn : xs.length ≤ 100000)
    (tst : ∀ p q H1 (P : Bool → Hp → Prop), SqT K H1 p (fr q) → q ∈ qs → Same H H1 → P (f q) H1 → tt ((wipe σ [i0]).set i0 (some (.ref p))) H1 P)
    (el : ∀ p H1 (A : VK), A (.ref p) H1 → te ((wipe σ [i0]).set i0 (some (.ref p))) H1 A)
    (k : ∀ D ys H', H D = none → Same H H' → H' D = some (.lst ys) → FrL K H' ys (qs.filter f) → Q (.ref D) H') : LcL K (gName i0) tt te [i0] σ Q (.ref b) H := by
  refine LcL.of h ?_
  intro D hD
  have ln := FrL.len hq
  refine lc_it walk_list (fun i H' => Same H H' ∧ ∃ ys, H' D = some (.lst ys) ∧ ys.length ≤ i ∧ FrL K H' ys ((qs.take i).filter f)) ⟨same_upd hD, [], upd_same, by simp, by simp [FrL]⟩ (fun i H' _ v => Same.seq v.1 h) ?_ ?_
  · rintro i x H1 H1' hi ⟨e1, ys, t1, l1, al⟩ ⟨ee, hx⟩
    subst ee
    obtain ⟨q, p, eq, rfl, hp⟩ := FrL.get hq hx
    have eT : qs.take (i + 1) = qs.take i ++ [q] := by rw [List.take_add_one, eq] <;> rfl
    refine ⟨?_, ?_⟩
    · show (((σ.set i0 none).set i0 (some (V.ref p))).set i0 none) = σ.set i0 none
      rw [List.set_set, List.set_set]
    refine tst p q _ _ (Same.sqT e1 hp) (List.mem_of_getElem? eq) e1 ?_
    cases c : f q with
    | true =>
      rw [if_pos rfl]
      refine el p _ _ ?_
      refine ⟨ys, t1, Nat.lt_of_lt_of_le (by omega : ys.length < 100000) (by decide), ?_, ys ++ [.ref p], upd_same, by rw [List.length_append]; simp; omega, ?_⟩
      · intro b o hb
        rw [upd_ne (ne_of_none hb hD)]
        exact e1 _ _ hb
      · rw [eT, List.filter_append, List.filter_cons, if_pos c]
        have t := Tp.lst (K := K) (zs := ys ++ [V.ref p]) t1
        exact FrL.append (al.tp t) (FrL.one (t _ _ (Same.sqT e1 hp)))
    | false =>
      rw [if_neg Bool.false_ne_true]
      refine ⟨e1, ys, t1, by omega, ?_⟩
      rw [eT, List.filter_append, List.filter_cons, if_neg (by rw [c]; exact Bool.false_ne_true)]
      simpa using al
  · rintro H2 ⟨e1, ys, t1, l1, al⟩
    rw [List.take_of_length_le (by omega)] at al
    exact k D ys H2 hD e1 t1 al
end
theorem ixN0 (n : Nat) : ixN (n + 1) 0 = some 0 := by
  unfold ixN
  rw [if_pos (by omega), if_pos (by omega)]
  rfl
theorem It.du3I {K : PySem.W.Frag} {H : Hp} {p : Addr} {a b c : Option Rat} (h : It K H (.ref p) (.tuple [duD a, duD b, duD c])) : ∃ v1 v2 v3, SqT K H p [v1, v2, v3] ∧ It K H v1 (duD a) ∧ It K H v2 (duD b) ∧ It K H v3 (duD c) := by
  obtain ⟨_, xs, e, s, al⟩ := It.tupI h
  cases e
  cases al with
  | cons h1 r =>
    cases r with
    | cons h2 r =>
      cases r with
      | cons h3 r =>
        cases r
        exact ⟨_, _, _, s, h1, h2, h3⟩
/-! ### promises -/
section
variable (K : PySem.W.Frag)
def spSorted : Sp := fun vs H Q _ => ∃ (b : Addr) (xs : List V) (qs : List Rat), vs = [.ref b] ∧ SqL K H b xs ∧ FrL K H xs qs ∧ xs.length ≤ 60 ∧ (∀ q ∈ qs, Bd 3000 q ∧ Dn 500 q) ∧
  ∀ D ys rs H', H D = none → Same H H' → H' D = some (.lst ys) → FrL K H' ys rs → rs.length ≤ 60 → rs.Pairwise (· ≤ ·) → (∀ q ∈ rs, Bd 3000 q ∧ Dn 500 q) → Q (.ref D) H'
def spPhasesR : Sp := fun vs H Q _ => ∃ (v : V) (b : Addr) (xs : List V) (qs : List Rat) (t : Tm) (n d : Nat), vs = [v, .ref b] ∧ It K H v (tmD t) ∧ TmOk n 31 t ∧ n ≤ 1000 ∧ Dn d t.delay ∧ Dn d t.behind ∧ d ≤ 150 ∧ SqL K H b xs ∧ FrL K H xs qs ∧ xs.length ≤ 60 ∧ qs.Pairwise (· ≤ ·) ∧ (∀ q ∈ qs, Bd 3000 q ∧ Dn 500 q) ∧
  ∀ H', Same H H' → Q (.bl true) H'
end
theorem idx_ {K : PySem.W.Frag} {H : Hp} {Q : VK} {p : Addr} {f : Ph} (hf : f ≠ .idle) (h : SqT K H p [.str "before", .str "active", .str "after"]) (q : Q (.int (f.ix : Nat)) H) :
    ∃ p', ∃ ys : List Str, ∃ z j, (V.ref p : V) = .ref p' ∧ [V.str f.s] = [.str z] ∧ SqT K H p' (ys.map V.str) ∧ ys[j]? = some z ∧ (∀ m, m < j → ys[m]? ≠ some z) ∧ Q (.int (j : Nat)) H := by
  refine ⟨p, ["before", "active", "after"], f.s, f.ix, rfl, rfl, h, ?_, ?_, q⟩
  · cases f with
    | idle => exact absurd rfl hf
    | bef => rfl
    | act => rfl
    | aft => rfl
  · intro m hm z
    cases f with
    | idle => exact hf rfl
    | bef => exact absurd hm (by show ¬ m < 0; omega)
    | act =>
      have hm' : m < 1 := hm
      obtain rfl : m = 0 := by omega
      have z2 : some ("before" : Str) = some "active" := z
      exact absurd (Option.some.inj z2) (by decide)
    | aft =>
      have hm' : m < 2 := hm
      match m, hm', z with
      | 0, _, z => exact absurd (Option.some.inj (show some ("before" : Str) = some "after" from z)) (by decide)
      | 1, _, z => exact absurd (Option.some.inj (show some ("active" : Str) = some "after" from z)) (by decide)
/-- sizes of the edges as moments -/
def tdOk {n d : Nat} {t : Tm} {x : Option Rat} (ok : TmOk n 31 t) (hn : n ≤ 1000) (h1 : Dn d t.delay) (hd : d ≤ 150) (hx : ∀ q, x = some q → Bd 3000 q ∧ Dn 500 q) : TdOk t x := ⟨n, d, 3000, 500, ok, hn, h1, hx, by decide, by omega⟩
theorem fe_sz {n d : Nat} {t : Tm} (ok : TmOk n 31 t) (hn : n ≤ 1000) (h1 : Dn d t.delay) (h2 : Dn d t.behind) (hd : d ≤ 150) : ∀ q, t.fe = some q → Bd 3000 q ∧ Dn 500 q := fun q e =>
  ⟨((ok.feB (m := 31) (by decide)).mono (by omega)) q e, ((ok.feD h1 h2).mono (by omega)) q e⟩
theorem se_sz {n d : Nat} {t : Tm} (ok : TmOk n 31 t) (hn : n ≤ 1000) (h1 : Dn d t.delay) (h2 : Dn d t.behind) (hd : d ≤ 150) : ∀ q, t.se = some q → Bd 3000 q ∧ Dn 500 q := fun q e =>
  ⟨((ok.seB (m := 31) (by decide)).mono (by omega)) q e, ((ok.seD h1 h2).mono (by omega)) q e⟩
end FC

namespace FC
open PySem L2
/-! ### what is told, as data that can be compared and shown -/
theorem OkD.it (i : Option Int) : OkD 1 (itD i) := by
  cases i with
  | none => exact OkD.str (by decide +kernel)
  | some i => exact OkD.int i
theorem OkD.ph (p : Ph) : OkD 1 (.str p.s) := by
  cases p <;> exact OkD.str (by decide +kernel)
theorem OkD.x (x : Option Rat) : OkD 1 (xD x) := by
  cases x with
  | none => exact OkD.non
  | some q => exact OkD.fr q
theorem OkD.tellN (p : Ph) : OkD 2 (tellN p) := OkD.tup (OkA.cons (OkD.ph p) (OkA.cons OkD.non (OkA.cons OkD.non (OkA.cons OkD.non (OkA.cons OkD.non (OkA.cons OkD.non (OkA.cons OkD.non OkA.nil)))))))
theorem OkD.tellE (t : Tm) (p : Ph) (e : Rat) : OkD 2 (tellE t p e) := OkD.tup (OkA.cons (OkD.ph p) (OkA.cons (OkD.fr _) (OkA.cons (OkD.du _) (OkA.cons (OkD.fr _) (OkA.cons (OkD.it _) (OkA.cons (OkD.fr _) (OkA.cons (OkD.fr _) OkA.nil)))))))
theorem OkD.tell (t : Tm) (x : Option Rat) (s : Int) : OkD 2 (t.tell x s) := by
  unfold Tm.tell
  split
  · exact OkD.tellN _
  · exact OkD.tellE _ _ _
section
variable {K : PySem.W.Frag} {H : Hp} {Q : VK}
theorem eqR_ {u v : V} {d : PyData} {n : Nat} (h1 : It K H u d) (h2 : It K H v d) (o : OkD n d) (hn : n ≤ 64) (q : Q (.bl true) H) : rEqD K u v H Q :=
  eqI_ h1 h2 (o.sh hn) (o.sh hn) (by rw [SeqAt.eqv_refl d o.1]; exact q)
theorem neR_ {u v : V} {d : PyData} {n : Nat} (h1 : It K H u d) (h2 : It K H v d) (o : OkD n d) (hn : n ≤ 64) (q : Q (.bl false) H) : rNeD K u v H Q :=
  neI_ h1 h2 (o.sh hn) (o.sh hn) (by rw [SeqAt.eqv_refl d o.1]; exact q)
theorem It.tellEI {v : V} {t : Tm} {p : Ph} {e : Rat} (h : It K H v (tellE t p e)) : ∃ a pe zo ps zi pd pc, v = .ref a ∧ SqT K H a [.str p.s, .ref pe, zo, .ref ps, zi, .ref pd, .ref pc] ∧ SqT K H pe (FC.fr e) ∧ It K H zo (duD (t.ov p e)) ∧ SqT K H ps (FC.fr (t.si p e (t.ov p e))) ∧ It K H zi (itD (t.itr p (t.ov p e) (t.si p e (t.ov p e)))) ∧
    SqT K H pd (FC.fr (dir (t.si p e (t.ov p e)) (t.dr (t.itr p (t.ov p e) (t.si p e (t.ov p e)))))) ∧ SqT K H pc (FC.fr (cval t.curve (dir (t.si p e (t.ov p e)) (t.dr (t.itr p (t.ov p e) (t.si p e (t.ov p e))))) (flg p (t.dr (t.itr p (t.ov p e) (t.si p e (t.ov p e))))))) := by
  obtain ⟨a, xs, rfl, s, al⟩ := It.tupI h
  cases al with
  | cons h1 r =>
    cases r with
    | cons h2 r =>
      cases r with
      | cons h3 r =>
        cases r with
        | cons h4 r =>
          cases r with
          | cons h5 r =>
            cases r with
            | cons h6 r =>
              cases r with
              | cons h7 r =>
                cases r
                obtain rfl := It.strI h1
                obtain ⟨pe, rfl, he⟩ := It.frI h2
                obtain ⟨ps, rfl, hs⟩ := It.frI h4
                obtain ⟨pd, rfl, hd⟩ := It.frI h6
                obtain ⟨pc, rfl, hc⟩ := It.frI h7
                exact ⟨a, pe, _, ps, _, pd, pc, rfl, s, he, h3, hs, h5, hd, hc⟩
theorem It.tellNI {v : V} {p : Ph} (h : It K H v (tellN p)) : ∃ a, v = .ref a ∧ SqT K H a [.str p.s, .non, .non, .non, .non, .non, .non] := by
  obtain ⟨a, xs, rfl, s, al⟩ := It.tupI h
  cases al with
  | cons h1 r =>
    cases r with
    | cons h2 r =>
      cases r with
      | cons h3 r =>
        cases r with
        | cons h4 r =>
          cases r with
          | cons h5 r =>
            cases r with
            | cons h6 r =>
              cases r with
              | cons h7 r =>
                cases r
                obtain rfl := It.strI h1
                obtain rfl := It.nonI h2
                obtain rfl := It.nonI h3
                obtain rfl := It.nonI h4
                obtain rfl := It.nonI h5
                obtain rfl := It.nonI h6
                obtain rfl := It.nonI h7
                exact ⟨a, rfl, s⟩
theorem It.tellNC {a : Addr} {p : Ph} (h : SqT K H a [.str p.s, .non, .non, .non, .non, .non, .non]) : It K H (.ref a) (tellN p) := .tup h (.cons (.str _) (.cons .non (.cons .non (.cons .non (.cons .non (.cons .non (.cons .non .nil)))))))
theorem It.ref_tell {v : V} {t : Tm} {x : Option Rat} {s : Int} (h : It K H v (t.tell x s)) : ∃ a, v = .ref a := by
  obtain ⟨ds, e⟩ := tell_hd t x s
  rw [e] at h
  obtain ⟨a, xs, rfl, _, _⟩ := It.tupI h
  exact ⟨a, rfl⟩
end
theorem tell_E {t : Tm} {x : Rat} {s : Int} {e : Rat} (h : t.el (t.ph (some x) s) x = some e) : t.tell (some x) s = tellE t (t.ph (some x) s) e := by
  unfold Tm.tell Tm.elx
  dsimp only
  rw [h]
theorem tell_N {t : Tm} {x : Rat} {s : Int} (h : t.el (t.ph (some x) s) x = none) : t.tell (some x) s = tellN (t.ph (some x) s) := by
  unfold Tm.tell Tm.elx
  dsimp only
  rw [h]
/-! ### other fills -/
def Tm.wf (t : Tm) (f : Fi) : Tm := ⟨t.delay, t.behind, f, t.first, t.times, t.length, t.way, t.curve⟩
theorem TmOk.wf {n m : Nat} {t : Tm} (h : TmOk n m t) (f : Fi) : TmOk n m (t.wf f) := ⟨h.delay, h.behind, h.first0, h.first, h.times0, h.times, h.length0, h.length, h.curve⟩
theorem wf_ph (t : Tm) (f : Fi) (x : Option Rat) (s : Int) : (t.wf f).ph x s = t.ph x s := rfl
theorem wf_E (t : Tm) (f : Fi) (p : Ph) (e : Rat) : tellE (t.wf f) p e = tellE t p e := rfl
/-- where a fill reaches -/
def Fi.has (f : Fi) (p : Ph) : Bool := match p with
  | .act => true
  | .bef => f.bk
  | .aft => f.fw
  | .idle => false
theorem wf_el (t : Tm) (f : Fi) (p : Ph) (x : Rat) : (t.wf f).el p x = if f.has p = true then (t.wf .both).el p x else none := by
  cases p with
  | idle => rfl
  | act => rfl
  | bef =>
    show (if f.bk = true then some (mx0 (x - t.delay)) else none) = if f.bk = true then (if Fi.both.bk = true then some (mx0 (x - t.delay)) else none) else none
    split <;> rfl
  | aft =>
    show (if f.fw = true then some (mx0 (lsq (x - t.delay) t.act)) else none) = if f.fw = true then (if Fi.both.fw = true then some (mx0 (lsq (x - t.delay) t.act)) else none) else none
    split <;> rfl
theorem both_el (t : Tm) {p : Ph} (h : p ≠ .idle) (x : Rat) : ∃ e, (t.wf .both).el p x = some e := by
  cases p with
  | idle => exact absurd rfl h
  | act => exact ⟨_, rfl⟩
  | bef => exact ⟨_, rfl⟩
  | aft => exact ⟨_, rfl⟩
theorem mx0_ge (r : Rat) : ¬ mx0 r < 0 := by
  have h := mx0_eq r
  unfold gtr at h
  split at h
  · have : mx0 r = 0 := (Option.some.inj h).symm
    rw [this]; exact Rat.lt_irrefl
  · rename_i c
    have e : mx0 r = r := (Option.some.inj h).symm
    rw [e]
    intro z
    exact c (by show decide (r < 0) = true; exact decide_eq_true z)
theorem mx0_eq' (r : Rat) : mx0 r = if r < 0 then 0 else r := by
  have h := mx0_eq r
  unfold gtr at h
  by_cases c : r < 0
  · rw [if_pos (show blw (some r) (some 0) = true from decide_eq_true c)] at h
    rw [if_pos c]
    exact (Option.some.inj h).symm
  · rw [if_neg (show ¬ blw (some r) (some 0) = true from fun z => c (of_decide_eq_true z))] at h
    rw [if_neg c]
    exact (Option.some.inj h).symm
theorem lsq_some (r a : Rat) : lsq r (some a) = if a < r then a else r := by
  have h := lsq_eq r (some a)
  unfold lsr at h
  by_cases c : a < r
  · rw [if_pos (show blw (some a) (some r) = true from decide_eq_true c)] at h
    rw [if_pos c]
    exact (Option.some.inj h).symm
  · rw [if_neg (show ¬ blw (some a) (some r) = true from fun z => c (of_decide_eq_true z))] at h
    rw [if_neg c]
    exact (Option.some.inj h).symm
theorem lsq_none (r : Rat) : lsq r none = r := rfl
/-- what the active time keeps to -/
theorem el_aft {t : Tm} {n m : Nat} (ok : TmOk n m t) {x e : Rat} (h : t.el .aft x = some e) : ¬ e < 0 ∧ blw t.act (some e) = false := by
  replace h : (if t.fill.fw = true then some (mx0 (lsq (x - t.delay) t.act)) else none) = some e := h
  split at h
  · have h' := Option.some.inj h
    refine ⟨by rw [← h']; exact mx0_ge _, ?_⟩
    rw [← h']
    cases ea : t.act with
    | none => rfl
    | some a =>
      have a0 := Nn.act ok a ea
      refine decide_eq_false ?_
      rw [lsq_some, mx0_eq']
      split <;> split <;> grind
  · cases h
theorem el_bef {t : Tm} {x e : Rat} (h : t.el .bef x = some e) : ¬ e < 0 := by
  replace h : (if t.fill.bk = true then some (mx0 (x - t.delay)) else none) = some e := h
  split at h
  · rw [← Option.some.inj h]; exact mx0_ge _
  · cases h
/-! ### moments, with near sizes -/
def spMom (K : PySem.W.Frag) : Sp := fun vs H Q _ => ∃ (a : Addr) (v : V) (t : Tm) (n d : Nat), vs = [.ref a, v] ∧ Src H a ∧ It K H v (tmD t) ∧ TmOk n 31 t ∧ n ≤ 1000 ∧ Dn d t.delay ∧ Dn d t.behind ∧ 31 ≤ d ∧ d ≤ 150 ∧
  ∀ D ys H', H D = none → Src H' a → Frm a H H' → H' D = some (.lst ys) → ys.length ≤ 60 → (∀ x ∈ ys, FrM K (2 * n + 500) (2 * d + 70) x H') → Q (.ref D) H'
/-- sizes of moments of a drawn timing -/
def tdM {t : Tm} {x : Option Rat} (ok : TmOk 31 31 t) (hx : ∀ q, x = some q → Bd 562 q ∧ Dn 132 q) : TdOk t x := ⟨31, 31, 562, 132, ok, by decide, ok.delay.dn, hx, by decide, by decide⟩
/-! ### shown -/
theorem text_lenN {i : Int} {k : Nat} (hk : 0 < k) (h : i.natAbs < 2 ^ k) : (Str.ofString (toString i)).length ≤ k + 1 := by
  rw [ofString_length]
  cases i with
  | ofNat m =>
    have e : toString (Int.ofNat m) = Nat.repr m := rfl
    rw [e]
    exact Nat.le_succ_of_le (nat_repr_length_le hk h)
  | negSucc m =>
    have e : toString (Int.negSucc m) = "-" ++ Nat.repr (m + 1) := rfl
    rw [e, String.length_append]
    have e1 : "-".length = 1 := rfl
    have e2 := nat_repr_length_le (k := k) hk (show m + 1 < 2 ^ k from h)
    omega
theorem log_ltN {n : Nat} (h : n < 2 ^ 1900) : n.log2 < 1920 := by
  by_cases z : n = 0
  · rw [z]; decide
  · exact Nat.lt_trans ((Nat.log2_lt z).mpr h) (by decide)
structure ShW (n : Nat) (d : PyData) : Prop where
  sh : PyData.showable d = true
  lay : d.canLay0 = true
  dp : d.depth ≤ 4
  ln : d.shown.length ≤ n
theorem ShW.mono {n m : Nat} {d : PyData} (h : ShW n d) (l : n ≤ m) : ShW m d := ⟨h.sh, h.lay, h.dp, Nat.le_trans h.ln l⟩
theorem ShW.int {i : Int} (h : i.natAbs < 2 ^ 1900) : ShW 1901 (.int i) := by
  refine ⟨?_, rfl, by simp [PyData.depth], ?_⟩
  · simp only [PyData.showable]
    exact decide_eq_true (log_ltN h)
  · simp only [PyData.shown]
    exact text_lenN (by decide) h
theorem ShW.fr {q : Rat} (b : Bd 1900 q) : ShW 3810 (frD q) := by
  have h2 : ((q.den : Int)).natAbs < 2 ^ 1900 := by rw [Int.natAbs_natCast]; exact b.2
  refine ⟨?_, (OkD.fr q).1, Nat.le_trans (OkD.fr q).2 (by decide), ?_⟩
  · unfold frD
    simp only [PyData.showable, PyData.showableAll, Bool.and_true]
    rw [decide_eq_true (log_ltN b.1), decide_eq_true (log_ltN h2)]
    rfl
  have e : (frD q).shown = tupleText [Str.ofString (toString q.num), Str.ofString (toString (q.den : Int))] := by
    unfold frD
    simp only [PyData.shown, PyData.shownAll]
  rw [e]
  have t := tupleText_len_le [Str.ofString (toString q.num), Str.ofString (toString (q.den : Int))]
  have t1 := text_lenN (by decide) b.1
  have t2 := text_lenN (by decide) h2
  simp only [List.map_cons, List.map_nil, List.sum_cons, List.sum_nil, List.length_cons, List.length_nil] at t
  omega
theorem ShW.du {a : Option Rat} (b : Bo 1900 a) : ShW 3810 (duD a) := by
  cases a with
  | none => exact ⟨rfl, (OkD.du none).1, by decide +kernel, by decide +kernel⟩
  | some q => exact ShW.fr (b q rfl)
theorem ShW.it {i : Option Int} (b : ∀ k, i = some k → k.natAbs < 2 ^ 1900) : ShW 3810 (itD i) := by
  cases i with
  | none => exact ⟨rfl, (OkD.it none).1, by decide +kernel, by decide +kernel⟩
  | some k => exact (ShW.int (b k rfl)).mono (by decide)
theorem ShW.ph (p : Ph) : ShW 3810 (.str p.s) := by
  cases p <;> exact ⟨rfl, by decide +kernel, by decide +kernel, by decide +kernel⟩
theorem ShW.non : ShW 3810 .none := ⟨rfl, rfl, by decide +kernel, by decide +kernel⟩
theorem ShW.tup {n : Nat} {ds : List PyData} (h : ∀ d ∈ ds, ShW n d ∧ d.depth ≤ 3) : ShW (ds.length * (n + 2) + 3) (.tuple ds) := by
  have hs : ∀ ds : List PyData, (∀ d ∈ ds, ShW n d ∧ d.depth ≤ 3) → PyData.showableAll ds = true ∧ PyData.canLayAll0 ds = true ∧ PyData.depthAll ds ≤ 3 ∧ ((PyData.shownAll ds).map (·.length)).sum ≤ ds.length * n ∧ (PyData.shownAll ds).length = ds.length := by
    intro ds
    induction ds with
    | nil => intro _; exact ⟨rfl, rfl, Nat.zero_le _, by simp [PyData.shownAll], rfl⟩
    | cons d r ih =>
      intro h
      obtain ⟨a, b⟩ := h d (by simp)
      obtain ⟨i1, i2, i3, i4, i5⟩ := ih fun x hx => h x (by simp [hx])
      refine ⟨?_, ?_, ?_, ?_, ?_⟩
      · simp only [PyData.showableAll]; rw [a.sh, i1] <;> rfl
      · simp only [PyData.canLayAll0]; rw [a.lay, i2] <;> rfl
      · simp only [PyData.depthAll]; omega
      · have := a.ln
        simp only [PyData.shownAll, List.map_cons, List.sum_cons, List.length_cons, Nat.add_mul]
        omega
      · simp only [PyData.shownAll, List.length_cons, i5]
  obtain ⟨i1, i2, i3, i4, i5⟩ := hs ds h
  refine ⟨i1, i2, by simp only [PyData.depth]; omega, ?_⟩
  have e : (PyData.tuple ds).shown = tupleText (PyData.shownAll ds) := by simp only [PyData.shown]
  rw [e]
  have t := tupleText_len_le (PyData.shownAll ds)
  rw [i5] at t
  rw [Nat.mul_add]
  omega
theorem reprW_ {K : PySem.W.Frag} {p : Addr} {d : PyData} {n : Nat} {H : Hp} {Q : VK} (h : It K H (.ref p) d) (s : ShW n d) (hn : n ≤ 100000) (k : Q (.str d.shown) H) : rRepr K [.ref p] H Q :=
  ⟨p, d, rfl, h.d, s.sh, PyData.hasDict_of_canLay d s.lay, Nat.le_trans s.dp (by decide), Nat.le_trans s.ln (Nat.le_trans hn (by rw [sizeLine_eq]; decide)), k⟩
end FC

namespace FC
open PySem L2
theorem pe_good0 {X : Cx} {x : Str} {k : Nat} {sp : Sp} {p pos : Pos} (G : Good X.prog X.w X.K X.mg X.base x k [] sp) (hr : Room k X.A) (hg : Gl X x := by rfl) (hdb : (x == ("__debug__" : Str)) = false := by decide) : PE X (.Call (.Name x p) [] [] pos) (tCall sp [] E0 tNil) := by
  obtain ⟨fd, hb, F⟩ := G.fn
  exact pe_call0 F hr hg G.g G.kp hb .nil pass0 hdb
/-- no length, or the length 0 -/
def lnZ : Option (Option Rat) → Bool
  | none => true
  | some none => false
  | some (some l) => decide (l = 0)
theorem inZ_ {K : PySem.W.Frag} {H : Hp} {Q : VK} {v : V} {p : Addr} {u : V} (l : Option (Option Rat)) (h : It K H v (loD l)) (hp : SqT K H p [.non, u]) (hu : It K H u (duD (some 0))) (q : Q (.bl (lnZ l)) H) : rInDT K v (.ref p) H Q := by
  have hh : It K H (.ref p) (.tuple [.none, duD (some 0)]) := .tup hp (.cons .non (.cons hu .nil))
  have s2 : SeqAt.shaped (.tuple [.none, duD (some 0)]) = true := (OkD.tup (OkA.cons (n := 1) OkD.non (OkA.cons (OkD.du (some 0)) OkA.nil))).sh (by decide)
  refine ⟨loD l, [.none, duD (some 0)], h.d, hh.d, ?_, s2, ?_⟩
  · rcases l with _ | _ | l
    · exact (OkD.non (n := 1)).sh (by decide)
    · exact sh_du none
    · exact sh_du (some l)
  · rcases l with _ | _ | l
    · exact q
    · rw [show (([.none, duD (some 0)] : List PyData).any fun z => PyData.eqv z (loD (some none))) = false by decide +kernel]
      exact q
    · have e : (([.none, duD (some 0)] : List PyData).any fun z => PyData.eqv z (loD (some (some l)))) = decide (l = 0) := by
        simp only [List.any_cons, List.any_nil, Bool.or_false]
        rw [show PyData.eqv .none (loD (some (some l))) = false from rfl, Bool.false_or]
        show PyData.eqv (duD (some 0)) (duD (some l)) = _
        rw [eqv_du]
        exact decide_eq_decide.mpr ⟨fun z => (Option.some.inj z).symm, fun z => by rw [z]⟩
      rw [e]
      exact q
theorem lnZ_t {t : Tm} (h : lnZ t.length = true) : t.len = some 0 := by
  unfold Tm.len
  rcases e : t.length with _ | _ | l
  · rfl
  · rw [e] at h; cases h
  · rw [e] at h
    have : l = 0 := of_decide_eq_true h
    rw [this] <;> rfl
theorem lnZ_f {t : Tm} (h : lnZ t.length = false) : (t.length = some none ∧ t.len = none) ∨ ∃ l, t.length = some (some l) ∧ t.len = some l ∧ l ≠ 0 := by
  unfold Tm.len
  rcases e : t.length with _ | _ | l
  · rw [e] at h; cases h
  · exact .inl ⟨rfl, rfl⟩
  · rw [e] at h
    exact .inr ⟨l, rfl, rfl, of_decide_eq_false h⟩
theorem divInt_frac (q : Rat) : Rat.divInt (q.num % (q.den : Int)) (q.den : Int) = fracR q := Rat.num_divInt_den (fracR q)
theorem flo_frac (q : Rat) : q - fracR q = ((flo q : Int) : Rat) := by
  have h1 : q = (q.num : Rat) / ((q.den : Int) : Rat) := q_eq q
  have h2 : fracR q = ((q.num % (q.den : Int) : Int) : Rat) / ((q.den : Int) : Rat) := q_eq (fracR q)
  have h3 : q.num = (q.den : Int) * (q.num / (q.den : Int)) + q.num % (q.den : Int) := (Int.mul_ediv_add_emod q.num (q.den : Int)).symm
  have h4 : (q.num : Rat) = ((q.den : Int) : Rat) * ((flo q : Int) : Rat) + ((q.num % (q.den : Int) : Int) : Rat) := by
    unfold flo
    exact_mod_cast congrArg (fun z : Int => (z : Rat)) h3
  have hd : ((q.den : Int) : Rat) ≠ 0 := by
    have := den_pos q
    intro z
    have : (q.den : Int) = 0 := by exact_mod_cast z
    omega
  rw [h2]
  generalize ((q.num % (q.den : Int) : Int) : Rat) = r at *
  generalize ((q.den : Int) : Rat) = dd at *
  generalize ((flo q : Int) : Rat) = f at *
  generalize (q.num : Rat) = nn at *
  subst h4
  rw [h1]
  grind
theorem frac_ge (q : Rat) : ¬ fracR q < 0 := by
  have h0 : (0 : Int) < q.den := by have := den_pos q; omega
  have a := Int.emod_nonneg q.num (b := (q.den : Int)) (by omega)
  rw [Rat.not_lt]
  exact Rat.num_nonneg.mp a
theorem frac_lt (q : Rat) : fracR q < 1 := by
  have h0 : (0 : Int) < q.den := by have := den_pos q; omega
  have b := Int.emod_lt_of_pos q.num h0
  refine (Rat.lt_iff _ _).mpr ?_
  show (q.num % (q.den : Int)) * ((1 : Rat).den : Int) < (1 : Rat).num * (q.den : Int)
  simpa using b
/-- at an end -/
def AtEnd (t : Tm) (p : Ph) (e : Rat) : Prop := (p = .act ∨ p = .aft) ∧ some e = t.act ∧ ¬ t.times = some 0
theorem si_one {t : Tm} {p : Ph} {e : Rat} {o : Option Rat} (h : t.si p e o = 1) : AtEnd t p e := by
  unfold Tm.si at h
  dsimp only at h
  split at h
  · rename_i c
    exact ⟨c.1, c.2.1, c.2.2.1⟩
  · have := frac_lt (o.getD t.first)
    rw [h] at this
    exact absurd this Rat.lt_irrefl
theorem si_not {t : Tm} {p : Ph} {e : Rat} {o : Option Rat} (h : ¬ t.si p e o = 1) : t.si p e o = fracR (o.getD t.first) := by
  unfold Tm.si at h ⊢
  dsimp only at h ⊢
  split
  · rename_i c
    rw [if_pos c] at h
    exact absurd rfl h
  · rfl
theorem si_ge {t : Tm} {p : Ph} {e : Rat} {o : Option Rat} : ¬ t.si p e o < 0 ∧ ¬ 1 < t.si p e o := by
  by_cases c : t.si p e o = 1
  · rw [c]; exact ⟨by decide +kernel, by decide +kernel⟩
  · rw [si_not c]
    have := frac_lt (o.getD t.first)
    exact ⟨frac_ge _, by grind⟩
/-! ### promises of the law's own progress -/
def spOverallL (K : PySem.W.Frag) : Sp := fun vs H Q _ => ∃ (v : V) (pe : Addr) (t : Tm) (x : Rat) (p : Ph) (e : Rat) (d : TdOk t (some x)), vs = [v, .str p.s, .ref pe] ∧ It K H v (tmD t) ∧ SqT K H pe (fr e) ∧ t.el p x = some e ∧ ∀ z H', Same H H' → It K H' z (duD (t.ov p e)) → Q z H'
def spSimpleL (K : PySem.W.Frag) : Sp := fun vs H Q _ => ∃ (v : V) (pe : Addr) (zo : V) (t : Tm) (p : Ph) (e : Rat) (o : Option Rat) (n : Nat), vs = [v, .str p.s, .ref pe, zo] ∧ It K H v (tmD t) ∧ TmOk n 31 t ∧ n ≤ 1000 ∧ SqT K H pe (fr e) ∧ It K H zo (duD o) ∧ (∀ q, o = some q → Dn 1200 q) ∧ ∀ c H', Same H H' → SqT K H' c (fr (t.si p e o)) → Q (.ref c) H'
end FC

namespace FC
open PySem L2
/-- the start of a way's word -/
theorem wy_cut (w : Wy) : decide (cutS w.s none (some 9) = ("alternate" : Str)) = (decide (w = .alt) || decide (w = .altr)) := by cases w <;> decide +kernel
theorem slS_ {H : Hp} {Q : VK} {z : Str} {lo hi : Option Int} (hz : z.length ≤ 100) (q : Q (.str (cutS z lo hi)) H) : rSlS (.str z) lo hi H Q := ⟨z, rfl, Nat.le_trans hz (by decide), q⟩
theorem wy_len (w : Wy) : w.s.length ≤ 100 := by cases w <;> decide +kernel
end FC

namespace FC
open PySem L2
/-! ### sizes of all that is told -/
theorem stp_absW {n : Int} {w : Wh} {q : Rat} (e : Bool) (hn : NOk n w) (b : Bd 295 q) : (stp n w q e).natAbs < 2 ^ 400 := by
  have h1 := Int.natAbs_ediv_le_natAbs (q.num * n) (q.den : Int)
  have h2 : (q.num * n).natAbs < 2 ^ 335 := nmul (a := 295) (b := 40) b.1 (by have := hn.pos; omega)
  have hm := hn.most
  unfold stp
  generalize q.num * n / (q.den : Int) = f at *
  generalize q.num * n % (q.den : Int) = m at *
  generalize w.most n = k at *
  simp only
  generalize w.up = u
  cases u <;> cases e <;> simp <;> (repeat' split) <;> omega
theorem cval_bd {c : Cv} {x : Rat} {e : Bool} (h : CvOk 31 c) (b : Bd 295 x) : Bd 1900 (cval c x e) := by
  cases c with
  | lin P => exact (Bd.lin h (by decide) b).mono (by decide)
  | cub a d => exact (Bd.cubG h.1 h.2 b).mono (by decide)
  | stp n w => exact (Bd.div (n := 400) (by have := NOk.most h; omega) (stp_absW e h b) (by have := NOk.most h; omega)).mono (by decide)
theorem flo_abs {q : Rat} {n : Nat} (b : Bd n q) : (flo q).natAbs < 2 ^ n := Nat.lt_of_le_of_lt (Int.natAbs_ediv_le_natAbs _ _) b.1
theorem ShW.tellN (p : Ph) : ShW 30000 (tellN p) := by
  refine (ShW.tup (n := 3810) (ds := [.str p.s, .none, .none, .none, .none, .none, .none]) ?_).mono (by show 7 * (3810 + 2) + 3 ≤ 30000; decide)
  intro d hd
  simp only [List.mem_cons, List.not_mem_nil, or_false] at hd
  rcases hd with rfl | rfl | rfl | rfl | rfl | rfl | rfl
  · exact ⟨ShW.ph p, Nat.le_trans (OkD.ph p).2 (by decide)⟩
  all_goals exact ⟨ShW.non, by decide +kernel⟩
theorem ShW.tell {t : Tm} {x : Option Rat} {s : Int} (ok : TmOk 31 31 t) (hx : ∀ q, x = some q → Bd 562 q ∧ Dn 132 q) : ShW 30000 (t.tell x s) := by
  unfold Tm.tell
  cases ee : t.elx (t.ph x s) x with
  | none => exact ShW.tellN _
  | some e =>
    cases x with
    | none => cases ee
    | some q =>
      have hel : t.el (t.ph (some q) s) q = some e := ee
      have be := (el_bd (tdM ok hx) hel).1
      have bo := ov_bd (tdM ok hx) hel
      have bs := si_bd (tdM ok hx) hel
      dsimp only
      generalize t.ph (some q) s = p at *
      have be' : Bd 1900 e := be.mono (by show 562 + 31 + 64 ≤ 1900; decide)
      have bo' : Bo 800 (t.ov p e) := fun r hr => (bo r hr).1.mono (by show 562 + 31 + 130 ≤ 800; decide)
      have bs' : Bd 293 (t.si p e (t.ov p e)) := bs.mono (by show 132 + 31 + 130 ≤ 293; decide)
      unfold tellE
      dsimp only
      generalize t.si p e (t.ov p e) = si at *
      generalize t.ov p e = o at *
      have bi : ∀ k, t.itr p o si = some k → k.natAbs < 2 ^ 1900 := by
        intro k hk
        cases o with
        | none => cases hk
        | some r =>
          replace hk : (if p = .aft ∧ t.times = none then none else some (if si = 1 then flo r - 1 else flo r)) = some k := hk
          split at hk
          · cases hk
          · have hk' := Option.some.inj hk
            have hf := flo_abs (bo' r rfl)
            have h9 : (2 : Nat) ^ 800 + 1 < 2 ^ 1900 := by decide +kernel
            split at hk' <;> omega
      generalize t.itr p o si = it at *
      have bd := dir_bd (w := t.dr it) bs'
      refine (ShW.tup (n := 3810) (ds := [.str p.s, frD e, duD o, frD si, itD it, frD (dir si (t.dr it)), frD (cval t.curve (dir si (t.dr it)) (flg p (t.dr it)))]) ?_).mono (by show 7 * (3810 + 2) + 3 ≤ 30000; decide)
      intro d hd
      simp only [List.mem_cons, List.not_mem_nil, or_false] at hd
      rcases hd with rfl | rfl | rfl | rfl | rfl | rfl | rfl
      · exact ⟨ShW.ph p, Nat.le_trans (OkD.ph p).2 (by decide)⟩
      · exact ⟨ShW.fr be', Nat.le_trans (OkD.fr _).2 (by decide)⟩
      · exact ⟨ShW.du (bo'.mono (by decide)), Nat.le_trans (OkD.du _).2 (by decide)⟩
      · exact ⟨ShW.fr (bs'.mono (by decide)), Nat.le_trans (OkD.fr _).2 (by decide)⟩
      · exact ⟨ShW.it bi, Nat.le_trans (OkD.it _).2 (by decide)⟩
      · exact ⟨ShW.fr (bd.mono (by decide)), Nat.le_trans (OkD.fr _).2 (by decide)⟩
      · exact ⟨ShW.fr (cval_bd ok.curve bd), Nat.le_trans (OkD.fr _).2 (by decide)⟩
/-! ### the forms that the seven are told in -/
def PlainI (i : Nat) (d : PyData) : Prop := d = .none ∨ (∃ q, d = frD q) ∨ (i = 2 ∧ d = .str "endless")
theorem tell_plain (t : Tm) (x : Option Rat) (s : Int) : ∃ ds : List PyData, t.tell x s = .tuple ds ∧ ds.length = 7 ∧ ds[0]? = some (.str (t.ph x s).s) ∧ (∀ i, i = 1 ∨ i = 2 ∨ i = 3 ∨ i = 5 ∨ i = 6 → ∃ d, ds[i]? = some d ∧ PlainI i d) ∧ ∃ d, ds[4]? = some d ∧ (d = .none ∨ ∃ k, d = itD k) := by
  unfold Tm.tell
  cases t.elx (t.ph x s) x with
  | none =>
    refine ⟨_, rfl, rfl, rfl, ?_, .none, rfl, .inl rfl⟩
    rintro i (rfl | rfl | rfl | rfl | rfl) <;> exact ⟨.none, rfl, .inl rfl⟩
  | some e =>
    refine ⟨_, rfl, rfl, rfl, ?_, _, rfl, .inr ⟨_, rfl⟩⟩
    rintro i (rfl | rfl | rfl | rfl | rfl)
    · exact ⟨_, rfl, .inr (.inl ⟨_, rfl⟩)⟩
    · refine ⟨_, rfl, ?_⟩
      cases t.ov (t.ph x s) e with
      | none => exact .inr (.inr ⟨rfl, rfl⟩)
      | some q => exact .inr (.inl ⟨q, rfl⟩)
    · exact ⟨_, rfl, .inr (.inl ⟨_, rfl⟩)⟩
    · exact ⟨_, rfl, .inr (.inl ⟨_, rfl⟩)⟩
    · exact ⟨_, rfl, .inr (.inl ⟨_, rfl⟩)⟩
end FC

namespace FC
open PySem PySem.Spec PyProof.Rows L2
/-! ### zip of a tuple and a list -/
/-- what stands in the five cells of such a zip at turn i -/
def MzSt (a b z TI TO i1 i2 : Addr) (i : Nat) (h : Heap) : Prop :=
  IsZip h z TI TO .none ∧ IsTupOf2 h TI (.ref i1) (.ref i2) ∧ (∃ u v, IsTupOf2 h TO u v) ∧ h.IsTupleIter i1 a i ∧ h.IsListIter i2 b i
def ItzM (K : PySem.W.Frag) (a b : Addr) : L2.It where
  go := fun i H => ∃ (xs ys : List V) (x y : V), (SqT K H a xs ∧ xs[i]? = some x) ∧ SqL K H b ys ∧ ys[i]? = some y
  yld := fun i H v H' => ∃ (T : Addr) (x y : V), (v = .ref T ∧ H T = none ∧ H' = upd H T (.tup [x, y])) ∧ (∀ xs, SqT K H a xs → xs[i]? = some x) ∧ ∀ ys, SqL K H b ys → ys[i]? = some y
  stop := fun i H => ∃ xs ys : List V, (SqT K H a xs ∧ SqL K H b ys) ∧ i = min xs.length ys.length
theorem mem5 {c z TI TO i1 i2 : Addr} (h : c ∈ [z, TI, TO, i1, i2]) : c = z ∨ c = TI ∨ c = TO ∨ c = i1 ∨ c = i2 := by
  simpa only [List.mem_cons, List.not_mem_nil, or_false] using h
theorem sep_M {z TI TO i1 i2 a b : Addr} (D : ZipApart z TI TO i1 i2 a b) : ZipSep2 z TI TO i1 i2 [i1, a] [i2, b] := by
  obtain ⟨d1, d2, d3, d4, d5, d6, d7, d8, d9, d10, d11, d12, d13, d14, d15, d16, d17, d18⟩ := D
  refine ⟨d1, d2, d5, d6, by simp, ?_, ?_, d7, by simp, ?_, ?_, ?_, ?_⟩ <;> (simp only [List.mem_cons, List.not_mem_nil, or_false, not_or]; constructor <;> first | assumption | exact Ne.symm (by assumption))
theorem new4 {s : Shared} {c n : Addr} {o : Obj} (e : s.heap.get? c = some o) (h : s.heap.objs.size ≤ n) : n ≠ c := Nat.ne_of_gt (Nat.lt_of_lt_of_le (Heap.lt_size e) h)
theorem turnM {P : Program} {w : World} {K : PySem.W.Frag} {elts : List Expr} {kk : Nat} {tpos : Pos} {a b z TI TO i1 i2 : Addr} (D : ZipApart z TI TO i1 i2 a b) :
    Turn P w K (.Tuple elts kk tpos) (ItzM K a b) [z, TI, TO, i1, i2] z (MzSt a b z TI TO i1 i2) := by
  constructor
  · simp
  · rintro i h ⟨s1, s2, ⟨_, _, s3⟩, ⟨p, s4, _, q4⟩, ⟨q, s5, _, q5⟩⟩ c hc
    rcases mem5 hc with rfl | rfl | rfl | rfl | rfl
    · exact ⟨_, s1, fun v e => nomatch e⟩
    · exact ⟨_, s2, fun v e => nomatch e⟩
    · exact ⟨_, s3, fun v e => nomatch e⟩
    · refine ⟨p, s4, fun v e => ?_⟩
      rw [q4] at e
      cases e
    · refine ⟨q, s5, fun v e => ?_⟩
      rw [q5] at e
      cases e
  · rintro i h h' ⟨s1, s2, ⟨u, v, s3⟩, s4, s5⟩ kp
    exact ⟨kp z (by simp) _ s1, kp TI (by simp) _ s2, ⟨u, v, kp TO (by simp) _ s3⟩, s4.at fun o => kp i1 (by simp) o, s5.at fun o => kp i2 (by simp) o⟩
  · rintro X rfl rfl rfl calm i pins s σ H E I fr ⟨s1, s2, s3, s4, s5⟩ ⟨xs, ys, x, y, ⟨qx, ex⟩, qy, ey⟩
    obtain ⟨us, ru, tu, _⟩ := I.tuple qx
    obtain ⟨ws, rw', lw, _⟩ := I.list qy
    have hh := I.ok.hd calm
    have W := WalksT.zipD2 (prog := X.prog) (w := X.w) (A := X.A) (sep_M D) (Draws.tuple (A := X.A.in1) hh i1 a D.l1i1 us.toArray) (Draws.list (A := X.A.in1) hh i2 b D.l2i2 ws.toArray)
    obtain ⟨u, hu, mu⟩ := ru.get ex
    obtain ⟨v, hv, mv⟩ := rw'.get ey
    have l1 : i < us.toArray.size := by simpa using (List.getElem?_eq_some_iff.mp hu).1
    have l2 : i < ws.toArray.size := by simpa using (List.getElem?_eq_some_iff.mp hv).1
    obtain ⟨_, gz, _⟩ : ∃ o, s.heap.get? z = some o ∧ True := ⟨_, s1, trivial⟩
    refine W.item i s _ E (by omega) ⟨s1, s2, s3, ⟨s4, tu⟩, s5, lw.isList⟩ fun T vals h1 tk ⟨c1, c2, e1, e2, ev⟩ hT tT mid kp => ⟨.ref T, rfl, ?_⟩
    have f1 : c1 = u := by
      have z : us.toArray[i]? = some u := by simpa using hu
      rw [z] at e1
      exact (Option.some.inj e1).symm
    have f2 : c2 = v := by
      have z : ws.toArray[i]? = some v := by simpa using hv
      rw [z] at e2
      exact (Option.some.inj e2).symm
    subst ev f1 f2
    have aT := W.apart i T h1 mid
    refine W.go elts kk tpos i T { s with heap := h1, toks := tk } _ E mid fun h2 st kp2 => ?_
    obtain ⟨t1, t2, t3, ⟨t4, _⟩, t5, _⟩ := st
    have tT2 : h2.IsTuple T #[c1, c2] := tT.at fun o e => kp2 T o aT e
    have sub : ∀ c : Addr, c ∉ [z, TI, TO, i1, i2] → c ∉ [z, TO, i1, i2] := fun c hc q => hc (by
      simp only [List.mem_cons, List.not_mem_nil, or_false] at q ⊢
      rcases q with q | q | q | q <;> simp [q])
    have new : ObjOk X.prog X.w (upd H T (.tup [x, y])) h2 T (.tup [x, y]) := ⟨by show 2 ≤ sizeLine; rw [sizeLine_eq]; decide, [c1, c2], .cons mu (.cons mv .nil), tT2⟩
    refine ⟨.ref T, upd H T (.tup [x, y]), I.turnedNew (ch := [z, TI, TO, i1, i2]) (fun c o hc e => kp2 c o (sub c hc) (kp c o (sub c hc) e)) fr hT new, rfl, ⟨T, x, y, ⟨rfl, I.hok.fresh hT, rfl⟩, fun l hl => ?_, fun l hl => ?_⟩, ⟨t1, t2, t3, t4, t5⟩, fun c hc => ?_⟩
    · rw [I.tuple_inj hl qx]
      exact ex
    · rw [I.list_inj hl qy]
      exact ey
    · have hlt : ∃ o, s.heap.get? c = some o := by
        obtain ⟨u3, v3, s3⟩ := s3
        obtain ⟨o4, g4, _⟩ := s4
        obtain ⟨o5, g5, _⟩ := s5
        rcases mem5 hc with rfl | rfl | rfl | rfl | rfl
        · exact ⟨_, s1⟩
        · exact ⟨_, s2⟩
        · exact ⟨_, s3⟩
        · exact ⟨_, g4⟩
        · exact ⟨_, g5⟩
      obtain ⟨o, go⟩ := hlt
      rw [upd_ne (new4 go hT).symm]
      exact (fr c hc).1
  · rintro X rfl rfl rfl calm i pins s σ H E I fr ⟨s1, s2, s3, s4, s5⟩ ⟨xs, ys, ⟨qx, qy⟩, rfl⟩
    obtain ⟨us, ru, tu, _⟩ := I.tuple qx
    obtain ⟨ws, rw', lw, _⟩ := I.list qy
    have hh := I.ok.hd calm
    have W := WalksT.zipD2 (prog := X.prog) (w := X.w) (A := X.A) (sep_M D) (Draws.tuple (A := X.A.in1) hh i1 a D.l1i1 us.toArray) (Draws.list (A := X.A.in1) hh i2 b D.l2i2 ws.toArray)
    have e1 : us.toArray.size = xs.length := by rw [List.size_toArray]; exact ru.length.symm
    have e2 : ws.toArray.size = ys.length := by rw [List.size_toArray]; exact rw'.length.symm
    rw [← e1, ← e2] at s4 s5
    refine W.done s _ E ⟨s1, s2, s3, ⟨s4, tu⟩, s5, lw.isList⟩ fun h1 tk kp => ⟨rfl, ?_⟩
    exact I.turnedL (ch := [z, TI, TO, i1, i2]) (fun c o hc e => kp c o (fun q => hc (by
      simp only [List.mem_cons, List.not_mem_nil, or_false] at q ⊢
      rcases q with q | q | q | q <;> simp [q])) e) fr
  · intro A i s Q E st h
    exact wpAny_pyIter_zip st.1 h
def iZipM (K : PySem.W.Frag) (ta : TA) : L2.TI := fun σ H R => ta σ H fun vs H1 => ∃ a b xs ys, vs = [.ref a, .ref b] ∧ (SqT K H1 a xs ∧ SqL K H1 b ys) ∧ R (ItzM K a b) H1
theorem pi_zipM {X : Cx} {e e2 : Expr} {ta : TA} {p pos tpos : Pos} {elts : List Expr} {kk : Nat} (hg : Gl X "zip") (hm : X.mg "zip" = none) (ha : PA X [e, e2] ta)
    (hs : starEach [e, e2] X.env = (false, eval e X.env) :: starEach [e2] X.env := by rfl) (hpl : (backTo pos (starEach [e2] X.env)).any (·.1) = false := by rfl) :
    PI X (.Tuple elts kk tpos) (.Call (.Name "zip" p) [e, e2] [] pos) (iZipM X.K ta) := by
  constructor
  intro pins s σ H R I h
  refine Call_ (ld_blt I hg hm boot_zip (callWith_type1 (thn (ha.run pos pins s σ H _ I h) fun us s1 g => ?_) hs hpl))
  obtain ⟨vs, H1, I1, r1, a, b, xs, ys, rfl, ⟨qx, qy⟩, q⟩ := g
  obtain ⟨u1, u2, rfl, rfl, rfl⟩ : ∃ u1 u2, us = [u1, u2] ∧ u1 = .ref a ∧ u2 = .ref b := by
    cases r1 with
    | cons c1 r1 => cases r1 with
      | cons c2 r1 => cases r1; exact ⟨_, _, rfl, c1, c2⟩
  obtain ⟨ws, _, tu, _⟩ := I1.tuple qx
  obtain ⟨zs, _, lw, _⟩ := I1.list qy
  obtain ⟨o1, g1, _⟩ := id tu
  refine zip_begins2 (begins_tuple a ws.toArray) (begins_list b zs.toArray) tu lw.isList fun h' c1 c2 c3 c4 c5 _ kp => wpAny_pyIter_zip c1 ?_
  have fr : ∀ c ∈ [s1.heap.objs.size + 4, s1.heap.objs.size + 2, s1.heap.objs.size + 3, s1.heap.objs.size, s1.heap.objs.size + 1], FpOk X pins H1 c := fun c hc => by
    have le : s1.heap.objs.size ≤ c := by
      rcases mem5 hc with rfl | rfl | rfl | rfl | rfl <;> first | exact Nat.le_add_right _ _ | exact Nat.le_refl _
    exact I1.fpOk le (I1.hok.fresh le)
  exact ⟨_, _, _, _, H1, rfl, I1.kept kp, turnM (zipApart_new (Heap.lt_size g1) lw.lt), ⟨c1, c2, ⟨_, _, c3⟩, ⟨_, c4, rfl, rfl⟩, ⟨_, c5, rfl, rfl⟩⟩, fr, q⟩
/-- a walk over it: a new pair a turn -/
theorem walkM {K : PySem.W.Frag} {a b : Addr} {xs ys : List V} {n : Nat} (hn : n = min xs.length ys.length) : Walk (ItzM K a b) n (fun H => SqT K H a xs ∧ SqL K H b ys) (YPair (fun i => xs[i]?) (fun i => ys[i]?)) := by
  constructor
  · rintro i H hi q
    have h1 : i < xs.length := by omega
    have h2 : i < ys.length := by omega
    exact ⟨xs, ys, xs[i], ys[i], ⟨q.1, List.getElem?_eq_getElem h1⟩, q.2, List.getElem?_eq_getElem h2⟩
  · intro H q
    exact ⟨xs, ys, q, hn⟩
  · rintro i H v H' hi q ⟨T, x, y, ⟨rfl, n1, rfl⟩, e1, e2⟩
    exact ⟨T, x, y, rfl, n1, rfl, e1 xs q.1, e2 ys q.2⟩
end FC

namespace FC
open PySem PySem.Spec PyProof.Rows L2
/-! ### all arguments by their names, in their order -/
structure GoodC (P : Program) (w : World) (K : PySem.W.Frag) (mg : Str → Option Value) (base : Heap) (x : Str) (k : Nat) (ps : List Str) (sp : Sp) : Prop where
  good : Good P w K mg base x k ps sp
  named : ∃ fd, KBn K fd ps 0 ps (fun _ ws => ws) (fun _ zs => zs) ∧ FnOk P w K mg base CX0 k (He.ga K x) fd ps sp
theorem pe_goodC {X : Cx} {x : Str} {k : Nat} {ps : List Str} {sp : Sp} {kws : List Keyword} {tk : TA} {p pos : Pos} (G : GoodC X.prog X.w X.K X.mg X.base x k ps sp) (hr : Room k X.A) (hk : PK X kws tk) (hg : Gl X x := by rfl)
    (hall : (backToKw pos (keywordEach kws X.env)).all (·.1.isSome) = true := by rfl) (hks : (backToKw pos (keywordEach kws X.env)).filterMap (·.1) = ps := by rfl) (hdb : (x == ("__debug__" : Str)) = false := by decide)
    (hpl : ((backTo pos (starEach [] X.env)).any (·.1) || (backToKw pos (keywordEach kws X.env)).any (·.1.isNone)) = false := by rfl) :
    PE X (.Call (.Name x p) [] kws pos) (tKw0 ps.length sp (fun _ zs => zs) E0 tk) := by
  obtain ⟨fd, hb, F⟩ := G.named
  exact pe_kw0 F hr hg G.good.g G.good.kp hb pass0 hk hall hks hdb hpl
theorem kbindsP {K : PySem.W.Frag} {x qual : Str} {params : Arguments} {body : List Stmt} {scope : Scope} {kws : List (Str × V)} {f : Addr} {fd : FuncData} {ps : List Str} (F : FunD K x qual params body scope [] kws f fd)
    (h : ∀ (kV doc pm : Value) (an : Option Addr) (cdv ct : Value) (ws : List Value), ws.length = ps.length → bindArgs (PySem.W.fnOf x qual params body scope .none kV doc pm an cdv ct) ⟨[], ps.zip ws⟩ = pure (ps.zip ws)) :
    KBn K fd ps 0 ps (fun _ ws => ws) (fun _ zs => zs) := by
  obtain ⟨_, _, _, kV, doc, pm, an, cdv, ct, _, rfl, _, _, hD, _⟩ := F.ex
  rcases hD with ⟨_, rfl⟩ | ⟨e, _⟩
  · refine ⟨fun s us ws _ l1 l2 => ?_, fun _ r => r⟩
    obtain rfl := List.length_eq_zero_iff.mp l1
    exact BindsTo.of_eq (h kV doc pm an cdv ct ws l2)
  · exact absurd rfl e
def KwCP (n : Nat) (sp : Sp) (Q : VK) (E : XK) : List V → Hp → Prop := fun zs H2 => zs.length = n ∧ sp zs H2 Q E
theorem xkwC {n : Nat} {sp : Sp} {E : XK} {tk : TA} {σ : L2.St} {H : Hp} {Q : VK} (q : tk σ H (KwCP n sp Q E)) : tKw0 n sp (fun _ zs => zs) E tk σ H Q := q
theorem kwC1_ {sp : Sp} {Q : VK} {E : XK} {H : Hp} {a : V} (q : sp [a] H Q E) : KwCP 1 sp Q E [a] H := ⟨rfl, q⟩
end FC

namespace FC
open PySem L2
/-! ### whole curves: settled twice, compared, shown -/
theorem settledP_twice {P : List (Rat × Option Rat)} (h : 0 < P.length) : settledP (settledP P) = settledP P := by
  refine List.ext_getElem? fun i => ?_
  by_cases hi : i < P.length
  · obtain ⟨v, s, e1, e2, e3⟩ := settledP_some hi
    rw [e1]
    have z := settledP_at (P := settledP P) e1 (s := s) (by rw [settle_settledP h, e3])
    exact z
  · rw [List.getElem?_eq_none (by rw [settledP_len, settledP_len]; omega), List.getElem?_eq_none (by rw [settledP_len]; omega)]
theorem OkD.lst {n : Nat} {ds : List PyData} (h : OkA n ds) : OkD (n + 1) (.list ds) := ⟨h.1, by
  have := h.2
  simp only [PyData.depth]
  omega⟩
theorem eqLL_ {K : PySem.W.Frag} {H : Hp} {Q : VK} {u v : V} {d : PyData} {n : Nat} (h1 : Dp K H u d) (h2 : Dp K H v d) (o : OkD n d) (hn : n ≤ 64) (q : Q (.bl true) H) : rEqD K u v H Q := ⟨d, d, h1, h2, o.sh hn, o.sh hn, by rw [SeqAt.eqv_refl d o.1]; exact q⟩
theorem neLL_ {K : PySem.W.Frag} {H : Hp} {Q : VK} {u v : V} {d : PyData} {n : Nat} (h1 : Dp K H u d) (h2 : Dp K H v d) (o : OkD n d) (hn : n ≤ 64) (q : Q (.bl false) H) : rNeD K u v H Q := ⟨d, d, h1, h2, o.sh hn, o.sh hn, by rw [SeqAt.eqv_refl d o.1]; exact q⟩
theorem OkD.o (x : Option Rat) : OkD 1 (oD x) := by
  cases x with
  | none => exact OkD.non
  | some q => exact OkD.fr q
theorem OkD.pt (p : Rat × Option Rat) : OkD 2 (ptD p) := OkD.tup (OkA.cons ((OkD.fr _).mono (by decide)) (OkA.cons ((OkD.o _).mono (by decide)) OkA.nil))
theorem OkD.pts (P : List (Rat × Option Rat)) : OkD 3 (.tuple (P.map ptD)) := OkD.tup (OkA.of fun d hd => by
  obtain ⟨p, _, rfl⟩ := List.mem_map.mp hd
  exact OkD.pt p)
theorem OkD.wh (w : Wh) : OkD 1 (.str w.s) := by
  cases w <;> exact OkD.str (by decide +kernel)
theorem OkD.cv : ∀ c : Cv, OkD 4 (cvD c)
  | .lin P => OkD.tup (OkA.cons (OkD.str (by decide +kernel)) (OkA.cons (OkD.pts P) OkA.nil))
  | .cub a b => OkD.tup (OkA.cons (OkD.str (by decide +kernel)) (OkA.cons ((OkD.fr _).mono (by decide)) (OkA.cons ((OkD.fr _).mono (by decide)) OkA.nil)))
  | .stp n w => OkD.tup (OkA.cons (OkD.str (by decide +kernel)) (OkA.cons (OkD.int _) (OkA.cons ((OkD.wh _).mono (by decide)) OkA.nil)))
theorem ShW.frN {q : Rat} {k : Nat} (hk : 0 < k) (h9 : k ≤ 1900) (b : Bd k q) : ShW (2 * k + 10) (frD q) := by
  have z := ShW.fr (b.mono h9)
  refine ⟨z.sh, z.lay, z.dp, ?_⟩
  have h2 : ((q.den : Int)).natAbs < 2 ^ k := by rw [Int.natAbs_natCast]; exact b.2
  have e : (frD q).shown = tupleText [Str.ofString (toString q.num), Str.ofString (toString (q.den : Int))] := by
    unfold frD
    simp only [PyData.shown, PyData.shownAll]
  rw [e]
  have t := tupleText_len_le [Str.ofString (toString q.num), Str.ofString (toString (q.den : Int))]
  have t1 := text_lenN hk b.1
  have t2 := text_lenN hk h2
  simp only [List.map_cons, List.map_nil, List.sum_cons, List.sum_nil, List.length_cons, List.length_nil] at t
  omega
theorem ShW.ptN {p : Rat × Option Rat} (h1 : Bd 120 p.1) (h2 : ∀ q, p.2 = some q → Bd 120 q) : ShW 520 (ptD p) := by
  have z : ShW ([frD p.1, oD p.2].length * (250 + 2) + 3) (.tuple [frD p.1, oD p.2]) := ShW.tup fun d hd => by
    have hd' : d = frD p.1 ∨ d = oD p.2 := by simpa using hd
    rcases hd' with rfl | rfl
    · exact ⟨ShW.frN (by decide) (by decide) h1, Nat.le_trans (OkD.fr _).2 (by decide)⟩
    · refine ⟨?_, Nat.le_trans (OkD.o _).2 (by decide)⟩
      cases e : p.2 with
      | none => exact ⟨rfl, rfl, by decide +kernel, by decide +kernel⟩
      | some q => exact ShW.frN (by decide) (by decide) (h2 q e)
  exact z.mono (by simp only [List.length_cons, List.length_nil]; omega)
theorem ShW.ptsN {n : Nat} {P : List (Rat × Option Rat)} (h : ∀ p ∈ P, Bd 120 p.1 ∧ ∀ q, p.2 = some q → Bd 120 q) (hn : P.length ≤ n) : ShW (n * 522 + 3) (.tuple (P.map ptD)) := by
  have z : ShW ((P.map ptD).length * (520 + 2) + 3) (.tuple (P.map ptD)) := ShW.tup fun d hd => by
    obtain ⟨p, hp, rfl⟩ := List.mem_map.mp hd
    exact ⟨ShW.ptN (h p hp).1 (h p hp).2, Nat.le_trans (OkD.pt p).2 (by decide)⟩
  refine z.mono ?_
  rw [List.length_map]
  omega
theorem ShW.linN {n : Nat} {P : List (Rat × Option Rat)} (h : ∀ p ∈ P, Bd 120 p.1 ∧ ∀ q, p.2 = some q → Bd 120 q) (hn : P.length ≤ n) : ShW (n * 1044 + 100) (cvD (.lin P)) := by
  have z : ShW ([PyData.str "linear", .tuple (P.map ptD)].length * ((n * 522 + 20) + 2) + 3) (.tuple [.str "linear", .tuple (P.map ptD)]) := ShW.tup fun d hd => by
    have hd' : d = .str "linear" ∨ d = .tuple (P.map ptD) := by simpa using hd
    rcases hd' with rfl | rfl
    · have y : ShW 20 (.str "linear") := ⟨rfl, by decide +kernel, by decide +kernel, by decide +kernel⟩
      exact ⟨y.mono (by omega), by decide +kernel⟩
    · exact ⟨(ShW.ptsN h hn).mono (by omega), (OkD.pts P).2⟩
  exact z.mono (by simp only [List.length_cons, List.length_nil]; omega)
theorem settled_small {P : List (Rat × Option Rat)} (ok : PtsOk 31 P) : ∀ p ∈ settledP P, Bd 120 p.1 ∧ ∀ q, p.2 = some q → Bd 120 q := by
  have o := (settledP_ok ok (by decide)).mono (show 3 * 31 + 18 ≤ 120 by decide)
  intro p hp
  refine ⟨o.val p hp, fun q e => o.inp q ?_⟩
  rw [← e]
  exact List.mem_map.mpr ⟨p, hp, rfl⟩
/-! ### comprehensions over zip -/
section
variable {K : PySem.W.Frag} {σ : L2.St} {H : Hp} {Q : VK} {te : TE} {tt : TT} {g : TG} {ta : TA} {vs : List Nat}
def LcZP (K : PySem.W.Frag) (g : TG) (tt : TT) (te : TE) (own : List Nat) (σ : L2.St) (Q : VK) : List V → Hp → Prop := fun us H1 => ∃ a b xs ys, us = [.ref a, .ref b] ∧ SqL K H1 a xs ∧ SqL K H1 b ys ∧ LcJ (Itz K a b) g tt te own σ Q H1
theorem xlcZ (q : ta σ H (LcZP K g tt te vs σ Q)) : tLc (iZip K ta) g tt te vs σ H Q := q
theorem lcz_ {a b : Addr} {xs ys : List V} (h1 : SqL K H a xs) (h2 : SqL K H b ys) (q : LcJ (Itz K a b) g tt te vs σ Q H) : LcZP K g tt te vs σ Q [.ref a, .ref b] H := ⟨a, b, xs, ys, rfl, h1, h2, q⟩
def LcMP (K : PySem.W.Frag) (g : TG) (tt : TT) (te : TE) (own : List Nat) (σ : L2.St) (Q : VK) : List V → Hp → Prop := fun us H1 => ∃ a b xs ys, us = [.ref a, .ref b] ∧ (SqT K H1 a xs ∧ SqL K H1 b ys) ∧ LcJ (ItzM K a b) g tt te own σ Q H1
theorem xlcM (q : ta σ H (LcMP K g tt te vs σ Q)) : tLc (iZipM K ta) g tt te vs σ H Q := q
theorem lcm_ {a b : Addr} {xs ys : List V} (h1 : SqT K H a xs) (h2 : SqL K H b ys) (q : LcJ (ItzM K a b) g tt te vs σ Q H) : LcMP K g tt te vs σ Q [.ref a, .ref b] H := ⟨a, b, xs, ys, rfl, ⟨h1, h2⟩, q⟩
/-- none of the items passes -/
theorem lcNone {J : L2.It} {n : Nat} {G : Hp → Prop} {Y : Nat → Hp → V → Hp → Prop} (w : Walk J n G Y) (hG : ∀ H', Same H H' → G H')
    (body : ∀ i x H1 H' (R : L2.St → Hp → Prop) (N : Hp → Prop), i < n → Same H H1 → Y i H1 x H' → (∀ H'', Same H1 H'' → N H'') → g x (wipe σ vs) H' fun σ2 H2 => wipe σ2 vs = wipe σ vs ∧ tt σ2 H2 fun b H3 => if b = true then R σ2 H3 else N H3)
    (k : ∀ D H', H D = none → Same H H' → H' D = some (.lst []) → Q (.ref D) H') : LcJ J g tt te vs σ Q H := by
  intro D hD
  refine lc_it w (fun i H' => Same H H' ∧ H' D = some (.lst [])) ⟨same_upd hD, upd_same⟩ (fun i H' _ v => hG H' v.1) ?_ ?_
  · intro i x H1 H' hi v y
    exact body i x H1 H' _ _ hi v.1 y fun H3 s => ⟨v.1.trans s, s _ _ v.2⟩
  · rintro H' ⟨s, t⟩
    exact k D H' hD s t
end
end FC

namespace FC
open PySem L2
/-! ### a tuple or a list -/
def SqS (K : PySem.W.Frag) (H : Hp) (p : Addr) (xs : List V) : Prop := SqT K H p xs ∨ SqL K H p xs
section
variable {K : PySem.W.Frag} {H H' : Hp} {p : Addr} {xs : List V} {Q : VK}
theorem SqS.same (e : Same H H') (h : SqS K H p xs) : SqS K H' p xs := h.elim (fun h => .inl (Same.sqT e h)) (fun h => .inr (Same.seq e h))
def iOr (A B : L2.TI) : L2.TI := fun σ H R => A σ H R ∨ B σ H R
theorem pi_or {X : Cx} {tg l : Expr} {A B : L2.TI} (h1 : PI X tg l A) (h2 : PI X tg l B) : PI X tg l (iOr A B) := ⟨fun pins s σ H R I h => h.elim (h1.run pins s σ H R I) (h2.run pins s σ H R I)⟩
def rIxU (K : PySem.W.Frag) : R2 := fun x y H Q => rIxT K x y H Q ∨ rIxL K x y H Q
theorem ix_u {X : Cx} : IxR X (rIxU X.K) := ix_tup.or ix_list
theorem ixU_ {i : Int} {v : V} (h : SqS K H p xs) (ha : atI xs i = some v) (q : Q v H) : rIxU K (.ref p) (.int i) H Q :=
  h.elim (fun h => .inl ⟨p, xs, i, v, rfl, rfl, h, ha, q⟩) (fun h => .inr ⟨p, xs, i, v, rfl, rfl, h, ha, q⟩)
theorem lenU_ (h : SqS K H p xs) (q : Q (.int xs.length) H) : rLenX K [.ref p] H Q := h.elim (fun h => lenT_ h q) (fun h => lenL_ h q)
/-- one item a turn over it, told by its slot -/
theorem lcU {σ : L2.St} {te : TE} {g : TG} {vs : List Nat} {j : Nat} (Item : Nat → V → Hp → Prop) (st : ∀ i y H H', Item i y H → Tp K H H' → Item i y H') (hj : σ[j]? = some (some (.ref p))) (h : SqS K H p xs) (hn : xs.length ≤ 100000)
    (body : ∀ i x H1 (Q' : VK), xs[i]? = some x → Same H H1 → (∀ y H'', Same H1 H'' → Item i y H'' → Q' y H'') → g x (wipe σ vs) H1 fun σ2 H2 => wipe σ2 vs = wipe σ vs ∧ te σ2 H2 Q')
    (k : ∀ D ys H', H D = none → Same H H' → H' D = some (.lst ys) → ys.length = xs.length → AllAt Item ys H' → Q (.ref D) H') : tLc (iOr (iTup K (tVar j)) (iList K (tVar j))) g tYes te vs σ H Q := by
  rcases h with h | h
  · refine .inl ⟨.ref p, hj, ?_⟩
    refine LcT.of h (lcJS (K := K) walk_tup Item st (fun H' e => Same.sqT e h) hn ?_ k)
    rintro i x H1 H' Q' hi e ⟨rfl, hx⟩ hq
    exact body i x _ Q' hx e hq
  · refine .inr ⟨.ref p, hj, ?_⟩
    refine LcL.of h (lcJS (K := K) walk_list Item st (fun H' e => Same.seq e h) hn ?_ k)
    rintro i x H1 H' Q' hi e ⟨rfl, hx⟩ hq
    exact body i x _ Q' hx e hq
end
end FC

namespace FC
/-! ### lines that never fall -/
def plc (P : List (Rat × Option Rat)) (k : Nat) : Rat := (settle (P.map (·.2)))[k]?.getD 0
theorem plc_mono {P : List (Rat × Option Rat)} {i j : Nat} (l : i ≤ j) (hj : j < P.length) : plc P i ≤ plc P j := by
  have e1 := List.getElem?_eq_getElem (l := settle (P.map (·.2))) (i := i) (by rw [settle_len]; omega)
  have e2 := List.getElem?_eq_getElem (l := settle (P.map (·.2))) (i := j) (by rw [settle_len]; omega)
  unfold plc
  rw [e1, e2]
  exact up_mono (settle_up (by omega)) l e1 e2
def stx (P : List (Rat × Option Rat)) (x : Rat) : Nat := lastLe (settle (P.map (·.2))) x (P.length - 1)
theorem lin_st {P : List (Rat × Option Rat)} {x : Rat} (h : ¬ P.length = 1) : lin P x = linAt P (settle (P.map (·.2))) x (stx P x) := if_neg h
def slo (P : List (Rat × Option Rat)) (k : Nat) : Rat := if plc P k = plc P (k + 1) then 0 else (vAt P (k + 1) - vAt P k) / (plc P (k + 1) - plc P k)
def sl (P : List (Rat × Option Rat)) (q : Rat) : Rat := if P.length = 1 then 0 else slo P (stx P q)
theorem linAt_sub {P : List (Rat × Option Rat)} {x y : Rat} {k : Nat} : linAt P (settle (P.map (·.2))) y k = linAt P (settle (P.map (·.2))) x k + slo P k * (y - x) := by
  unfold linAt slo
  show (if plc P k = plc P (k + 1) then _ else _ + _ * ((y - plc P k) / (plc P (k + 1) - plc P k))) = (if plc P k = plc P (k + 1) then _ else _ + _ * ((x - plc P k) / (plc P (k + 1) - plc P k))) + _
  split
  · rename_i h
    grind
  · rename_i h
    have z : plc P (k + 1) - plc P k ≠ 0 := by grind
    generalize plc P (k + 1) - plc P k = d at *
    grind
theorem lastLe_congr {S : List Rat} {x q : Rat} : ∀ {m : Nat}, (∀ j, j < m → (x < S[j]?.getD 0 ↔ q < S[j]?.getD 0)) → lastLe S x m = lastLe S q m
  | 0, _ => rfl
  | m + 1, h => by
    unfold lastLe
    have e := h m (by omega)
    have ih := lastLe_congr (m := m) fun j hj => h j (by omega)
    by_cases c : q < S[m]?.getD 0
    · rw [if_pos c, if_pos (e.mpr c), ih]
    · rw [if_neg c, if_neg fun z => c (e.mp z)]
/-- no place behind q up to x -/
def Free (P : List (Rat × Option Rat)) (q x : Rat) : Prop := ∀ k, k < P.length → plc P k ≤ q ∨ x < plc P k
def NoBr (P : List (Rat × Option Rat)) (q p : Rat) : Prop := ∀ k, k < P.length → plc P k ≤ q ∨ p ≤ plc P k
theorem NoBr.free {P : List (Rat × Option Rat)} {q p x : Rat} (h : NoBr P q p) (l : x < p) : Free P q x := fun k hk => (h k hk).imp id fun z => by grind
theorem affE {P : List (Rat × Option Rat)} {q x : Rat} (h : Free P q x) (l : q ≤ x) : lin P x = lin P q + sl P q * (x - q) := by
  unfold sl
  by_cases c : P.length = 1
  · rw [if_pos c]
    unfold lin
    rw [if_pos c, if_pos c]
    grind
  · rw [if_neg c, lin_st c, lin_st c]
    have e : stx P x = stx P q := by
      refine lastLe_congr fun j hj => ?_
      have z := h j (by omega)
      show x < plc P j ↔ q < plc P j
      rcases z with z | z
      · exact ⟨fun y => by grind, fun y => by grind⟩
      · exact ⟨fun y => by grind, fun _ => z⟩
    rw [e]
    exact linAt_sub
def llim (P : List (Rat × Option Rat)) (q p : Rat) : Rat := lin P q + sl P q * (p - q)
def MonTo (P : List (Rat × Option Rat)) (q : Rat) : Prop := ∀ x y, 0 ≤ x → x ≤ y → y ≤ q → lin P x ≤ lin P y
theorem MonTo.zero (P : List (Rat × Option Rat)) : MonTo P 0 := fun x y h1 h2 h3 => by
  have : x = y := by grind
  rw [this]
  exact Rat.le_refl
theorem MonTo.mono {P : List (Rat × Option Rat)} {q p : Rat} (h : MonTo P p) (l : q ≤ p) : MonTo P q := fun x y h1 h2 h3 => h x y h1 h2 (by grind)
theorem mul_mono {m a b : Rat} (hm : 0 ≤ m) (h : a ≤ b) : m * a ≤ m * b := Rat.mul_le_mul_of_nonneg_left h hm
theorem glueEnd {P : List (Rat × Option Rat)} {q r : Rat} (h : Free P q r) (l : q ≤ r) (q0 : 0 ≤ q) : MonTo P r ↔ MonTo P q ∧ lin P q ≤ lin P r := by
  constructor
  · intro m
    exact ⟨m.mono l, m q r q0 l Rat.le_refl⟩
  · rintro ⟨m, e⟩ x y x0 xy yr
    by_cases c : y ≤ q
    · exact m x y x0 xy c
    have fy : Free P q y := fun k hk => (h k hk).imp id fun z => by grind
    have ay := affE fy (by grind)
    have ar := affE h l
    have hs : 0 ≤ sl P q := by
      rw [ar] at e
      refine Rat.not_lt.mp fun z => ?_
      have : sl P q * (r - q) < 0 := by
        have z1 : 0 < r - q := by grind
        have := Rat.mul_pos (show 0 < - sl P q by grind) z1
        grind
      grind
    by_cases d : x ≤ q
    · have e1 := m x q x0 d Rat.le_refl
      have e2 := mul_mono hs (show 0 ≤ y - q by grind)
      grind
    · have fx : Free P q x := fun k hk => (h k hk).imp id fun z => by grind
      have ax := affE fx (by grind)
      have e2 := mul_mono hs (show x - q ≤ y - q by grind)
      grind
theorem glue {P : List (Rat × Option Rat)} {q p : Rat} (h : NoBr P q p) (l : q < p) (q0 : 0 ≤ q) : MonTo P p ↔ MonTo P q ∧ lin P q ≤ llim P q p ∧ llim P q p ≤ lin P p := by
  have lm : llim P q p = lin P q + sl P q * (p - q) := rfl
  constructor
  · intro m
    have mid := affE (h.free (x := (q + p) / 2) (by grind)) (by grind)
    have g1 := m q ((q + p) / 2) q0 (by grind) (by grind)
    have hs : 0 ≤ sl P q := by
      refine Rat.not_lt.mp fun z => ?_
      have := Rat.mul_pos (show 0 < - sl P q by grind) (show 0 < (q + p) / 2 - q by grind)
      grind
    have w0 : 0 ≤ sl P q * (p - q) := Rat.mul_nonneg hs (by grind)
    refine ⟨m.mono (by grind), by grind, ?_⟩
    refine Rat.not_lt.mp fun z => ?_
    generalize hd : llim P q p - lin P p = d at *
    have d0 : 0 < d := by grind
    generalize hw : sl P q * (p - q) = w at *
    have wd : 0 < w + d := by grind
    have wd' : w + d ≠ 0 := by grind
    generalize ht : d / (w + d) = t at *
    have t1 : t * (w + d) = d := by
      rw [← ht]
      exact Rat.div_mul_cancel wd'
    have t0 : 0 < t := by
      refine Rat.not_le.mp fun z => ?_
      have := Rat.mul_nonneg (show 0 ≤ -t by grind) (Rat.le_of_lt wd)
      grind
    have tl : t ≤ 1 := by
      refine Rat.not_lt.mp fun y => ?_
      have := Rat.mul_pos (show 0 < t - 1 by grind) wd
      grind
    have pq : 0 < t * (p - q) := Rat.mul_pos t0 (by grind)
    have pq2 : t * (p - q) ≤ p - q := by
      have := Rat.mul_nonneg (show 0 ≤ 1 - t by grind) (show 0 ≤ p - q by grind)
      grind
    have ax := affE (h.free (x := p - t * (p - q)) (by grind)) (by grind)
    have g2 := m (p - t * (p - q)) p (by grind) (by grind) Rat.le_refl
    have e3 : sl P q * (p - t * (p - q) - q) = w - t * w := by
      rw [← hw]
      grind
    have td : 0 < t * d := Rat.mul_pos t0 d0
    grind
  · rintro ⟨m, e1, e2⟩ x y x0 xy yp
    have hs : 0 ≤ sl P q := by
      refine Rat.not_lt.mp fun z => ?_
      have := Rat.mul_pos (show 0 < - sl P q by grind) (show 0 < p - q by grind)
      grind
    by_cases c : y ≤ q
    · exact m x y x0 xy c
    by_cases cp : y < p
    · have ay := affE (h.free cp) (by grind)
      by_cases d : x ≤ q
      · have e3 := m x q x0 d Rat.le_refl
        have e4 := mul_mono hs (show 0 ≤ y - q by grind)
        grind
      · have ax := affE (h.free (x := x) (by grind)) (by grind)
        have e4 := mul_mono hs (show x - q ≤ y - q by grind)
        grind
    · have yp' : y = p := by grind
      subst yp'
      by_cases d : x ≤ q
      · have e3 := m x q x0 d Rat.le_refl
        grind
      · by_cases xp : x < y
        · have ax := affE (h.free xp) (by grind)
          have e4 := mul_mono hs (show x - q ≤ y - q by grind)
          grind
        · have : x = y := by grind
          rw [this]
          exact Rat.le_refl
/-! ### values beside a place -/
section
variable {P : List (Rat × Option Rat)}
theorem stx_eq {q : Rat} {k : Nat} (hk : k < P.length - 1) (h0 : k = 0 ∨ plc P k ≤ q) (h1 : ∀ j, k < j → j < P.length - 1 → q < plc P j) : stx P q = k :=
  lastLe_eq hk (h0.imp id fun z => by show ¬ q < plc P k; grind) h1
theorem lin_eqP {x : Rat} {k : Nat} (h2 : 2 ≤ P.length) (e : stx P x = k) (c : plc P k = plc P (k + 1)) : lin P x = vAt P (k + 1) := by
  rw [lin_st (by omega), e]
  exact if_pos c
theorem lin_neP {x : Rat} {k : Nat} (h2 : 2 ≤ P.length) (e : stx P x = k) (c : ¬ plc P k = plc P (k + 1)) : lin P x = vAt P k + (vAt P (k + 1) - vAt P k) * ((x - plc P k) / (plc P (k + 1) - plc P k)) := by
  rw [lin_st (by omega), e]
  exact if_neg c
theorem sl_eqP {q : Rat} {k : Nat} (h2 : 2 ≤ P.length) (e : stx P q = k) (c : plc P k = plc P (k + 1)) : sl P q = 0 := by
  unfold sl
  rw [if_neg (by omega), e]
  exact if_pos c
theorem sl_neP {q : Rat} {k : Nat} (h2 : 2 ≤ P.length) (e : stx P q = k) (c : ¬ plc P k = plc P (k + 1)) : sl P q = (vAt P (k + 1) - vAt P k) / (plc P (k + 1) - plc P k) := by
  unfold sl
  rw [if_neg (by omega), e]
  exact if_neg c
theorem llim_pos {q : Rat} {i : Nat} (h2 : 2 ≤ P.length) (h0 : 0 < i) (hi : i < P.length) (l : plc P (i - 1) ≤ q) (lt : q < plc P i) : llim P q (plc P i) = vAt P i := by
  have e : stx P q = i - 1 := stx_eq (by omega) (.inr l) fun j a b => by
    have := plc_mono (P := P) (i := i) (j := j) (by omega) (by omega)
    grind
  have ei : i - 1 + 1 = i := by omega
  have c : ¬ plc P (i - 1) = plc P (i - 1 + 1) := by
    rw [ei]
    grind
  unfold llim
  rw [lin_neP h2 e c, sl_neP h2 e c, ei]
  have z : plc P i - plc P (i - 1) ≠ 0 := by grind
  generalize hd : plc P i - plc P (i - 1) = d at *
  have hp : plc P i = d + plc P (i - 1) := by grind
  rw [hp]
  grind
theorem llim_zero {q : Rat} (h2 : 2 ≤ P.length) (lt : q < plc P 0) : llim P q (plc P 0) = if plc P 1 = plc P 0 then vAt P 1 else vAt P 0 := by
  have e : stx P q = 0 := stx_eq (by omega) (.inl rfl) fun j a b => by
    have := plc_mono (P := P) (i := 0) (j := j) (by omega) (by omega)
    grind
  unfold llim
  by_cases c : plc P 1 = plc P 0
  · rw [if_pos c, lin_eqP h2 e c.symm, sl_eqP h2 e c.symm]
    grind
  · have c' : ¬ plc P 0 = plc P (0 + 1) := fun z => c z.symm
    rw [if_neg c, lin_neP h2 e c', sl_neP h2 e c']
    have z : plc P (0 + 1) - plc P 0 ≠ 0 := by grind
    generalize plc P (0 + 1) - plc P 0 = d at *
    grind
theorem lin_last {i : Nat} (h2 : 2 ≤ P.length) (hi : i < P.length) (h : i = P.length - 1 ∨ ¬ plc P (i + 1) = plc P i) : lin P (plc P i) = vAt P i := by
  by_cases c : i = P.length - 1
  · subst c
    have l := plc_mono (P := P) (i := P.length - 2) (j := P.length - 1) (by omega) (by omega)
    have e : stx P (plc P (P.length - 1)) = P.length - 2 := stx_eq (by omega) (.inr l) fun j a b => by omega
    have e1 : P.length - 2 + 1 = P.length - 1 := by omega
    by_cases d : plc P (P.length - 2) = plc P (P.length - 1)
    · rw [lin_eqP h2 e (by rw [e1]; exact d), e1]
    · rw [lin_neP h2 e (by rw [e1]; exact d), e1]
      have z : plc P (P.length - 1) - plc P (P.length - 2) ≠ 0 := by grind
      generalize plc P (P.length - 1) - plc P (P.length - 2) = d at *
      grind
  · have d : ¬ plc P (i + 1) = plc P i := h.resolve_left c
    have l := plc_mono (P := P) (i := i) (j := i + 1) (by omega) (by omega)
    have e : stx P (plc P i) = i := stx_eq (by omega) (.inr Rat.le_refl) fun j a b => by
      have := plc_mono (P := P) (i := i + 1) (j := j) (by omega) (by omega)
      grind
    rw [lin_neP h2 e fun z => d z.symm]
    grind
/-! ### corners -/
def AscL (C : List Rat) : Prop := ∀ (i : Nat) (a b : Rat), C[i]? = some a → C[i + 1]? = some b → a ≤ b
theorem AscL.one (x : Rat) : AscL [x] := fun i a b h1 h2 => by
  have := (List.getElem?_eq_some_iff.mp h2).1
  simp at this
theorem AscL.snoc {C : List Rat} {l x : Rat} (h : C.getLast? = some l) : AscL (C ++ [x]) ↔ AscL C ∧ l ≤ x := by
  have hl : 0 < C.length := by
    cases C with
    | nil => simp at h
    | cons a r => simp
  rw [List.getLast?_eq_getElem?] at h
  constructor
  · intro a
    refine ⟨fun i y z e1 e2 => a i y z ?_ ?_, a (C.length - 1) l x ?_ ?_⟩
    · rw [List.getElem?_append_left (List.getElem?_eq_some_iff.mp e1).1]
      exact e1
    · rw [List.getElem?_append_left (List.getElem?_eq_some_iff.mp e2).1]
      exact e2
    · rw [List.getElem?_append_left (by omega)]
      exact h
    · rw [show C.length - 1 + 1 = C.length by omega, List.getElem?_append_right (Nat.le_refl _)]
      simp
  · rintro ⟨a, b⟩ i y z e1 e2
    have l2 := (List.getElem?_eq_some_iff.mp e2).1
    rw [List.length_append] at l2
    simp only [List.length_cons, List.length_nil] at l2
    rw [List.getElem?_append_left (by omega)] at e1
    by_cases c : i + 1 < C.length
    · rw [List.getElem?_append_left c] at e2
      exact a i y z e1 e2
    · have : i = C.length - 1 := by omega
      subst this
      rw [h] at e1
      rw [show C.length - 1 + 1 = C.length by omega, List.getElem?_append_right (Nat.le_refl _)] at e2
      simp at e2
      rw [← Option.some.inj e1, ← e2]
      exact b
structure Cl (P : List (Rat × Option Rat)) (i : Nat) (C : List Rat) (q : Rat) : Prop where
  last : C.getLast? = some (lin P q)
  q0 : 0 ≤ q
  q1 : q ≤ 1
  asc : AscL C ↔ MonTo P q
  pas : ∀ k, k < i → k < P.length → plc P k ≤ q ∨ 1 < plc P k
  org : q = 0 ∨ ∃ k, k < i ∧ k < P.length ∧ plc P k = q
  nx : i < P.length → plc P i ≤ 0 ∨ q < plc P i
structure Mid (P : List (Rat × Option Rat)) (i : Nat) (C : List Rat) (q : Rat) : Prop where
  last : C.getLast? = some (llim P q (plc P i))
  q0 : 0 ≤ q
  lt : q < plc P i
  le : plc P i ≤ 1
  nb : NoBr P q (plc P i)
  asc : AscL C ↔ MonTo P q ∧ lin P q ≤ llim P q (plc P i)
theorem Cl.start (P : List (Rat × Option Rat)) : Cl P 0 [lin P 0] 0 :=
  ⟨rfl, Rat.le_refl, by decide, ⟨fun _ => MonTo.zero P, fun _ => AscL.one _⟩, fun k h => absurd h (by omega), .inl rfl, fun _ => by grind⟩
theorem Cl.low {i : Nat} {C : List Rat} {q : Rat} (h : Cl P i C q) (hi : i < P.length) (c : plc P i ≤ 0) : Cl P (i + 1) C q := by
  have e : q = 0 := by
    rcases h.org with z | ⟨k, a, b, d⟩
    · exact z
    · have := plc_mono (P := P) (i := k) (j := i) (by omega) hi
      have := h.q0
      grind
  subst e
  refine ⟨h.last, h.q0, h.q1, h.asc, fun k a b => ?_, .inl rfl, fun _ => by grind⟩
  by_cases z : k = i
  · subst z
    exact .inl c
  · exact h.pas k (by omega) b
theorem Cl.high {i : Nat} {C : List Rat} {q : Rat} (h : Cl P i C q) (hi : i < P.length) (c : 1 < plc P i) : Cl P (i + 1) C q := by
  refine ⟨h.last, h.q0, h.q1, h.asc, fun k a b => ?_, h.org.imp id fun ⟨k, a, b, d⟩ => ⟨k, by omega, b, d⟩, fun l => ?_⟩
  · by_cases z : k = i
    · subst z
      exact .inr c
    · exact h.pas k (by omega) b
  · have := plc_mono (P := P) (i := i) (j := i + 1) (by omega) l
    have := h.q1
    exact .inr (by grind)
theorem Cl.left {i : Nat} {C : List Rat} {q : Rat} (h : Cl P i C q) (hi : i < P.length) (c0 : 0 < plc P i) (c1 : plc P i ≤ 1) : Mid P i (C ++ [llim P q (plc P i)]) q ∧ (0 < i → plc P (i - 1) ≤ q) := by
  have lt : q < plc P i := (h.nx hi).resolve_left (by grind)
  have pas : ∀ k, k < i → plc P k ≤ q := fun k hk => by
    rcases h.pas k hk (by omega) with z | z
    · exact z
    · have := plc_mono (P := P) (i := k) (j := i) (by omega) hi
      grind
  refine ⟨⟨List.getLast?_concat .., h.q0, lt, c1, fun k hk => ?_, ?_⟩, fun h0 => pas _ (by omega)⟩
  · by_cases z : k < i
    · exact .inl (pas k z)
    · exact .inr (plc_mono (by omega) hk)
  · rw [AscL.snoc h.last, h.asc]
theorem Mid.close {i : Nat} {C : List Rat} {q : Rat} (h : Mid P i C q) (hi : i < P.length) (c : i = P.length - 1 ∨ ¬ plc P (i + 1) = plc P i) : Cl P (i + 1) (C ++ [lin P (plc P i)]) (plc P i) := by
  have q0 := h.q0
  have lt := h.lt
  refine ⟨List.getLast?_concat .., by grind, h.le, ?_, fun k a b => .inl (plc_mono (by omega) hi), .inr ⟨i, by omega, hi, rfl⟩, fun l => .inr ?_⟩
  · rw [AscL.snoc h.last, h.asc, glue h.nb h.lt h.q0]
    exact ⟨fun ⟨⟨a, b⟩, d⟩ => ⟨a, b, d⟩, fun ⟨a, b, d⟩ => ⟨⟨a, b⟩, d⟩⟩
  · have := plc_mono (P := P) (i := i) (j := i + 1) (by omega) l
    have := c.resolve_left (by omega)
    grind
theorem Mid.next {i : Nat} {C : List Rat} {q : Rat} (h : Mid P i C q) (c : plc P (i + 1) = plc P i) : Mid P (i + 1) C q := by
  obtain ⟨a1, a2, a3, a4, a5, a6⟩ := h
  rw [← c] at a1 a3 a4 a5 a6
  exact ⟨a1, a2, a3, a4, a5, a6⟩
theorem Cl.fin {C : List Rat} {q : Rat} (h : Cl P P.length C q) : AscL (C ++ [lin P 1]) ↔ MonTo P 1 := by
  rw [AscL.snoc h.last, h.asc]
  exact (glueEnd (fun k hk => h.pas k hk hk) h.q1 h.q0).symm
end
end FC

namespace FC
/-! ### the law's own way: by its breaks -/
def brk (P : List (Rat × Option Rat)) : List Rat := 0 :: (((settle (P.map (·.2))).filter fun s => decide (0 < s) && decide (s < 1)) ++ [1])
theorem settle_pw {P : List (Rat × Option Rat)} (h : 0 < P.length) : (settle (P.map (·.2))).Pairwise (· ≤ ·) := by
  rw [List.pairwise_iff_getElem]
  intro i j hi hj l
  exact up_mono (settle_up h) (Nat.le_of_lt l) (List.getElem?_eq_getElem hi) (List.getElem?_eq_getElem hj)
theorem mem_in {P : List (Rat × Option Rat)} {s : Rat} (h : s ∈ (settle (P.map (·.2))).filter fun s => decide (0 < s) && decide (s < 1)) : 0 < s ∧ s < 1 := by
  have z := (List.mem_filter.mp h).2
  simpa using z
theorem brk_pw {P : List (Rat × Option Rat)} (h : 0 < P.length) : (brk P).Pairwise (· ≤ ·) := by
  unfold brk
  rw [List.pairwise_cons, List.pairwise_append]
  refine ⟨fun x hx => ?_, (settle_pw h).filter _, by simp, fun x hx y hy => ?_⟩
  · rcases List.mem_append.mp hx with z | z
    · exact Rat.le_of_lt (mem_in z).1
    · have : x = 1 := by simpa using z
      subst this
      decide
  · have : y = 1 := by simpa using hy
    subst this
    exact Rat.le_of_lt (mem_in hx).2
theorem brk_le {P : List (Rat × Option Rat)} (h : 0 < P.length) {i j : Nat} {a b : Rat} (l : i ≤ j) (ha : (brk P)[i]? = some a) (hb : (brk P)[j]? = some b) : a ≤ b := by
  obtain ⟨h1, e1⟩ := List.getElem?_eq_some_iff.mp ha
  obtain ⟨h2, e2⟩ := List.getElem?_eq_some_iff.mp hb
  rcases Nat.eq_or_lt_of_le l with z | z
  · subst z
    rw [← e1, ← e2]
    exact Rat.le_refl
  · rw [← e1, ← e2]
    exact List.pairwise_iff_getElem.mp (brk_pw h) i j h1 h2 z
theorem brk_len (P : List (Rat × Option Rat)) : 2 ≤ (brk P).length ∧ (brk P).length ≤ P.length + 2 := by
  unfold brk
  have := List.length_filter_le (fun s => decide (0 < s) && decide (s < 1)) (settle (P.map (·.2)))
  rw [settle_len] at this
  simp only [List.length_cons, List.length_append, List.length_nil]
  omega
theorem brk_first (P : List (Rat × Option Rat)) : (brk P)[0]? = some 0 := rfl
theorem brk_last (P : List (Rat × Option Rat)) : (brk P)[(brk P).length - 1]? = some 1 := by
  rw [← List.getLast?_eq_getElem?]
  unfold brk
  rw [← List.cons_append]
  exact List.getLast?_concat ..
theorem brk_nb {P : List (Rat × Option Rat)} (h : 0 < P.length) {i : Nat} {a b : Rat} (ha : (brk P)[i]? = some a) (hb : (brk P)[i + 1]? = some b) : NoBr P a b := by
  intro k hk
  have a0 : 0 ≤ a := brk_le h (Nat.zero_le _) (brk_first P) ha
  have b1 : b ≤ 1 := by
    refine brk_le h ?_ hb (brk_last P)
    have := (List.getElem?_eq_some_iff.mp hb).1
    omega
  have ek : (settle (P.map (·.2)))[k]? = some (plc P k) := by
    unfold plc
    rw [List.getElem?_eq_getElem (by rw [settle_len]; exact hk)] <;> rfl
  by_cases c0 : 0 < plc P k
  · by_cases c1 : plc P k < 1
    · have m : plc P k ∈ brk P := by
        refine List.mem_cons_of_mem _ (List.mem_append_left _ (List.mem_filter.mpr ⟨List.mem_of_getElem? ek, by simp [c0, c1]⟩))
      obtain ⟨j, hj⟩ := List.getElem?_of_mem m
      by_cases l : j ≤ i
      · exact .inl (brk_le h l hj ha)
      · exact .inr (brk_le h (by omega) hb hj)
    · exact .inr (by grind)
  · exact .inl (by grind)
theorem law_third {P : List (Rat × Option Rat)} {a b : Rat} (h : NoBr P a b) (l : a < b) : lin P (a + (b - a) / 3) - lin P a = sl P a * ((b - a) / 3) ∧ lin P a + 3 * (lin P (a + (b - a) / 3) - lin P a) = llim P a b := by
  have e := affE (h.free (x := a + (b - a) / 3) (by grind)) (by grind)
  have e1 : lin P (a + (b - a) / 3) - lin P a = sl P a * ((b - a) / 3) := by grind
  refine ⟨e1, ?_⟩
  rw [e1]
  unfold llim
  grind
theorem law_step {P : List (Rat × Option Rat)} {a b : Rat} (h : NoBr P a b) (l : a < b) (a0 : 0 ≤ a) : (¬ lin P (a + (b - a) / 3) - lin P a < 0 ∧ ¬ lin P b < lin P a + 3 * (lin P (a + (b - a) / 3) - lin P a)) ↔ (lin P a ≤ llim P a b ∧ llim P a b ≤ lin P b) := by
  obtain ⟨e1, e2⟩ := law_third h l
  have e3 : llim P a b - lin P a = 3 * (lin P (a + (b - a) / 3) - lin P a) := by grind
  rw [e2]
  constructor
  · rintro ⟨x, y⟩
    exact ⟨by grind, by grind⟩
  · rintro ⟨x, y⟩
    exact ⟨by grind, by grind⟩
/-! ### cubics that never fall -/
def cubR (a b : Rat) : Bool := if a < 0 ∨ 1 < b then false else if ¬ b - a < 0 then true else !decide (a * (1 - b) < (b - a) * (b - a))
def lawR (a b : Rat) : Bool := if a < 0 ∨ 1 < b then false else if 1 + 3 * (a - b) ≤ 0 ∨ 0 ≤ 2 * b - 4 * a ∨ ¬ 0 - (2 * b - 4 * a) < 2 * (1 + 3 * (a - b)) then true else !decide (4 * ((1 + 3 * (a - b)) * a) < (2 * b - 4 * a) * (2 * b - 4 * a))
theorem lawR_eq (a b : Rat) : lawR a b = cubR a b := by
  unfold lawR cubR
  by_cases c : a < 0 ∨ 1 < b
  · rw [if_pos c, if_pos c]
  rw [if_neg c, if_neg c]
  have a0 : 0 ≤ a := by grind
  have b1 : b ≤ 1 := by grind
  have key : (2 * b - 4 * a) * (2 * b - 4 * a) - 4 * ((1 + 3 * (a - b)) * a) = 4 * ((b - a) * (b - a) - a * (1 - b)) := by grind
  by_cases d : b - a < 0
  · rw [if_neg (show ¬ (¬ b - a < 0) by grind), if_neg (by grind)]
    congr 1
    exact decide_eq_decide.mpr ⟨fun h => by grind, fun h => by grind⟩
  · rw [if_pos d]
    split
    · rfl
    · rename_i e
      have e1 : 0 < a + (a - b) := by grind
      have e2 : 0 < (a - b) + (1 - b) := by grind
      have z : ¬ 4 * ((1 + 3 * (a - b)) * a) < (2 * b - 4 * a) * (2 * b - 4 * a) := by
        have m := Rat.mul_nonneg (show 0 ≤ a + (a - b) by grind) (show 0 ≤ (1 - b) + (a - b) by grind)
        have m1 := Rat.mul_nonneg (show 0 ≤ b - a by grind) (show 0 ≤ a + (a - b) by grind)
        have m2 := Rat.mul_nonneg (show 0 ≤ b - a by grind) (show 0 ≤ (1 - b) + (a - b) by grind)
        have m3 := Rat.mul_nonneg (show 0 ≤ b - a by grind) (show 0 ≤ b - a by grind)
        grind
      rw [decide_eq_false z] <;> rfl
def cg (a b x : Rat) : Rat := a * (1 - x) * (1 - x) + 2 * (b - a) * x * (1 - x) + (1 - b) * x * x
def cpol (a b x : Rat) : Rat := x * ((3 * (1 - x)) * ((1 - x) * a + x * b) + x * x)
theorem cub_pol {a b x : Rat} (h0 : 0 ≤ x) (h1 : x ≤ 1) : cub a b x = cpol a b x := by
  by_cases c : x < 1
  · rw [cub_mid (by grind) c] <;> rfl
  · have : x = 1 := by grind
    subst this
    rw [cub_high (by decide) (by decide)]
    unfold cpol
    grind
theorem cpol_sub (a b x h : Rat) : cpol a b (x + 2 * h) - cpol a b x = h * (cg a b x + 4 * cg a b (x + h) + cg a b (x + 2 * h)) := by
  unfold cpol cg
  grind
theorem cg_nn {a b x : Rat} (r : cubR a b = true) (h0 : 0 ≤ x) (h1 : x ≤ 1) : 0 ≤ cg a b x := by
  unfold cubR at r
  by_cases c : a < 0 ∨ 1 < b
  · rw [if_pos c] at r
    cases r
  rw [if_neg c] at r
  have a0 : 0 ≤ a := by grind
  have b1 : 0 ≤ 1 - b := by grind
  have u0 : 0 ≤ 1 - x := by grind
  unfold cg
  have xx := Rat.mul_nonneg h0 h0
  have uu := Rat.mul_nonneg u0 u0
  have xu := Rat.mul_nonneg h0 u0
  have t1 := Rat.mul_nonneg a0 uu
  have t3 := Rat.mul_nonneg b1 xx
  by_cases d : b - a < 0
  · rw [if_neg (show ¬ (¬ b - a < 0) by grind)] at r
    have e : ¬ a * (1 - b) < (b - a) * (b - a) := by
      intro z
      rw [decide_eq_true z] at r
      cases r
    have bb : 0 < (a - b) * (a - b) := Rat.mul_pos (by grind) (by grind)
    have ap : 0 < a := by
      refine Rat.not_le.mp fun z => ?_
      have : a = 0 := by grind
      subst this
      grind
    have sq : 0 ≤ (a * (1 - x) - (a - b) * x) * (a * (1 - x) - (a - b) * x) := by
      by_cases s : 0 ≤ a * (1 - x) - (a - b) * x
      · exact Rat.mul_nonneg s s
      · have := Rat.mul_nonneg (show 0 ≤ - (a * (1 - x) - (a - b) * x) by grind) (show 0 ≤ - (a * (1 - x) - (a - b) * x) by grind)
        grind
    have rest := Rat.mul_nonneg (show 0 ≤ a * (1 - b) - (b - a) * (b - a) by grind) xx
    refine Rat.not_lt.mp fun z => ?_
    have neg := Rat.mul_pos ap (show 0 < - (a * (1 - x) * (1 - x) + 2 * (b - a) * x * (1 - x) + (1 - b) * x * x) by grind)
    grind
  · have t2 := Rat.mul_nonneg (show 0 ≤ b - a by grind) xu
    grind
theorem cub_mono {a b x y : Rat} (r : cubR a b = true) (h0 : 0 ≤ x) (l : x ≤ y) (h1 : y ≤ 1) : cub a b x ≤ cub a b y := by
  rw [cub_pol h0 (by grind), cub_pol (by grind) h1]
  have e := cpol_sub a b x ((y - x) / 2)
  rw [show x + 2 * ((y - x) / 2) = y by grind] at e
  have g1 := cg_nn r h0 (show x ≤ 1 by grind)
  have g2 := cg_nn r (show 0 ≤ x + (y - x) / 2 by grind) (show x + (y - x) / 2 ≤ 1 by grind)
  have g3 := cg_nn r (show 0 ≤ y by grind) h1
  have m := Rat.mul_nonneg (show 0 ≤ (y - x) / 2 by grind) (show 0 ≤ cg a b x + 4 * cg a b (x + (y - x) / 2) + cg a b y by grind)
  grind
end FC

namespace FC
/-! ### steps never fall -/
theorem div_mono {a b d : Int} (hd : 0 < d) (h : a ≤ b) : Rat.divInt a d ≤ Rat.divInt b d := by
  rw [Rat.divInt_eq_div, Rat.divInt_eq_div]
  have d0 : (0 : Rat) < (d : Rat) := by exact_mod_cast hd
  have h' : (a : Rat) ≤ (b : Rat) := by exact_mod_cast h
  have dn : (d : Rat) ≠ 0 := by grind
  generalize (d : Rat) = m at *
  have e1 : (a : Rat) / m * m = a := Rat.div_mul_cancel dn
  have e2 : (b : Rat) / m * m = b := Rat.div_mul_cancel dn
  generalize (a : Rat) / m = u at *
  generalize (b : Rat) / m = v at *
  refine Rat.not_lt.mp fun z => ?_
  have := Rat.mul_pos (show 0 < u - v by grind) d0
  grind
theorem floor_mono {x y : Rat} {n : Int} (hn : 0 ≤ n) (l : x ≤ y) : x.num * n / (x.den : Int) ≤ y.num * n / (y.den : Int) := by
  have dx := den_pos' x
  have dy := den_pos' y
  rw [Int.le_ediv_iff_mul_le dy]
  have h1 : x.num * n / (x.den : Int) * (x.den : Int) ≤ x.num * n := Int.ediv_mul_le _ (by omega)
  have h2 : x.num * (y.den : Int) ≤ y.num * (x.den : Int) := (Rat.le_iff x y).mp l
  generalize x.num * n / (x.den : Int) = f at *
  refine Int.le_of_mul_le_mul_right (a := (x.den : Int)) ?_ dx
  have h3 := Int.mul_le_mul_of_nonneg_right h1 (Int.le_of_lt dy)
  have h4 := Int.mul_le_mul_of_nonneg_right h2 hn
  have e1 : f * (y.den : Int) * (x.den : Int) = f * (x.den : Int) * (y.den : Int) := by grind
  have e2 : x.num * n * (y.den : Int) = x.num * (y.den : Int) * n := by grind
  have e3 : y.num * n * (x.den : Int) = y.num * (x.den : Int) * n := by grind
  rw [e1, e3]
  rw [e2] at h3
  exact Int.le_trans h3 h4
theorem stv_mono {n : Int} {w : Wh} {x y : Rat} (hn : NOk n w) (h0 : 0 ≤ x) (l : x ≤ y) (h1 : y ≤ 1) : stv n w x false ≤ stv n w y false := by
  have n0 := hn.pos
  have m0 := hn.most
  refine div_mono m0.1 ?_
  have f := floor_mono (n := n) (by omega) l
  have fx : 0 ≤ x.num * n / (x.den : Int) := by
    refine Int.ediv_nonneg (Int.mul_nonneg (Rat.num_nonneg.mpr h0) (by omega)) (Int.le_of_lt (den_pos' x))
  have yn : 0 ≤ y.num := Rat.num_nonneg.mpr (by grind)
  have y1 : y.num ≤ (y.den : Int) := by
    have := (Rat.le_iff y 1).mp h1
    simpa using this
  have x1 : x.num ≤ (x.den : Int) := by
    have := (Rat.le_iff x 1).mp (by grind)
    simpa using this
  have xn : 0 ≤ x.num := Rat.num_nonneg.mpr h0
  unfold stp
  generalize x.num * n / (x.den : Int) = a at *
  generalize y.num * n / (y.den : Int) = b at *
  simp only [Bool.false_and, Bool.false_eq_true, if_false]
  split <;> split <;> split <;> split <;> (try split) <;> (try split) <;> omega
/-! ### curves that never fall -/
noncomputable instance (P : List (Rat × Option Rat)) (q : Rat) : Decidable (MonTo P q) := Classical.propDecidable _
noncomputable def rise : Cv → Bool
  | .lin P => decide (MonTo P 1)
  | .cub a b => cubR a b
  | .stp _ _ => true
theorem rise_mono {c : Cv} {x y : Rat} (ok : CvOk 31 c) (r : rise c = true) (h0 : 0 ≤ x) (l : x ≤ y) (h1 : y ≤ 1) : cval c x false ≤ cval c y false := by
  cases c with
  | lin P => exact (of_decide_eq_true r) x y h0 l h1
  | cub a b => exact cub_mono r h0 l h1
  | stp n w => exact stv_mono ok h0 l h1
theorem MonTo.one {P : List (Rat × Option Rat)} (h : P.length = 1) (q : Rat) : MonTo P q := fun x y _ _ _ => by
  unfold lin
  rw [if_pos h, if_pos h]
  exact Rat.le_refl
/-! ### points at even steps -/
theorem divInt_le {a b d : Int} (hd : 0 < d) : Rat.divInt a d ≤ Rat.divInt b d ↔ a ≤ b := by
  refine ⟨fun h => ?_, div_mono hd⟩
  refine Int.not_lt.mp fun z => ?_
  rw [Rat.divInt_eq_div, Rat.divInt_eq_div] at h
  have d0 : (0 : Rat) < (d : Rat) := by exact_mod_cast hd
  have z' : (b : Rat) < (a : Rat) := by exact_mod_cast z
  have dn : (d : Rat) ≠ 0 := by grind
  generalize (d : Rat) = m at *
  have e1 : (a : Rat) / m * m = a := Rat.div_mul_cancel dn
  have e2 : (b : Rat) / m * m = b := Rat.div_mul_cancel dn
  generalize (a : Rat) / m = u at *
  generalize (b : Rat) / m = v at *
  have := Rat.mul_nonneg (show 0 ≤ v - u by grind) (Rat.le_of_lt d0)
  grind
theorem divInt_lt {a b d : Int} (hd : 0 < d) : Rat.divInt a d < Rat.divInt b d ↔ a < b := by
  rw [← Rat.not_le, divInt_le hd, Int.not_le]
section
variable {P : List (Rat × Option Rat)} {n : Nat}
theorem plc_k (hn : 0 < n) (hl : P.length = n + 1) (hp : ∀ k, k ≤ n → ∃ v, P[k]? = some (v, some (Rat.divInt (k : Int) (n : Int)))) {k : Nat} (hk : k ≤ n) : plc P k = Rat.divInt (k : Int) (n : Int) := by
  have n0 : (0 : Int) < (n : Int) := by omega
  have e : P.map (·.2) = ((List.range (n + 1)).map fun k : Nat => Rat.divInt (k : Int) (n : Int)).map some := by
    refine List.ext_getElem? fun i => ?_
    rw [List.getElem?_map, List.getElem?_map, List.getElem?_map]
    by_cases hi : i ≤ n
    · obtain ⟨v, hv⟩ := hp i hi
      rw [hv, List.getElem?_range (by omega)] <;> rfl
    · rw [List.getElem?_eq_none (by omega), List.getElem?_eq_none (by rw [List.length_range]; omega)] <;> rfl
  unfold plc
  rw [e, settle_some, List.getElem?_map, List.getElem?_range (by omega)]
  · rfl
  · intro i j a b l h1 h2
    rw [List.getElem?_map] at h1 h2
    have i1 : i < n + 1 := by
      refine Nat.lt_of_not_le fun z => ?_
      rw [List.getElem?_eq_none (by rw [List.length_range]; exact z)] at h1
      cases h1
    have j1 : j < n + 1 := by
      refine Nat.lt_of_not_le fun z => ?_
      rw [List.getElem?_eq_none (by rw [List.length_range]; exact z)] at h2
      cases h2
    rw [List.getElem?_range i1] at h1
    rw [List.getElem?_range j1] at h2
    have a' : Rat.divInt (i : Int) (n : Int) = a := Option.some.inj h1
    have b' : Rat.divInt (j : Int) (n : Int) = b := Option.some.inj h2
    rw [← a', ← b', divInt_le n0]
    omega
theorem mon_k (hn : 0 < n) (hl : P.length = n + 1) (hp : ∀ k, k ≤ n → ∃ v, P[k]? = some (v, some (Rat.divInt (k : Int) (n : Int)))) : ∀ {m : Nat}, m ≤ n → (MonTo P (plc P m) ↔ ∀ k, k < m → vAt P k ≤ vAt P (k + 1))
  | 0, _ => by
    rw [plc_k hn hl hp (Nat.zero_le _)]
    have : Rat.divInt ((0 : Nat) : Int) (n : Int) = 0 := by simp
    rw [this]
    exact ⟨fun _ k hk => absurd hk (by omega), fun _ => MonTo.zero P⟩
  | m + 1, hm => by
    have n0 : (0 : Int) < (n : Int) := by omega
    have ih := mon_k hn hl hp (m := m) (by omega)
    have lt : plc P m < plc P (m + 1) := by
      rw [plc_k hn hl hp (by omega), plc_k hn hl hp hm, divInt_lt n0]
      omega
    have ge : 0 ≤ plc P m := by
      have z : plc P 0 ≤ plc P m := plc_mono (by omega) (by omega)
      rw [plc_k hn hl hp (Nat.zero_le _)] at z
      have : Rat.divInt ((0 : Nat) : Int) (n : Int) = 0 := by simp
      rw [this] at z
      exact z
    have nb : NoBr P (plc P m) (plc P (m + 1)) := fun k hk => by
      by_cases l : k ≤ m
      · exact .inl (plc_mono l (by omega))
      · exact .inr (plc_mono (by omega) hk)
    have e1 := lin_last (P := P) (i := m) (by omega) (by omega) (.inr (by grind))
    have e2 : lin P (plc P (m + 1)) = vAt P (m + 1) := by
      refine lin_last (by omega) (by omega) ?_
      by_cases c : m + 1 = n
      · exact .inl (by omega)
      · refine .inr fun z => ?_
        rw [plc_k hn hl hp (by omega), plc_k hn hl hp hm] at z
        have := (divInt_lt (a := ((m + 1 : Nat) : Int)) (b := ((m + 1 + 1 : Nat) : Int)) n0).mpr (by omega)
        grind
    have e3 : llim P (plc P m) (plc P (m + 1)) = vAt P (m + 1) := llim_pos (i := m + 1) (by omega) (by omega) (by omega) Rat.le_refl lt
    rw [glue nb lt ge, ih, e1, e2, e3]
    constructor
    · rintro ⟨h, g, _⟩ k hk
      by_cases c : k = m
      · subst c
        exact g
      · exact h k (by omega)
    · intro h
      exact ⟨fun k hk => h k (by omega), h m (by omega), Rat.le_refl⟩
theorem rise_k (hn : 0 < n) (hl : P.length = n + 1) (hp : ∀ k, k ≤ n → ∃ v, P[k]? = some (v, some (Rat.divInt (k : Int) (n : Int)))) : MonTo P 1 ↔ ∀ k, k < n → vAt P k ≤ vAt P (k + 1) := by
  have e := mon_k hn hl hp (Nat.le_refl n)
  rw [plc_k hn hl hp (Nat.le_refl n)] at e
  have : Rat.divInt (n : Int) (n : Int) = 1 := by
    rw [Rat.divInt_eq_div]
    have : ((n : Int) : Rat) ≠ 0 := by exact_mod_cast (by omega : (n : Int) ≠ 0)
    generalize ((n : Int) : Rat) = m at *
    grind
  rwa [this] at e
end
end FC

namespace FC
open PySem PySem.Spec PyProof.Rows L2
/-! ### enumerate of a tuple -/
abbrev itO (a : Addr) : PySem.Obj := { cls := .type "tuple_iterator", data := .fields #[.ref a, .int 0 0] }
abbrev enO (n : Addr) : PySem.Obj := { cls := .type "enumerate", data := .fields #[.none, .bool false, .ref n, rawInt 0, .none, .none] }
abbrev enH (h : Heap) (a : Addr) : Heap := (h.push (itO a)).push (enO h.objs.size)
theorem made_enumT (a : Addr) (us : Array Value) : Meets (Builtin.«enumerate.__new__» ⟨[.type "enumerate", .ref a], []⟩) (fun _ R s => s.heap.IsTuple a us ∧ R (.ok (.ret (.ref (s.heap.push (itO a)).objs.size))) { s with heap := enH s.heap a }) :=
  .of_wp fun prog w A R s z => by
    rcases s with ⟨hp, gs, dr, tk, os⟩
    rcases z with ⟨z1, z2⟩
    have sub1 := sub_enumerate
    have g1 : Heap.IsTuple (Shared.heap ⟨hp, gs, dr, tk, os⟩) a us := z1
    wp_walk using wpAny_pyIter_tuple g1
    refine wpAny_stack_any fun fr => wpAny_pure ?_
    split
    · rename_i c _ _ _ _ _
      cases (c == Value.type "enumerate") <;> (wp_walk using wpAny_pyIter_tuple g1; exact ⟨_, rfl, z2⟩)
    · wp_walk using wpAny_pyIter_tuple g1; exact ⟨_, rfl, z2⟩
theorem callEnumT {prog : Program} {w : World} {A : Around} {E : Value → Shared → Prop} {s : Shared} {a : Addr} {us : Array Value} {Q : Value → Shared → Prop} (g : s.heap.IsTuple a us)
    (k : ∀ h', IsEnum h' (s.heap.objs.size + 1) s.heap.objs.size 0 .none → h'.IsTupleIter s.heap.objs.size a 0 → (∀ c o, s.heap.get? c = some o → h'.get? c = some o) → Q (.ref (s.heap.objs.size + 1)) { s with heap := h' }) :
    wpAny (model prog w) A (call (.type "enumerate") [.ref a]) Q E s := by
  refine callType_new F.called_enumerate (by decide) (F.typeCall_enumerate_1 _) (F.newCall_enumerate_1 _) (fun ob => F.args_object_init_2 ob _) F.entry_enumerate_new (made_enumT a us) ⟨g, ?_⟩
  have n1 : (s.heap.push (itO a)).objs.size = s.heap.objs.size + 1 := Heap.size_push ..
  have g1 : (enH s.heap a).get? (s.heap.push (itO a)).objs.size = some (enO s.heap.objs.size) := Heap.get?_push_size _ rfl
  have g2 : (enH s.heap a).get? s.heap.objs.size = some (itO a) := Heap.get?_push_of_some _ (Heap.get?_push_size _ rfl)
  show _ ∧ _
  rw [n1] at g1 ⊢
  exact ⟨⟨_, g1, rfl⟩, k _ g1 ⟨_, g2, rfl, rfl⟩ fun c o x => Heap.get?_push_of_some _ (Heap.get?_push_of_some _ x)⟩
def EnSt (a e it : Addr) (i : Nat) (h : Heap) : Prop := (∃ old, IsEnum h e it (0 + (i : Int)) old) ∧ h.IsTupleIter it a i ∧ e ≠ it ∧ a ≠ e ∧ a ≠ it
def IteT (K : PySem.W.Frag) (a : Addr) : L2.It where
  go := fun i H => ∃ (xs : List V) (x : V), SqT K H a xs ∧ xs[i]? = some x
  yld := fun i H v H' => ∃ (T : Addr) (x : V), (v = .ref T ∧ H T = none ∧ H' = upd H T (.tup [.int (i : Nat), x])) ∧ ∀ xs, SqT K H a xs → xs[i]? = some x
  stop := fun i H => ∃ xs : List V, SqT K H a xs ∧ i = xs.length
theorem memEn {c e it : Addr} (h : c ∈ [e, it]) : c = e ∨ c = it := by
  simpa only [List.mem_cons, List.not_mem_nil, or_false] using h
theorem turnEnT {P : Program} {w : World} {K : PySem.W.Frag} {elts : List Expr} {kk : Nat} {tpos : Pos} {a e it : Addr} : Turn P w K (.Tuple elts kk tpos) (IteT K a) [e, it] e (EnSt a e it) := by
  constructor
  · simp
  · rintro i h ⟨⟨old, s1⟩, ⟨p, s2, _, q2⟩, _⟩ c hc
    rcases memEn hc with rfl | rfl
    · exact ⟨_, s1, fun v z => nomatch z⟩
    · refine ⟨p, s2, fun v z => ?_⟩
      rw [q2] at z
      cases z
  · rintro i h h' ⟨⟨old, s1⟩, s2, s3⟩ kp
    exact ⟨⟨old, kp e (by simp) _ s1⟩, s2.at fun o => kp it (by simp) o, s3⟩
  · rintro X rfl rfl rfl calm i pins s σ H E I fr ⟨s1, s2, n1, n2, n3⟩ ⟨xs, x, qx, ex⟩
    obtain ⟨us, ru, tu, _⟩ := I.tuple qx
    have hh := I.ok.hd calm
    have W := WalksT.enumFrom (prog := X.prog) (w := X.w) (A := X.A) 0 (Draws.tuple (A := X.A.in1) hh it a n3 us.toArray) e n1 (by simp [n1, n2.symm]) (by simp)
    obtain ⟨u, hu, mu⟩ := ru.get ex
    have l1 : i < us.toArray.size := by simpa using (List.getElem?_eq_some_iff.mp hu).1
    refine W.item i s _ E l1 ⟨s1, s2, tu⟩ fun T vals h1 tk ⟨t, c1, e1, ev⟩ hT tT mid kp => ⟨.ref T, rfl, ?_⟩
    have f1 : c1 = u := by
      have z : us.toArray[i]? = some u := by simpa using hu
      rw [z] at e1
      exact (Option.some.inj e1).symm
    subst ev f1
    have aT := W.apart i T h1 mid
    refine W.go elts kk tpos i T { s with heap := h1, toks := tk } _ E mid fun h2 st kp2 => ?_
    obtain ⟨t1, t2, _⟩ := st
    have tT2 : h2.IsTuple T #[.int (0 + (i : Int)) t, c1] := tT.at fun o z => kp2 T o aT z
    have new : ObjOk X.prog X.w (upd H T (.tup [.int (i : Nat), x])) h2 T (.tup [.int (i : Nat), x]) := ⟨by show 2 ≤ sizeLine; rw [sizeLine_eq]; decide, [.int (0 + (i : Int)) t, c1], .cons ⟨t, by rw [Int.zero_add]⟩ (.cons mu .nil), tT2⟩
    refine ⟨.ref T, upd H T (.tup [.int (i : Nat), x]), I.turnedNew (ch := [e, it]) (fun c o hc z => kp2 c o hc (kp c o hc z)) fr hT new, rfl, ⟨T, x, ⟨rfl, I.hok.fresh hT, rfl⟩, fun l hl => ?_⟩, ⟨t1, t2, n1, n2, n3⟩, fun c hc => ?_⟩
    · rw [I.tuple_inj hl qx]
      exact ex
    · have hlt : ∃ o, s.heap.get? c = some o := by
        obtain ⟨old, s1⟩ := s1
        obtain ⟨o5, g5, _⟩ := s2
        rcases memEn hc with rfl | rfl
        · exact ⟨_, s1⟩
        · exact ⟨_, g5⟩
      obtain ⟨o, go⟩ := hlt
      rw [upd_ne (new4 go hT).symm]
      exact (fr c hc).1
  · rintro X rfl rfl rfl calm i pins s σ H E I fr ⟨s1, s2, n1, n2, n3⟩ ⟨xs, qx, rfl⟩
    obtain ⟨us, ru, tu, _⟩ := I.tuple qx
    have hh := I.ok.hd calm
    have W := WalksT.enumFrom (prog := X.prog) (w := X.w) (A := X.A) 0 (Draws.tuple (A := X.A.in1) hh it a n3 us.toArray) e n1 (by simp [n1, n2.symm]) (by simp)
    have e1 : us.toArray.size = xs.length := by rw [List.size_toArray]; exact ru.length.symm
    rw [← e1] at s1 s2
    refine W.done s _ E ⟨s1, s2, tu⟩ fun h1 tk kp => ⟨rfl, ?_⟩
    exact I.turnedL (ch := [e, it]) (fun c o hc z => kp c o hc z) fr
  · rintro A i s Q E ⟨⟨old, s1⟩, _⟩ h
    exact wpAny_pyIter_enum s1 h
def iEnT (K : PySem.W.Frag) (ta : TA) : L2.TI := fun σ H R => ta σ H fun vs H1 => ∃ a xs, vs = [.ref a] ∧ SqT K H1 a xs ∧ R (IteT K a) H1
theorem pi_enT {X : Cx} {e : Expr} {ta : TA} {p pos tpos : Pos} {elts : List Expr} {kk : Nat} (hg : Gl X "enumerate") (hm : X.mg "enumerate" = none) (ha : PA X [e] ta) (hs : starEach [e] X.env = [(false, eval e X.env)] := by rfl) :
    PI X (.Tuple elts kk tpos) (.Call (.Name "enumerate" p) [e] [] pos) (iEnT X.K ta) := by
  constructor
  intro pins s σ H R I h
  refine Call_ (ld_blt I hg hm boot_enumerate (callWith_type1 (thn (ha.run pos pins s σ H _ I h) fun us s1 g => ?_) hs rfl))
  obtain ⟨vs, H1, I1, r1, a, xs, rfl, qx, q⟩ := g
  obtain ⟨u1, rfl, rfl⟩ : ∃ u1, us = [u1] ∧ u1 = .ref a := by
    cases r1 with
    | cons c1 r1 => cases r1; exact ⟨_, rfl, c1⟩
  obtain ⟨ws, _, tu, _⟩ := I1.tuple qx
  obtain ⟨o1, g1, _⟩ := id tu
  have la := Heap.lt_size g1
  refine callEnumT tu fun h' c1 c2 kp => wpAny_pyIter_enum c1 ?_
  have fr : ∀ c ∈ [s1.heap.objs.size + 1, s1.heap.objs.size], FpOk X pins H1 c := fun c hc => by
    have le : s1.heap.objs.size ≤ c := by
      rcases memEn hc with rfl | rfl
      · exact Nat.le_add_right _ _
      · exact Nat.le_refl _
    exact I1.fpOk le (I1.hok.fresh le)
  exact ⟨_, _, _, _, H1, rfl, I1.kept kp, turnEnT, ⟨⟨_, c1⟩, c2, Nat.succ_ne_self _, Nat.ne_of_lt (Nat.lt_succ_of_lt la), Nat.ne_of_lt la⟩, fr, q⟩
theorem walkEnT {K : PySem.W.Frag} {a : Addr} {xs : List V} : Walk (IteT K a) xs.length (fun H => SqT K H a xs) (YPair (fun i => some (.int (i : Nat))) (fun i => xs[i]?)) := by
  constructor
  · rintro i H hi q
    exact ⟨xs, xs[i], q, List.getElem?_eq_getElem hi⟩
  · intro H q
    exact ⟨xs, q, rfl⟩
  · rintro i H v H' hi q ⟨T, x, ⟨rfl, n1, rfl⟩, e1⟩
    exact ⟨T, .int (i : Nat), x, rfl, n1, rfl, rfl, e1 xs q⟩
/-! ### repr of a truth value -/
theorem cr_reprB {X : Cx} : CallR X (.builtin "repr") (fun xs H Q => ∃ b, xs = [.bl b] ∧ Q (.str (if b = true then "True" else "False")) H) := by
  intro pins s σ H xs us Q I r h
  obtain ⟨b, rfl, q⟩ := h
  cases r with
  | cons r0 rn =>
    cases rn
    cases (show _ = Value.bool b from r0)
    exact PySem.P.repr_of_bool ⟨.str _, H, I.tok _, ⟨_, rfl⟩, q⟩
end FC

namespace FC
open PySem L2
/-! ### things of all kinds -/
inductive OV where
  | non
  | bl (b : Bool)
  | int (i : Int)
  | str (x : Str)
  | lst (l : List OV)
  | tup (l : List OV)
  | dct
mutual
inductive Od (K : PySem.W.Frag) (H : Hp) : V → OV → Prop
  | non : Od K H .non .non
  | bl (b : Bool) : Od K H (.bl b) (.bl b)
  | int (i : Int) : Od K H (.int i) (.int i)
  | str (x : Str) : Od K H (.str x) (.str x)
  | lst {a : Addr} {xs : List V} {ds : List OV} : SqL K H a xs → OdAll K H xs ds → Od K H (.ref a) (.lst ds)
  | tup {a : Addr} {xs : List V} {ds : List OV} : SqT K H a xs → OdAll K H xs ds → Od K H (.ref a) (.tup ds)
  | dct {a : Addr} {kvs : List (L2.Key × V)} : H a = some (.dK kvs) → Od K H (.ref a) .dct
inductive OdAll (K : PySem.W.Frag) (H : Hp) : List V → List OV → Prop
  | nil : OdAll K H [] []
  | cons {v : V} {vs : List V} {d : OV} {ds : List OV} : Od K H v d → OdAll K H vs ds → OdAll K H (v :: vs) (d :: ds)
end
section
variable {K : PySem.W.Frag} {H H' : Hp} {Q : VK}
mutual
theorem Od.same (e : Same H H') : ∀ (d : OV) (v : V), Od K H v d → Od K H' v d
  | .non, _, h => by cases h; exact .non
  | .bl b, _, h => by cases h; exact .bl b
  | .int i, _, h => by cases h; exact .int i
  | .str x, _, h => by cases h; exact .str x
  | .lst ds, _, h => by
    cases h with
    | lst a b => exact .lst (Same.seq e a) (OdAll.same e ds _ b)
  | .tup ds, _, h => by
    cases h with
    | tup a b => exact .tup (Same.sqT e a) (OdAll.same e ds _ b)
  | .dct, _, h => by
    cases h with
    | dct a => exact .dct (e _ _ a)
theorem OdAll.same (e : Same H H') : ∀ (ds : List OV) (vs : List V), OdAll K H vs ds → OdAll K H' vs ds
  | [], _, h => by cases h; exact .nil
  | d :: ds, _, h => by
    cases h with
    | cons a b => exact .cons (Od.same e d _ a) (OdAll.same e ds _ b)
end
def OV.ty : OV → String
  | .non => "NoneType"
  | .bl _ => "bool"
  | .int _ => "int"
  | .str _ => "str"
  | .lst _ => "list"
  | .tup _ => "tuple"
  | .dct => "dict"
theorem tyxL {p : Addr} {xs : List V} (h : SqL K H p xs) : TyX K H (.ref p) (.type "list") := by
  rcases h with (h | ⟨o, h⟩) | ⟨o, its, n, h, c, _⟩
  · exact .base (.lst h)
  · exact .base (.frz h)
  · exact .kList h c
theorem tyxT {p : Addr} {xs : List V} (h : SqT K H p xs) : TyX K H (.ref p) (.type "tuple") := by
  rcases h with (h | ⟨o, h⟩) | ⟨o, its, n, h, c, _⟩
  · exact .base (.tup h)
  · exact .fTuple h
  · exact .kTuple h c
theorem Od.tyx {v : V} {d : OV} (h : Od K H v d) : TyX K H v (.type d.ty) := by
  cases h with
  | non => exact .base .non
  | bl b => exact .base (.bl b)
  | int i => exact .base (.int i)
  | str x => exact .base (.str x)
  | lst a _ => exact tyxL a
  | tup a _ => exact tyxT a
  | dct a => exact .base (.dK a)
theorem Od.isi {v : V} {d : OV} {T : String} {b : Bool} (h : Od K H v d) (e : kitB d.ty T = some b) (q : Q (.bl b) H) : rIsi K [v, .ty T] H Q := ⟨_, _, _, _, b, rfl, .ty _, h.tyx, kit_ty e, q⟩
def OV.isT : OV → Bool
  | .tup _ => true
  | _ => false
def OV.isS : OV → Bool
  | .str _ => true
  | _ => false
def OV.isB : OV → Bool
  | .bl _ => true
  | _ => false
def OV.isIB : OV → Bool
  | .int _ => true
  | .bl _ => true
  | _ => false
theorem Od.isT {v : V} {d : OV} (h : Od K H v d) (q : Q (.bl d.isT) H) : rIsi K [v, .ty "tuple"] H Q := h.isi (by cases d <;> (simp only [OV.ty, OV.isT]; decide +kernel)) q
theorem Od.isS {v : V} {d : OV} (h : Od K H v d) (q : Q (.bl d.isS) H) : rIsi K [v, .ty "str"] H Q := h.isi (by cases d <;> (simp only [OV.ty, OV.isS]; decide +kernel)) q
theorem Od.isB {v : V} {d : OV} (h : Od K H v d) (q : Q (.bl d.isB) H) : rIsi K [v, .ty "bool"] H Q := h.isi (by cases d <;> (simp only [OV.ty, OV.isB]; decide +kernel)) q
theorem Od.isIB {v : V} {d : OV} (h : Od K H v d) (q : Q (.bl d.isIB) H) : rIsi K [v, .ty "int"] H Q := h.isi (by cases d <;> (simp only [OV.ty, OV.isIB]; decide +kernel)) q
/-! ### what the program takes for a number, a point, a curve -/
def ratC : OV → OV → Bool
  | .int t, .int b => decide (b = 1) || (decide (1 < b) && decide (((Nat.gcd t.natAbs b.natAbs : Nat) : Int) = 1))
  | _, _ => false
def OV.ratB : OV → Bool
  | .tup [a, b] => ratC a b
  | _ => false
def OV.isN : OV → Bool
  | .non => true
  | _ => false
def OV.ptB : OV → Bool
  | .tup [v, p] => v.ratB && (p.isN || p.ratB)
  | _ => false
def OV.ptsB : OV → Bool
  | .tup l => !l.isEmpty && l.all OV.ptB
  | _ => false
def stepsB (w : Str) (c : Int) : Bool := if w = "none" then decide (2 ≤ c) else inV (.str w) ((["start", "end", "both"] : List Str).map V.str) && decide (1 ≤ c)
def OV.stB : OV → OV → Bool
  | .int c, .str w => stepsB w c
  | _, _ => false
def cvL : List OV → Bool
  | [p] => p.ptsB
  | _ => false
def cvC : List OV → Bool
  | [a, b] => a.ratB && b.ratB
  | _ => false
def cvS : List OV → Bool
  | [c, w] => c.stB w
  | _ => false
def cvK : OV → List OV → Bool
  | .str s, r => if s = "linear" then cvL r else if s = "cubic" then cvC r else if s = "steps" then cvS r else false
  | _, _ => false
def OV.cvB : OV → Bool
  | .tup (h :: r) => cvK h r
  | _ => false
end
end FC

namespace FC
open PySem L2
/-! ### defs that raise -/
abbrev excVE : List Value := [.type "ValueError", .type "Exception", .type "BaseException", .type "object"]
/-- an exception class of the program's own, ValueError's heir, without an __init__ -/
structure ExCls (K : PySem.W.Frag) (mg : Str → Option Value) (x : Str) : Prop where
  g : mg x = some (.ref (He.ga K x))
  kp : PySem.W.keepIn K (.ref (He.ga K x)) = true
  exc : PySem.W.excIn K (He.ga K x) excVE "ValueError.__new__" = true
  sub : PySem.W.subIn K (.ref (He.ga K x)) (.type "BaseException") = some true
  ty : PySem.W.typeIn K (.ref (He.ga K x)) = some (.type "type")
/-- the classes of l: each to be raised; which of them catches which -/
structure ExAll (K : PySem.W.Frag) (mg : Str → Option Value) (l : List Str) : Prop where
  cls : ∀ x ∈ l, ExCls K mg x
  exm : ∀ x ∈ l, ∀ y ∈ l, PySem.W.exmOne K (.ref (He.ga K x)) (.ref (He.ga K y)) = some (decide (x = y) || decide (y = "CueError"))
section
variable {P : Program} {w : World} {K : PySem.W.Frag} {mg : Str → Option Value} {base : Heap}
theorem pmk_cls {X : Cx} {x m : Str} {j : Nat} {p p2 pos : Pos} (C : ExCls X.K X.mg x) (hg : Gl X x := by rfl) (hdb : (x == ("__debug__" : Str)) = false := by decide) :
    PMk X (.Call (.Name x p) [.Constant (.str m) j p2] [] pos) (fun _ H Q => Q (.ref (He.ga X.K x)) none H) :=
  pmk_own PySem.F.excBase_ValueError C.exc C.g C.kp (raises_own C.sub C.ty) hg hdb
/-- raise x('m'), in a def -/
theorem ps_rz {N : List Str} {qual : Str} {scope : Scope} {f : Addr} {cd : Value} {A : Around} {outer : List Env} {s : Shared} {H : Hp} {E : XK} {x m : Str} {j : Nat} {p p2 pos rpos : Pos} (C : ExCls K mg x)
    (hg : Gl (cxOf (L2.CX P w) P w K mg base N qual scope f cd A outer s H E) x := by rfl) (hdb : (x == ("__debug__" : Str)) = false := by decide) :
    PS (cxOf (L2.CX P w) P w K mg base N qual scope f cd A outer s H E) (.Raise (some (.Call (.Name x p) [.Constant (.str m) j p2] [] pos)) none rpos) (fun _ _ H' => E (.ref (He.ga K x)) none H') :=
  ps_raise (W := fun cls d _ H => E cls d H) rfl (takes_of rfl rfl rfl rfl) (pmk_cls C hg hdb)
/-- as Good, for a def that may raise -/
structure GoodX (P : Program) (w : World) (K : PySem.W.Frag) (mg : Str → Option Value) (base : Heap) (x : Str) (k : Nat) (ps : List Str) (sp : Sp) : Prop where
  g : mg x = some (.ref (He.ga K x))
  kp : PySem.W.keepIn K (.ref (He.ga K x)) = true
  fn : ∃ fd, Binds K fd ps [] ∧ FnOk P w K mg base (L2.CX P w) k (He.ga K x) fd ps sp
/-- what such a def does where it raises nothing -/
theorem calmF {k : Nat} {f : Addr} {fd : FuncData} {ps : List Str} {sp sp' : Sp} (F : FnOk P w K mg base (L2.CX P w) k f fd ps sp) (h : ∀ vs H Q E, sp' vs H Q E → sp vs H Q (fun _ _ _ => False)) : FnOk P w K mg base CX0 k f fd ps sp' := by
  refine ⟨fun vs H Q E q => F.len vs H Q _ (h _ _ _ _ q), fun A outer s H args us vs Q E hr he hb hv hs => ?_⟩
  refine codeAny_mono (F.run A outer s H args us vs Q (fun _ _ _ => False) hr he hb hv (h _ _ _ _ hs)) fun r s' q => ?_
  cases r with
  | ok fl => cases fl <;> exact q
  | error e =>
    obtain ⟨_, _, _, _, _, _, _, _, _, _, _, _, z⟩ := (show L2.CX P w outer H s (fun _ _ _ => False) e s' from q)
    exact z.elim
/-- the same, as Good -/
theorem GoodX.calm {x : Str} {k : Nat} {ps : List Str} {sp sp' : Sp} (G : GoodX P w K mg base x k ps sp) (h : ∀ vs H Q E, sp' vs H Q E → sp vs H Q (fun _ _ _ => False)) : Good P w K mg base x k ps sp' := by
  obtain ⟨fd, hb, F⟩ := G.fn
  exact ⟨G.g, G.kp, fd, hb, calmF F h⟩
/-- by the names x, curve, before -/
def swp3 {α : Type} : List α → List α
  | [x, c, b] => [c, x, b]
  | l => l
theorem swp3_rel : ∀ {zs : List V} {ws : List Value}, Vals zs ws → Vals (swp3 zs) (swp3 ws)
  | [], [], h => h
  | [_], [_], h => h
  | [_, _], [_, _], h => h
  | [_, _, _], [_, _, _], .cons a (.cons b (.cons c .nil)) => .cons b (.cons a (.cons c .nil))
  | _ :: _ :: _ :: _ :: _, _ :: _ :: _ :: _ :: _, h => h
theorem kbindsS {x qual : Str} {params : Arguments} {body : List Stmt} {scope : Scope} {dvs : List V} {kws : List (Str × V)} {f : Addr} {fd : FuncData} {ps : List Str} (F : FunD K x qual params body scope dvs kws f fd) (ks : List Str) (hd : dvs ≠ [])
    (h : ∀ (T : Addr) (kV doc pm : Value) (an : Option Addr) (cdv ct : Value) (us its ws : List Value), us.length = 0 → its.length = dvs.length → ws.length = ks.length →
      ∃ k, bindArgs (PySem.W.fnOf x qual params body scope (.ref T) kV doc pm an cdv ct) ⟨us, ks.zip ws⟩ = seqItems? (.ref T) >>= k ∧ k (some its.toArray) = pure (ps.zip (swp3 ws))) :
    KBn K fd ps 0 ks (fun _ ws => swp3 ws) (fun _ zs => swp3 zs) := by
  obtain ⟨oc, od, dV, kV, doc, pm, an, cdv, ct, osl, rfl, lk, hcd, hD, hK⟩ := F.ex
  rcases hD with ⟨e, _⟩ | ⟨_, T, o, its, m, rfl, lT, oT, rT⟩
  · exact absurd e hd
  · refine ⟨fun s us ws X l1 l2 => ?_, fun _ r2 => swp3_rel r2⟩
    obtain ⟨k, e1, e2⟩ := h T kV doc pm an cdv ct us its ws l1 rT.length.symm l2
    refine BindsTo.of_looks fun M => ?_
    rw [e1]
    exact looks_items X lT oT (.of_pure e2)
/-- value_at, raising -/
structure GoodVX (P : Program) (w : World) (K : PySem.W.Frag) (mg : Str → Option Value) (base : Heap) (k : Nat) (sp : Sp) : Prop where
  g : mg "value_at" = some (.ref (He.ga K "value_at"))
  kp : PySem.W.keepIn K (.ref (He.ga K "value_at")) = true
  fn : ∃ fd, (∃ ds, Vals [V.bl false] ds ∧ Binds K fd psV ds) ∧ (∃ ds, Vals [] ds ∧ Binds K fd psV ds) ∧ KBn K fd psV 2 ["before"] (fun us ws => us ++ ws) (fun vs zs => vs ++ zs) ∧ KBn K fd psV 0 ["before", "x", "curve"] (fun _ ws => rev3 ws) (fun _ zs => rev3 zs) ∧ KBn K fd psV 0 ["x", "curve", "before"] (fun _ ws => swp3 ws) (fun _ zs => swp3 zs) ∧ FnOk P w K mg base (L2.CX P w) k (He.ga K "value_at") fd psV sp
theorem GoodVX.calm {k : Nat} {sp sp' : Sp} (G : GoodVX P w K mg base k sp) (h : ∀ vs H Q E, sp' vs H Q E → sp vs H Q (fun _ _ _ => False)) : GoodV P w K mg base k sp' := by
  obtain ⟨fd, h1, h2, h3, h4, _, F⟩ := G.fn
  exact ⟨G.g, G.kp, fd, h1, h2, h3, h4, calmF F h⟩
/-- f(..), which may raise -/
theorem pe_goodX {X : Cx} {W : WX} {x : Str} {k : Nat} {ps : List Str} {sp : Sp} {e : Expr} {es : List Expr} {t : TA} {p pos : Pos} (G : GoodX X.prog X.w X.K X.mg X.base x k ps sp) (hr : Room k X.A) (tk : Takes X W) (ha : PA X (e :: es) t) (hg : Gl X x := by rfl) (hdb : (x == ("__debug__" : Str)) = false := by decide)
    (he : starEach (e :: es) X.env = (false, eval e X.env) :: starEach es X.env := by rfl) (hpl : (backTo pos (starEach es X.env)).any (·.1) = false := by rfl) : PE X (.Call (.Name x p) (e :: es) [] pos) (tCallS sp (WE W) t) := by
  obtain ⟨fd, hb, F⟩ := G.fn
  exact pe_callS F hr hg G.g G.kp hb (passAt tk) ha hdb he hpl
/-! ### data as things of all kinds -/
mutual
def OV.of : PyData → OV
  | .none => .non
  | .bool b => .bl b
  | .int i => .int i
  | .str x => .str x
  | .list l => .lst (OV.ofs l)
  | .tuple l => .tup (OV.ofs l)
  | .dict _ => .dct
def OV.ofs : List PyData → List OV
  | [] => []
  | d :: ds => OV.of d :: OV.ofs ds
end
mutual
theorem It.od {H : Hp} : ∀ (d : PyData) (v : V), It K H v d → Od K H v (OV.of d)
  | .none, _, h => by cases h; exact .non
  | .bool b, _, h => by cases h; exact .bl b
  | .int i, _, h => by cases h; exact .int i
  | .str x, _, h => by cases h; exact .str x
  | .list ds, _, h => by cases h
  | .tuple ds, _, h => by
    cases h with
    | tup s a => exact .tup s (It.ods ds _ a)
  | .dict _, _, h => by cases h
theorem It.ods {H : Hp} : ∀ (ds : List PyData) (vs : List V), ItAll K H vs ds → OdAll K H vs (OV.ofs ds)
  | [], _, h => by cases h; exact .nil
  | d :: ds, _, h => by
    cases h with
    | cons a b => exact .cons (It.od d _ a) (It.ods ds _ b)
end
theorem ratB_fr (q : Rat) : (OV.of (frD q)).ratB = true := by
  have e : (OV.of (frD q)).ratB = (decide ((q.den : Int) = 1) || (decide (1 < (q.den : Int)) && decide (((Nat.gcd q.num.natAbs (q.den : Int).natAbs : Nat) : Int) = 1))) := rfl
  have g : Nat.gcd q.num.natAbs (q.den : Int).natAbs = 1 := q.reduced
  rw [e, g]
  by_cases h : (q.den : Int) = 1
  · rw [decide_eq_true h]
    rfl
  · have p := q.den_pos
    have l : 1 < (q.den : Int) := by omega
    rw [decide_eq_true l]
    cases decide ((q.den : Int) = 1) <;> rfl
theorem ptB_of (p : Rat × Option Rat) : (OV.of (ptD p)).ptB = true := by
  obtain ⟨a, x⟩ := p
  have e : (OV.of (ptD (a, x))).ptB = ((OV.of (frD a)).ratB && ((OV.of (oD x)).isN || (OV.of (oD x)).ratB)) := rfl
  rw [e, ratB_fr, Bool.true_and]
  cases x with
  | none => rfl
  | some q =>
    have z : (OV.of (oD (some q))).ratB = true := ratB_fr q
    rw [z, Bool.or_true]
theorem allB_of : ∀ P : List (Rat × Option Rat), (OV.ofs (P.map ptD)).all OV.ptB = true
  | [] => rfl
  | p :: P => by
    show ((OV.of (ptD p)).ptB && (OV.ofs (P.map ptD)).all OV.ptB) = true
    rw [ptB_of, allB_of P]
    rfl
theorem ptsB_of {P : List (Rat × Option Rat)} (h : 0 < P.length) : (OV.of (.tuple (P.map ptD))).ptsB = true := by
  have e : (OV.of (.tuple (P.map ptD))).ptsB = (!(OV.ofs (P.map ptD)).isEmpty && (OV.ofs (P.map ptD)).all OV.ptB) := rfl
  rw [e, allB_of]
  cases P with
  | nil => exact absurd h (by simp)
  | cons p P => rfl
theorem stB_of {n : Int} {w : Wh} (h : NOk n w) : stepsB w.s n = true := by
  have l := h.1
  cases w with
  | non =>
    have l : 2 ≤ n := l
    show (if (("none" : Str) = "none") then decide (2 ≤ n) else _) = true
    rw [if_pos rfl, decide_eq_true l]
  | start =>
    have l : 1 ≤ n := l
    have e : stepsB Wh.start.s n = (true && decide (1 ≤ n)) := by
      unfold stepsB
      rw [if_neg (by decide)]
      rfl
    rw [e, decide_eq_true l]
    rfl
  | fin =>
    have l : 1 ≤ n := l
    have e : stepsB Wh.fin.s n = (true && decide (1 ≤ n)) := by
      unfold stepsB
      rw [if_neg (by decide)]
      rfl
    rw [e, decide_eq_true l]
    rfl
  | both =>
    have l : 1 ≤ n := l
    have e : stepsB Wh.both.s n = (true && decide (1 ≤ n)) := by
      unfold stepsB
      rw [if_neg (by decide)]
      rfl
    rw [e, decide_eq_true l]
    rfl
theorem cvK_s (s : Str) (r : List OV) : cvK (.str s) r = if s = "linear" then cvL r else if s = "cubic" then cvC r else if s = "steps" then cvS r else false := rfl
theorem cvB_of {n : Nat} {c : Cv} (ok : CvOk n c) : (OV.of (cvD c)).cvB = true := by
  cases c with
  | lin P =>
    have e : (OV.of (cvD (.lin P))).cvB = cvK (.str "linear") [OV.of (.tuple (P.map ptD))] := rfl
    rw [e, cvK_s, if_pos rfl]
    exact ptsB_of ok.pos
  | cub a b =>
    have e : (OV.of (cvD (.cub a b))).cvB = cvK (.str "cubic") [OV.of (frD a), OV.of (frD b)] := rfl
    rw [e, cvK_s, if_neg (by decide), if_pos rfl]
    show ((OV.of (frD a)).ratB && (OV.of (frD b)).ratB) = true
    rw [ratB_fr, ratB_fr]
    rfl
  | stp n w =>
    have e : (OV.of (cvD (.stp n w))).cvB = cvK (.str "steps") [.int n, .str w.s] := rfl
    rw [e, cvK_s, if_neg (by decide), if_neg (by decide), if_pos rfl]
    exact stB_of ok
/-- a curve as a thing of all kinds -/
theorem It.cv {H : Hp} {v : V} {n : Nat} {c : Cv} (h : It K H v (cvD c)) (ok : CvOk n c) : ∃ d, Od K H v d ∧ d.cvB = true := ⟨_, It.od _ _ h, cvB_of ok⟩
end
end FC

namespace FC
open PySem PySem.Spec PyProof.Rows L2
/-! ### lambdas that are kept -/
/-- a lambda as it is written, in the def of the name q -/
structure Lm where
  q : Str
  params : Arguments
  body : Expr
  scope : Scope
abbrev lamFd (L : Lm) (clo : List (Str × Addr)) (dV pm : Value) (c' : Addr) (ctv : Value) : FuncData :=
  { name := "<lambda>", qualname := L.q, params := L.params, body := .expr L.body, scope := L.scope, globals := mainGlobals, closure := clo, defaults := dV, kwdefaults := .none, doc := .none, pyModule := pm, annotations := none, code := .ref c', closureTuple := ctv, builtins := builtinsNs }
abbrev lamOb (L : Lm) (clo : List (Str × Addr)) (dV pm : Value) (c' : Addr) (ctv : Value) : Obj := { cls := .type "function", data := .func (lamFd L clo dV pm c' ctv) }
/-- the cells that a lambda reads, at a state of its maker -/
structure CapOk (N : List Str) (σ : L2.St) (sc : Scope) (clo : List (Str × Addr)) (H : Hp) (h : Heap) : Prop where
  cell : ∀ y c, clo.lookup y = some c → ∃ v, h.IsCell c v
  freeC : ∀ y c, clo.lookup y = some c → H c = none
  inj : ∀ y z c, clo.lookup y = some c → clo.lookup z = some c → y = z
  has : ∀ y, sc.names.lookup y = some .free → ∃ c, clo.lookup y = some c
  val : ∀ (i : Nat) y v, N[i]? = some y → σ[i]? = some (some v) → sc.names.lookup y = some .free → ∃ u c, RelV v u ∧ clo.lookup y = some c ∧ h.IsCell c (some u)
theorem CapOk.keep {N : List Str} {σ : L2.St} {sc : Scope} {clo : List (Str × Addr)} {H H' : Hp} {h h' : Heap} {fs ex : List Addr} (C : CapOk N σ sc clo H h) (un : Un fs ex H H' h h') (hx : ∀ y c, clo.lookup y = some c → c ∉ ex) : CapOk N σ sc clo H' h' := by
  have ck : ∀ {y c v}, clo.lookup y = some c → h.IsCell c v → h'.IsCell c v := fun {y c v} e ⟨o, ho, hd⟩ => by
    obtain ⟨sl, q⟩ := un.any ho (C.freeC y c e) (hx y c e)
    exact ⟨_, q, hd⟩
  refine ⟨fun y c e => ?_, fun y c e => ?_, C.inj, C.has, fun i y v e1 e2 e3 => ?_⟩
  · obtain ⟨v, z⟩ := C.cell y c e
    exact ⟨v, ck e z⟩
  · obtain ⟨v, o, ho, _⟩ := C.cell y c e
    exact un.free c o ho (C.freeC y c e) (hx y c e)
  · obtain ⟨u, c, r, e, z⟩ := C.val i y v e1 e2 e3
    exact ⟨u, c, r, e, ck e z⟩
/-- at the maker itself -/
theorem CapOk.of {X : Cx} {pins : List (Addr × Obj)} {σ : L2.St} {H : Hp} {s : Shared} {sc : Scope} (I : Inv X pins σ H s) (hu : ∀ y ∈ sc.names, sc.names.lookup y.1 = some y.2)
    (hf : ∀ y ∈ sc.names, y.2 = .free → X.env.scope.names.lookup y.1 = some .cell ∨ X.env.scope.names.lookup y.1 = some .free) : CapOk X.N σ sc (cloFrom X.env.cells sc.names []) H s.heap := by
  have hfree : ∀ y ∈ sc.names, y.2 = .free → ∃ c, X.env.cells.lookup y.1 = some c := fun y hy e => (hf y hy e).elim (fun k => I.ok.has _ (.inl k)) (fun k => I.ok.has _ (.inr k))
  have cm : ∀ {y c}, (cloFrom X.env.cells sc.names []).lookup y = some c → X.env.cells.lookup y = some c := fun {y c} e => by
    rcases cloFrom_mem (PySem.mem_of_lookup e) with hm | ⟨h1, h2⟩
    · cases hm
    · obtain ⟨c1, hc⟩ := hfree _ h1 rfl
      have hc : X.env.cells.lookup y = some c1 := hc
      have e2 : c = c1 := by
        rw [h2, hc] <;> rfl
      rw [e2]
      exact hc
  have look : ∀ {y}, sc.names.lookup y = some .free → ∃ c, (cloFrom X.env.cells sc.names []).lookup y = some c := fun {y} hl => mem_lookup (cloFrom_has (cells := X.env.cells) (acc := []) (PySem.mem_of_lookup hl))
  refine ⟨fun y c e => I.cell y c (cm e), fun y c e => I.freeC y c (cm e), fun y z c e1 e2 => I.ok.inj y z c (cm e1) (cm e2), fun y hy => look hy, fun i y v e1 e2 e3 => ?_⟩
  obtain ⟨m, hn, hl⟩ := I.loc
  have hvis : Vis X.env.scope y := (hf _ (PySem.mem_of_lookup e3) rfl).elim (fun k => .inr (.inl k)) (fun k => .inr (.inr k))
  obtain ⟨u, r, q⟩ := hl i y v e1 e2 hvis
  obtain ⟨c2, h2⟩ := look e3
  refine ⟨u, c2, r, h2, ?_⟩
  rcases q with ⟨k', _⟩ | ⟨_, c3, e', z⟩
  · have k' : X.env.scope.names.lookup y = some .local := k'
    rcases hf _ (PySem.mem_of_lookup e3) rfl with k2 | k2 <;> rw [show X.env.scope.names.lookup y = _ from k2] at k' <;> cases k'
  · have c1 := cm h2
    rw [c1] at e'
    cases e'
    exact z
/-- the names of a lambda: captured ones, globals, parameters that it doesn't read -/
structure LamW (N : List Str) (sc : Scope) : Prop where
  kind : sc.kind = .function
  co : sc.isCoroutine = false
  gen : sc.isGenerator = false
  cell : ∀ y ∈ sc.names, y.2 ≠ .cell
  loc : ∀ y ∈ N, sc.names.lookup y ≠ some .local
abbrev lamE (L : Lm) (loc f c' : Addr) (clo : List (Str × Addr)) : Env := PySem.W.envX L.q L.scope loc f (.ref c') clo
/-- the context of the lambda's body, entered at s from the frames outer -/
def lamC (P : Program) (w : World) (K : PySem.W.Frag) (mg : Str → Option Value) (base : Heap) (N : List Str) (A : Around) (outer : List Env) (s : Shared) (H : Hp) (E : XK) (L : Lm) (f c' : Addr) (clo : List (Str × Addr)) : Cx where
  prog := P
  w := w
  K := K
  mg := mg
  base := base
  A := A.deeper (lamE L s.heap.objs.size f c' clo)
  N := N
  s_0 := s
  H_0 := H
  env := lamE L s.heap.objs.size f c' clo
  outer := outer
  stack := lamE L s.heap.objs.size f c' clo :: outer
  ex := []
  fn := fun _ => false
  calm := true
  pn := []
  xe := fun e s' => wpAny (model P w) (A.deeper (lamE L s.heap.objs.size f c' clo)) (leaving (lamE L s.heap.objs.size f c' clo) e) (fun _ s'' => L2.CX P w outer H s E e s'') (fun e' s'' => L2.CX P w outer H s E e' s'') s'
section
variable {P : Program} {w : World} {K : PySem.W.Frag} {mg : Str → Option Value} {base : Heap}
theorem lam_start3 {N : List Str} {A : Around} {outer : List Env} {E : XK} {L : Lm} {f c' : Addr} {clo : List (Str × Addr)} {h₁ : Heap} {tk : Nat} {s : Shared} {H : Hp} {σ : L2.St} {m : Str → Option Value} (W : LamW N L.scope) (e0 : Env0 P w K mg base A outer s H) (hd : A.handled = none)
    (C : CapOk N σ L.scope clo H s.heap) (len : σ.length = N.length) (hns : h₁.Ns s.heap.objs.size m) (kp : ∀ b o, s.heap.get? b = some o → h₁.get? b = some o) :
    Inv (lamC P w K mg base N A outer s H E L f c' clo) [] σ H { s with heap := h₁, toks := tk } := by
  have noA : ∀ b : Addr, b ∉ (lamC P w K mg base N A outer s H E L f c' clo).ex := fun b z => absurd (show b ∈ ([] : List Addr) from z) (by simp)
  refine ⟨⟨e0.mod, W.kind, rfl, rfl, Nat.le_refl _, C.inj, fun y hy => ?_, fun y c z _ => ?_, fun _ => hd, Around.frames_deeper e0.frames, .inr ⟨rfl, rfl⟩, fun b z => absurd z (noA b), e0.bs, e0.bsz, fun b _ _ => noA b,
      fun b z => absurd z (noA b), e0.funs, e0.frf⟩,
    rfl, e0.bare, Un.kept kp, ⟨_, hns, fun i y v e1 e2 e3 => ?_⟩, fun y c e => ?_, e0.hok.fresh (Nat.le_refl _), fun y c e => C.freeC y c e, fun q hq => absurd (show q ∈ ([] : List (Addr × Obj)) ++ [] from hq) (by simp), e0.hok.kept kp, len⟩
  · have hy : L.scope.names.lookup y = some .cell ∨ L.scope.names.lookup y = some .free := hy
    rcases hy with hy | hy
    · exact absurd rfl (W.cell _ (PySem.mem_of_lookup hy))
    · exact C.has y hy
  · have z : false = true := z
    cases z
  · have e3 : Vis L.scope y := e3
    rcases e3 with k | k | k
    · exact absurd k (W.loc y (List.mem_of_getElem? e1))
    · exact absurd rfl (W.cell _ (PySem.mem_of_lookup k))
    · obtain ⟨u, c, r, e, z⟩ := C.val i y v e1 e2 k
      exact ⟨u, r, .inr ⟨.inr k, c, e, z.keeps kp⟩⟩
  · obtain ⟨v, z⟩ := C.cell y c e
    exact ⟨v, z.keeps kp⟩
/-- what a lambda's defaults lie in -/
def DV (H : Hp) (dV : Value) (dfl : List V) : Prop := (dfl = [] ∧ dV = .none) ∨ ∃ T, dV = .ref T ∧ dfl ≠ [] ∧ H T = some (.tup dfl)
/-- the object at f is the lambda L, made with the cells clo -/
def FnO (H : Hp) (f : Addr) (L : Lm) (clo : List (Str × Addr)) (dfl : List V) : Prop :=
  ∃ (dV pm : Value) (c' : Addr) (ctv : Value), H f = some (.ext fun h => h.get? f = some (lamOb L clo dV pm c' ctv)) ∧ H c' = some (LamX.CodeO c' L.q) ∧ DV H dV dfl
/-- called without an argument -/
def Bds (L : Lm) (dfl : List V) : Prop := ∀ (P : Program) (w : World) (A : Around) (H : Hp) (s : Shared) (clo : List (Str × Addr)) (dV pm : Value) (c' : Addr) (ctv : Value), HOk P w H s.heap → DV H dV dfl →
  ∃ bs : List (Str × Value), (∀ y ∈ bs, L.scope.names.lookup y.1 = some .local) ∧ ∀ (Q : List (Str × Value) → Shared → Prop) (E : Value → Shared → Prop), Q bs s → wpAny (model P w) A (bindArgs (lamFd L clo dV pm c' ctv) ⟨[], []⟩) Q E s
/-- x(), where x holds a lambda -/
theorem pe_actF {Z : Cx} {W : WX} {E : XK} {N : List Str} {σ : L2.St} {L : Lm} {f : Addr} {clo : List (Str × Addr)} {dfl : List V} {tb : TE} {k i : Nat} {a : Str} {p1 p2 : Pos} (LW : LamW N L.scope) (hex : Z.ex = []) (C : CapOk N σ L.scope clo Z.H_0 Z.s_0.heap) (len : σ.length = N.length)
    (hb : Bds L dfl) (tk : Takes Z W) (hW : ∀ cls d σ' H', E cls d H' → W cls d σ' H') (hr : Room (k + 1) Z.A)
    (hbody : ∀ (A : Around) (outer : List Env) (s : Shared) (H : Hp) (c' : Addr), Room k (A.deeper (lamE L s.heap.objs.size f c' clo)) → PE (lamC Z.prog Z.w Z.K Z.mg Z.base N A outer s H E L f c' clo) L.body tb)
    (hN : Z.N[i]? = some a) (hv : Vis Z.env.scope a) (hd : (a == ("__debug__" : Str)) = false := by decide) (hcd : (a == ("__classdict__" : Str)) = false := by decide) :
    PE Z (.Call (.Name a p1) [] [] p2) (fun σZ HZ Q => σZ[i]? = some (some (.ref f)) ∧ FnO HZ f L clo dfl ∧ tb σ HZ Q) := by
  refine ⟨fun pinsZ sZ σZ HZ Q IZ h => ?_⟩
  obtain ⟨hs, ⟨dV, pm, c', ctv, hF, hc, hDV⟩, ht⟩ := h
  refine wpAny_Call_Name_kw (thn ((pe_var (pos := p1) (i := i) hN hv hd hcd).run pinsZ sZ σZ HZ (fun v H1 => v = .ref f ∧ H1 = HZ) IZ ⟨.ref f, hs, rfl, rfl⟩) fun u s1 ⟨v, H1, I1, r1, q1⟩ => ?_)
  obtain ⟨ev, eH⟩ := q1
  subst ev
  rw [eH] at I1
  obtain rfl : u = Value.ref f := r1
  have of1 : s1.heap.get? f = some (lamOb L clo dV pm c' ctv) := (I1.hok f _ hF).1
  refine PySem.W.callWith_F0 ⟨_, _, _, _, of1⟩ ?_
  have CZ : CapOk N σ L.scope clo HZ s1.heap := C.keep I1.base fun y c _ z => by
    rw [hex] at z
    exact absurd z (by simp)
  obtain ⟨⟨oc, vs, t, hoc, hdc, hvc⟩, _, _⟩ := I1.hok c' _ hc
  have rc : codeAny (model Z.prog Z.w) Z.A (.call (.ref f) ⟨[], []⟩) (CR (L2.CX Z.prog Z.w) Z.stack Z.prog Z.w HZ s1 Q E) s1 := by
    refine PySem.W.kla_callFunE hr.depth of1 rfl LW.co LW.gen rfl ⟨c', oc, vs, t, rfl, hoc, hdc, hvc⟩ ?_
    obtain ⟨bs, hl, hbs⟩ := hb Z.prog Z.w Z.A.in1 HZ s1 clo dV pm c' ctv I1.hok hDV
    refine hbs _ _ ?_
    refine wpAny_newFunctionEnv LW.cell hl (fun h₁ hns hsb => ⟨I1.nolimit.fresh _ hsb, ?_⟩) LW.kind
    show codeAny _ _ (.expr L.body (lamE L s1.heap.objs.size f c' clo)) _ _
    have kp : ∀ b o, s1.heap.get? b = some o → h₁.get? b = some o := fun b o e => hsb.extBut b o (Nat.ne_of_lt (Heap.lt_size e)) (Heap.get?_push_of_some _ e)
    have J := lam_start3 (E := E) (tk := s1.toks + bs.length) (f := f) (c' := c') LW I1.env0 hr.hd CZ len hns kp
    refine PySem.W.kla_codeExpr (wpAny_mono ((hbody _ _ s1 HZ c' (hr.deeper _)).run [] _ _ HZ Q J ht) (fun v s' hq => ?_) fun e s' hq => hq)
    obtain ⟨w', H', J', rv, q⟩ := hq
    exact ⟨w', H', J'.os, J'.bare, J'.base, J'.hok, rv, q⟩
  have hx : Passes (L2.CX Z.prog Z.w) Z E := passes_call tk hW
  refine wpAny_call (codeAny_mono rc fun r s' hq => ?_)
  cases r with
  | error e => exact hx pinsZ σZ HZ s1 e s' I1 hq
  | ok fl =>
    cases fl with
    | ret u => exact I1.after hq
    | next => exact False.elim hq
    | brk => exact False.elim hq
    | cont => exact False.elim hq
end
end FC

namespace FC
open PySem PySem.Spec PyProof.Rows L2
/-! ### lambdas made -/
/-- the tables, when a code object has been written into one of them -/
theorem tabs_new {T : List (Addr × Str)} {H : Hp} {P c' : Addr} {q : Str} {ps : Array Value} {pos : Pos} (hT : LamX.Tabs T H) (hP : H P = some (.tbl ps)) (ht : TriplesOk ps.toList) (ha : ∀ (pos : Pos) (cv : Value), codeAmong pos ps.toList = some cv → ∃ c, cv = .ref c ∧ H c = some (LamX.CodeO c q))
    (hu : ∀ p ∈ T, p.1 = P → p.2 = q) (nC : H c' = none) :
    LamX.ExtN H (upd (upd H P (.tbl (ps ++ #[rawInt pos.line, rawInt pos.col, .ref c']))) c' (LamX.CodeO c' q)) ∧ LamX.Tabs T (upd (upd H P (.tbl (ps ++ #[rawInt pos.line, rawInt pos.col, .ref c']))) c' (LamX.CodeO c' q)) := by
  have hE : LamX.ExtN H (upd (upd H P (.tbl (ps ++ #[rawInt pos.line, rawInt pos.col, .ref c']))) c' (LamX.CodeO c' q)) := fun b o e n => by
    rw [upd_ne (ne_of_none e nC), upd_ne (fun z => n ps (Option.some.inj (e.symm.trans (by rw [z]; exact hP))))]
    exact e
  refine ⟨hE, fun p hp => ?_⟩
  by_cases hb : p.1 = P
  · have eL : (ps ++ #[rawInt pos.line, rawInt pos.col, .ref c']).toList = ps.toList ++ [rawInt pos.line, rawInt pos.col, .ref c'] := by simp
    rw [hu p hp hb, hb]
    refine ⟨_, by rw [upd_ne (ne_of_none hP nC), upd_same], by rw [eL]; exact PySem.TriplesOk_snoc _ _ _ _ ht, fun p' cv hcv => ?_⟩
    rw [eL] at hcv
    rcases LamX.among_app _ ht hcv with z | z
    · obtain ⟨c0, e1, e2⟩ := ha p' cv z
      exact ⟨c0, e1, hE _ _ e2 LamX.codeO_ne⟩
    · exact ⟨c', z, upd_same⟩
  · obtain ⟨ps', a1, a2, a3⟩ := hT p hp
    refine ⟨ps', by rw [upd_ne (ne_of_none a1 nC), upd_ne hb]; exact a1, a2, fun p' cv hcv => ?_⟩
    obtain ⟨c0, e1, e2⟩ := a3 p' cv hcv
    exact ⟨c0, e1, hE _ _ e2 LamX.codeO_ne⟩
section
variable {X : Cx} {pins : List (Addr × Obj)} {σ : L2.St} {H : Hp} {s : Shared}
/-- the object itself, made last -/
theorem lam_laid {L : Lm} {clo : List (Str × Addr)} {dV pm ctv : Value} {c' : Addr} {dfl : List V} {h' : Heap} {tk : Nat} (I : Inv X pins σ H { s with heap := h', toks := tk }) (hc : H c' = some (LamX.CodeO c' L.q)) (hDV : DV H dV dfl) :
    ∃ H1, Inv X pins σ H1 { s with heap := h'.push (lamOb L clo dV pm c' ctv), toks := tk } ∧ (∀ b o, H b = some o → H1 b = some o) ∧ FnO H1 h'.objs.size L clo dfl ∧ H h'.objs.size = none := by
  have nF : H h'.objs.size = none := I.hok.fresh (Nat.le_refl _)
  have ext : ∀ b o, H b = some o → upd H h'.objs.size (.ext fun h => h.get? h'.objs.size = some (lamOb L clo dV pm c' ctv)) b = some o := fun b o e => by
    rw [upd_ne (ne_of_none e nF)]
    exact e
  refine ⟨_, I.laid (a := h'.objs.size) (o := .ext fun h => h.get? h'.objs.size = some (lamOb L clo dV pm c' ctv)) (t' := tk) (fun b o e => Heap.get?_push_of_some _ e) (Nat.le_refl _) ⟨Heap.get?_push_size _ rfl, ⟨_, Heap.get?_push_size _ rfl⟩, fun h1 h2 e st => st _ e⟩, ext, ⟨dV, pm, c', ctv, upd_same, ext _ _ hc, ?_⟩, nF⟩
  rcases hDV with z | ⟨T, e1, e2, e3⟩
  · exact .inl z
  · exact .inr ⟨T, e1, e2, ext _ _ e3⟩
theorem lam_mk {T : List (Addr × Str)} {c P : Addr} {L : Lm} {pos : Pos} {dV : Value} {dfl : List V} {E Q : Value → Shared → Prop} (I : Inv X pins σ H s) (TB : LamX.TabB X.base X.mg c P) (hcode : X.env.code = .ref c)
    (hm : (P, L.q) ∈ T) (hu : ∀ p ∈ T, p.1 = P → p.2 = L.q) (hT : LamX.Tabs T H) (hDV : DV H dV dfl) (hfree : ∀ y ∈ L.scope.names, y.2 = .free → ∃ c, X.env.cells.lookup y.1 = some c) (hne : ∃ y ∈ L.scope.names, y.2 = .free)
    (h : ∀ f H1 s', Inv X pins σ H1 s' → LamX.ExtN H H1 → LamX.Tabs T H1 → FnO H1 f L (cloFrom X.env.cells L.scope.names []) dfl → Q (.ref f) s') :
    wpAny (model X.prog X.w) X.A (makeTail "<lambda>" L.q L.params (.expr L.body) L.scope X.env dV .none none pos pos.line) Q E s := by
  obtain ⟨ps, hP, ht, ha⟩ := hT _ hm
  have hE : (cloFrom X.env.cells L.scope.names []).isEmpty = false := by
    obtain ⟨⟨y, k⟩, hy, e⟩ := hne
    have e : k = .free := e
    subst e
    have m := cloFrom_has (cells := X.env.cells) (acc := []) hy
    cases z : cloFrom X.env.cells L.scope.names [] with
    | nil =>
      rw [z] at m
      cases m
    | cons _ _ => rfl
  unfold makeTail
  rw [closure_ok hfree, I.ok.glob]
  refine wpAny_bind (wpAny_pure ?_)
  rw [hE]
  simp only [Bool.false_eq_true, if_false]
  refine wpAny_bind (wpAny_newTextTuple ?_)
  generalize hs1 : ({ s with heap := s.heap.push { cls := .type "tuple", data := .seq (((cloFrom X.env.cells L.scope.names []).mergeSort fun a b => a.1.cps.toList ≤ b.1.cps.toList).map (.ref ·.2)).toArray } } : Shared) = s1
  have I1 : Inv X pins σ H s1 := by
    rw [← hs1]
    exact I.kept (t' := s.toks) fun b o e => Heap.get?_push_of_some _ e
  have bP : s1.heap.BuiltinsAt X.mg P := TB.bm.keeps I1.bk
  have hP' : s1.heap.get? P = some { cls := .none, data := .fields ps } := I1.hok P _ hP
  have C : PySem.W.CodeHd s1.heap c P := TB.code.keeps I1.bk
  have hg := I1.mod.glob.keeps I1.bk
  obtain ⟨bm, ob, hbm, hne0, _, hneP, hbo, hcls, hdict, hdata⟩ := bP
  cases hc : codeAmong pos ps.toList with
  | none =>
    refine wpAny_bind (wpAny_functionCodeX hcode (C.code hP' ht) (C.tab hP') hc fun c' h' tk hx hge hlt _ hrec htb _ => ?_)
    have hg' := hg.extBut hx TB.gP
    refine wpAny_bind (wpAny_builtinsFor hg' hbm hne0 (hx _ _ hneP hbo) hcls hdict hdata ?_)
    refine wpAny_bind (wpAny_nsGet hg' ?_)
    refine wpAny_bind (wpAny_pure (wpAny_newObj_type ?_ (by size_fits)))
    obtain ⟨c2, oc, vs, t, e2, hoc, hd, hv⟩ := hrec
    cases e2
    have I2 := LamX.inv_table (t' := tk) (more := #[rawInt pos.line, rawInt pos.col, .ref c']) (h' := h') I1 hP (fun b o hb e => hx b o hb e) htb.2 hge ⟨oc, vs, t, hoc, hd, hv⟩
    obtain ⟨eN, T2⟩ := tabs_new (pos := pos) hT hP ht ha hu (I1.hok.fresh hge)
    obtain ⟨H1, I3, ext, fo, nF⟩ := lam_laid (L := L) (clo := cloFrom X.env.cells L.scope.names []) (dV := dV) (dfl := dfl) (pm := (X.mg "__name__").getD .none) (ctv := .ref s.heap.objs.size) I2 upd_same (by
      rcases hDV with z | ⟨T0, e1, e2, e3⟩
      · exact .inl z
      · exact .inr ⟨T0, e1, e2, eN _ _ e3 fun _ z => by cases z⟩)
    exact h _ H1 _ I3 (eN.trans (LamX.ExtN.of ext)) (T2.ext ext) fo
  | some cv =>
    obtain ⟨c', e, hco⟩ := ha pos cv hc
    subst e
    refine wpAny_bind (wpAny_functionCode_hit hcode (C.code hP' ht) hc ?_)
    refine wpAny_bind (wpAny_builtinsFor hg hbm hne0 hbo hcls hdict hdata ?_)
    refine wpAny_bind (wpAny_nsGet hg ?_)
    refine wpAny_bind (wpAny_pure (wpAny_newObj_type ?_ (by size_fits)))
    obtain ⟨H1, I3, ext, fo, nF⟩ := lam_laid (L := L) (clo := cloFrom X.env.cells L.scope.names []) (dV := dV) (dfl := dfl) (pm := (X.mg "__name__").getD .none) (ctv := .ref s.heap.objs.size) (tk := s1.toks) (h' := s1.heap) (s := s1) I1 hco hDV
    exact h _ H1 _ I3 (LamX.ExtN.of ext) (hT.ext ext) fo
/-- lambda: .. -/
theorem lam_ev0 {T : List (Addr × Str)} {c P : Addr} {params : Arguments} {body : Expr} {scope : Scope} {pos : Pos} {E Q : Value → Shared → Prop} (I : Inv X pins σ H s) (TB : LamX.TabB X.base X.mg c P) (hcode : X.env.code = .ref c)
    (hm : (P, X.env.qual ++ "<lambda>") ∈ T) (hu : ∀ p ∈ T, p.1 = P → p.2 = X.env.qual ++ "<lambda>") (hT : LamX.Tabs T H) (hdef : defaultsOf params X.env = ([], [])) (hfree : ∀ y ∈ scope.names, y.2 = .free → ∃ c, X.env.cells.lookup y.1 = some c) (hne : ∃ y ∈ scope.names, y.2 = .free)
    (h : ∀ f H1 s', Inv X pins σ H1 s' → LamX.ExtN H H1 → LamX.Tabs T H1 → FnO H1 f ⟨X.env.qual ++ "<lambda>", params, body, scope⟩ (cloFrom X.env.cells scope.names []) [] → Q (.ref f) s') :
    wpAny (model X.prog X.w) X.A (eval (.Lambda params body scope pos) X.env) Q E s := by
  refine PySem.W.kla_eval hdef ?_
  rw [makeFunction_eq]
  simp only [List.zip_nil_right, List.filterMap_nil, List.isEmpty_nil, if_true, pure_bind]
  exact lam_mk (L := ⟨X.env.qual ++ "<lambda>", params, body, scope⟩) I TB hcode hm hu hT (.inl ⟨rfl, rfl⟩) hfree hne h
/-- lambda x=n: .. -/
theorem lam_ev1 {T : List (Addr × Str)} {c P : Addr} {params : Arguments} {body : Expr} {scope : Scope} {pos ipos : Pos} {n : Int} {j : Nat} {E Q : Value → Shared → Prop} (I : Inv X pins σ H s) (TB : LamX.TabB X.base X.mg c P) (hcode : X.env.code = .ref c)
    (hm : (P, X.env.qual ++ "<lambda>") ∈ T) (hu : ∀ p ∈ T, p.1 = P → p.2 = X.env.qual ++ "<lambda>") (hT : LamX.Tabs T H) (hdef : defaultsOf params X.env = ([eval (.Constant (.int n) j ipos) X.env], [])) (hfree : ∀ y ∈ scope.names, y.2 = .free → ∃ c, X.env.cells.lookup y.1 = some c) (hne : ∃ y ∈ scope.names, y.2 = .free)
    (h : ∀ f H1 s', Inv X pins σ H1 s' → LamX.ExtN H H1 → LamX.Tabs T H1 → FnO H1 f ⟨X.env.qual ++ "<lambda>", params, body, scope⟩ (cloFrom X.env.cells scope.names []) [.int n] → Q (.ref f) s') :
    wpAny (model X.prog X.w) X.A (eval (.Lambda params body scope pos) X.env) Q E s := by
  rw [arm_eval_Lambda, hdef]
  show wpAny _ _ (do let dv ← evalAll [eval (.Constant (.int n) j ipos) X.env]; let kdv ← holding dv (evalAllOpt []); makeFunction "<lambda>" (X.env.qual ++ "<lambda>") params (.expr body) scope X.env dv kdv [] pos pos.line) _ _ _
  unfold evalAll
  refine wpAny_bind (wpAny_bind (thn ((pe_int (X := X) (i := n) (j := j) (pos := ipos)).run pins s σ H (fun v H1 => v = .int n ∧ H1 = H) I ⟨rfl, rfl⟩) fun u s1 ⟨v, H1, I1, r1, q1⟩ => ?_))
  obtain ⟨ev, eH⟩ := q1
  subst ev
  rw [eH] at I1
  refine wpAny_bind (wpAny_holding (wpAny_pure (wpAny_pure (wpAny_bind (wpAny_holding (wpAny_pure ?_))))))
  rw [makeFunction_eq]
  simp only [List.zip_nil_right, List.filterMap_nil, List.isEmpty_nil, List.isEmpty_cons, Bool.false_eq_true, if_false, if_true, pure_bind]
  refine wpAny_bind (wpAny_newTextTuple ?_)
  have nT : H s1.heap.objs.size = none := I1.hok.fresh (Nat.le_refl _)
  have I2 := I1.laid (a := s1.heap.objs.size) (o := .tup [.int n]) (t' := s1.toks) (h' := s1.heap.push { cls := .type "tuple", data := .seq [u].toArray }) (fun b o e => Heap.get?_push_of_some _ e) (Nat.le_refl _) ⟨by show 1 ≤ sizeLine; rw [sizeLine_eq]; omega, [u], .cons r1 .nil, IsTup.new _ _⟩
  have ext : ∀ b o, H b = some o → upd H s1.heap.objs.size (.tup [.int n]) b = some o := fun b o e => by
    rw [upd_ne (ne_of_none e nT)]
    exact e
  exact lam_mk (L := ⟨X.env.qual ++ "<lambda>", params, body, scope⟩) (dfl := [.int n]) I2 TB hcode hm hu (hT.ext ext) (.inr ⟨_, rfl, by simp, upd_same⟩) hfree hne fun f H3 s' I3 eN T3 fo => h f H3 s' I3 ((LamX.ExtN.of ext).trans eN) T3 fo
end
/-! ### called without an argument -/
theorem bds0 {L : Lm} (h : ∀ (clo : List (Str × Addr)) (pm : Value) (c' : Addr) (ctv : Value), bindArgs (lamFd L clo .none pm c' ctv) ⟨[], []⟩ = pure []) : Bds L [] := by
  intro P w A H s clo dV pm c' ctv hk hd
  rcases hd with ⟨_, rfl⟩ | ⟨_, _, z, _⟩
  · exact ⟨[], fun y hy => absurd hy (by simp), fun Q E q => by rw [h]; exact wpAny_pure q⟩
  · exact absurd rfl z
theorem bds1 {L : Lm} {x : Str} {n : Int} (hl : L.scope.names.lookup x = some .local)
    (h : ∀ (clo : List (Str × Addr)) (pm : Value) (T c' : Addr) (ctv u : Value), ∃ k : Option (Array Value) → Sem (List (Str × Value)), bindArgs (lamFd L clo (.ref T) pm c' ctv) ⟨[], []⟩ = seqItems? (.ref T) >>= k ∧ k (some #[u]) = pure [(x, u)]) : Bds L [.int n] := by
  intro P w A H s clo dV pm c' ctv hk hd
  rcases hd with ⟨z, _⟩ | ⟨T, rfl, _, hT⟩
  · cases z
  · obtain ⟨_, its, r, o, ho, hc, m, hd'⟩ := hk T _ hT
    cases r with
    | cons r0 rn =>
      rename_i u us
      cases rn
      obtain ⟨k, e1, e2⟩ := h clo pm T c' ctv u
      refine ⟨[(x, u)], fun y hy => ?_, fun Q E q => ?_⟩
      · obtain rfl := List.mem_singleton.mp hy
        exact hl
      · rw [e1]
        refine wpAny_bind (wpAny_seqItems ho hd' ?_)
        rw [e2]
        exact wpAny_pure q
/-- FunD.ok, for a def whose code object is known -/
theorem funD_okC {P : Program} {w : World} {K : PySem.W.Frag} {mg : Str → Option Value} {base : Heap} {x qual : Str} {params : Arguments} {body : List Stmt} {scope : Scope} {dvs : List V} {kws : List (Str × V)} {f c : Addr} {fd : FuncData} {CX : CXT} {N ps : List Str} {k : Nat} {sp : Sp}
    (F : FunD K x qual params body scope dvs kws f fd) (hc : fd.code = .ref c) (S : FnScope N ps scope) (len : ∀ vs H Q E, sp vs H Q E → vs.length = ps.length)
    (hbody : ∀ (A : Around) (outer : List Env) (s : Shared) (H : Hp) (vs : List V) (Q : VK) (E : XK), Room k (A.deeper (envOfC qual scope s.heap.objs.size f (.ref c))) → sp vs H Q E →
      ∃ t, PSs (cxOf CX P w K mg base N qual scope f (.ref c) A outer s H E) body t ∧ t { nx := fun _ H' => Q .non H', rt := Q } (L2.start N vs) H) : FnOk P w K mg base CX (k + 1) f fd ps sp := by
  obtain ⟨oc, od, dV, kV, doc, pm, an, cdv, ct, osl, rfl, lk, hcd, _, _⟩ := F.ex
  obtain rfl : cdv = .ref c := hc
  exact fn_of lk hcd S len fun A outer s H vs Q E hr hsp => hbody A outer s H vs Q E hr hsp
section
variable {K : PySem.W.Frag} {H H' : Hp} {p : Addr} {xs : List V}
theorem extT (e : LamX.ExtN H H') (h : SqT K H p xs) : SqT K H' p xs := by
  rcases h with (h | ⟨o, h⟩) | h
  · exact .inl (.inl (e _ _ h fun _ z => by cases z))
  · exact .inl (.inr ⟨o, e _ _ h fun _ z => by cases z⟩)
  · exact .inr h
theorem extL (e : LamX.ExtN H H') (h : SqL K H p xs) : SqL K H' p xs := by
  rcases h with (h | ⟨o, h⟩) | h
  · exact .inl (.inl (e _ _ h fun _ z => by cases z))
  · exact .inl (.inr ⟨o, e _ _ h fun _ z => by cases z⟩)
  · exact .inr h
theorem Tp.ext (e : LamX.ExtN H H') : Tp K H H' := fun _ _ h => extT e h
mutual
theorem Od.ext (e : LamX.ExtN H H') : ∀ (d : OV) (v : V), Od K H v d → Od K H' v d
  | .non, _, h => by cases h; exact .non
  | .bl b, _, h => by cases h; exact .bl b
  | .int i, _, h => by cases h; exact .int i
  | .str x, _, h => by cases h; exact .str x
  | .lst ds, _, h => by
    cases h with
    | lst a b => exact .lst (extL e a) (OdAll.ext e ds _ b)
  | .tup ds, _, h => by
    cases h with
    | tup a b => exact .tup (extT e a) (OdAll.ext e ds _ b)
  | .dct, _, h => by
    cases h with
    | dct a => exact .dct (e _ _ a fun _ z => by cases z)
theorem OdAll.ext (e : LamX.ExtN H H') : ∀ (ds : List OV) (vs : List V), OdAll K H vs ds → OdAll K H' vs ds
  | [], _, h => by cases h; exact .nil
  | d :: ds, _, h => by
    cases h with
    | cons a b => exact .cons (Od.ext e d _ a) (OdAll.ext e ds _ b)
end
theorem OdAll.mem : ∀ {vs : List V} {ds : List OV} {i : Nat} {v : V}, OdAll K H vs ds → vs[i]? = some v → ∃ d, d ∈ ds ∧ Od K H v d
  | [], [], _, _, _, e => by simp at e
  | u :: vs, d :: ds, 0, v, h, e => by
    cases h with
    | cons a b =>
      have : u = v := by simpa using e
      subst this
      exact ⟨d, List.mem_cons_self, a⟩
  | u :: vs, d :: ds, i + 1, v, h, e => by
    cases h with
    | cons a b =>
      obtain ⟨d', m, o⟩ := OdAll.mem (i := i) b (by simpa using e)
      exact ⟨d', List.mem_cons_of_mem _ m, o⟩
  | [], _ :: _, _, _, h, _ => by cases h
  | _ :: _, [], _, _, h, _ => by cases h
end
theorem tcS_ {sp : Sp} {W : L2.St → XK} {t : TA} {σ : L2.St} {H : Hp} {Q : VK} (q : t σ H fun vs H1 => sp vs H1 Q (W σ)) : tCallS sp W t σ H Q := q
def lamFB (sc scope : Scope) : Bool := scope.names.all fun y => !decide (y.2 = .free) || (decide (sc.names.lookup y.1 = some .cell) || decide (sc.names.lookup y.1 = some .free))
theorem lamF_by (sc : Scope) {scope : Scope} (h : lamFB sc scope = true) : ∀ y ∈ scope.names, y.2 = .free → sc.names.lookup y.1 = some .cell ∨ sc.names.lookup y.1 = some .free := fun y hy e => by
  have z := List.all_eq_true.mp h y hy
  rw [decide_eq_true e] at z
  simpa using z
def lamLB (N : List Str) (scope : Scope) : Bool := N.all fun y => !decide (scope.names.lookup y = some .local)
theorem lamL_by (N : List Str) {scope : Scope} (h : lamLB N scope = true) : ∀ y ∈ N, scope.names.lookup y ≠ some .local := fun y hy => by
  have z := List.all_eq_true.mp h y hy
  simpa using z
end FC

namespace FC
open PySem PySem.Spec PyProof.Rows L2
/-! ### a lambda as a value -/
/-- what is told behind the making of a lambda -/
def tLmE (Tb : List (Addr × Str)) (L : Lm) (clo : List (Str × Addr)) (dfl : List V) : TE := fun _ H Q => LamX.Tabs Tb H ∧ ∀ f H1, LamX.ExtN H H1 → LamX.Tabs Tb H1 → FnO H1 f L clo dfl → Q (.ref f) H1
section
variable {X : Cx} {Tb : List (Addr × Str)} {c Pt : Addr} {params : Arguments} {body : Expr} {scope : Scope} {pos : Pos}
theorem pe_lam0 (TB : LamX.TabB X.base X.mg c Pt) (hcode : X.env.code = .ref c) (hm : (Pt, X.env.qual ++ "<lambda>") ∈ Tb) (hu : ∀ p ∈ Tb, p.1 = Pt → p.2 = X.env.qual ++ "<lambda>") (hdef : defaultsOf params X.env = ([], []))
    (hfr : ∀ y ∈ scope.names, y.2 = .free → X.env.scope.names.lookup y.1 = some .cell ∨ X.env.scope.names.lookup y.1 = some .free) (hne : ∃ y ∈ scope.names, y.2 = .free) :
    PE X (.Lambda params body scope pos) (tLmE Tb ⟨X.env.qual ++ "<lambda>", params, body, scope⟩ (cloFrom X.env.cells scope.names []) []) := by
  refine ⟨fun pins s σ H Q I h => ?_⟩
  obtain ⟨hT, k⟩ := h
  exact lam_ev0 I TB hcode hm hu hT hdef (fun y hy e => (hfr y hy e).elim (fun k => I.ok.has _ (.inl k)) (fun k => I.ok.has _ (.inr k))) hne fun f H1 s' I1 e1 T1 fo => ⟨.ref f, H1, I1, rfl, k f H1 e1 T1 fo⟩
theorem pe_lam1 {n : Int} {j : Nat} {ipos : Pos} (TB : LamX.TabB X.base X.mg c Pt) (hcode : X.env.code = .ref c) (hm : (Pt, X.env.qual ++ "<lambda>") ∈ Tb) (hu : ∀ p ∈ Tb, p.1 = Pt → p.2 = X.env.qual ++ "<lambda>") (hdef : defaultsOf params X.env = ([eval (.Constant (.int n) j ipos) X.env], []))
    (hfr : ∀ y ∈ scope.names, y.2 = .free → X.env.scope.names.lookup y.1 = some .cell ∨ X.env.scope.names.lookup y.1 = some .free) (hne : ∃ y ∈ scope.names, y.2 = .free) :
    PE X (.Lambda params body scope pos) (tLmE Tb ⟨X.env.qual ++ "<lambda>", params, body, scope⟩ (cloFrom X.env.cells scope.names []) [.int n]) := by
  refine ⟨fun pins s σ H Q I h => ?_⟩
  obtain ⟨hT, k⟩ := h
  exact lam_ev1 I TB hcode hm hu hT hdef (fun y hy e => (hfr y hy e).elim (fun k => I.ok.has _ (.inl k)) (fun k => I.ok.has _ (.inr k))) hne fun f H1 s' I1 e1 T1 fo => ⟨.ref f, H1, I1, rfl, k f H1 e1 T1 fo⟩
end
/-- a lambda's object stays -/
theorem FnO.ext {H H' : Hp} {f : Addr} {L : Lm} {clo : List (Str × Addr)} {dfl : List V} (o : FnO H f L clo dfl) (e : LamX.ExtN H H') : FnO H' f L clo dfl := by
  obtain ⟨dV, pm, c', ctv, h1, h2, h3⟩ := o
  refine ⟨dV, pm, c', ctv, e _ _ h1 (fun _ z => HO.noConfusion z), e _ _ h2 LamX.codeO_ne, ?_⟩
  rcases h3 with z | ⟨T, e1, e2, e3⟩
  · exact .inl z
  · exact .inr ⟨T, e1, e2, e _ _ e3 fun _ z => by cases z⟩
end FC

namespace FC
open PySem PySem.Spec PyProof.Rows L2
/-- a list made by a clause: what is asked of the element may tell of the maker's slots -/
def tLcS (wi : L2.TI) (g : TG) (te : L2.St → TE) (vs : List Nat) : TE := fun σ H Q => tLc wi g tYes (te σ) vs σ H Q
theorem xlcS {K : PySem.W.Frag} {σ : L2.St} {H : Hp} {Q : VK} {g : TG} {tl : TE} {te : L2.St → TE} {vs : List Nat} (q : tl σ H (LcL K g tYes (te σ) vs σ Q)) : tLcS (iList K tl) g te vs σ H Q := q
section
variable {X : Cx}
/-- a list made by a clause whose element is read in the block, where it is still known how the maker stood as the block began -/
theorem pe_lcS {elt tg iter : Expr} {scope : Scope} {own : List (Str × Nat)} {pos : Pos} {wi : L2.TI} {g : TG} {te : L2.St → TE} (calm : X.calm = true) (nd : X.N.Nodup) (hi : PI X tg iter wi) (bk : BlkOk X.N X.env.scope scope own)
    (hg : ∀ (z : Shared) (G : Hp) (C : Addr) (cl : List (Str × Addr)) (fp : List Addr), PG (X.blk z G scope (compEnvC scope cl C X.env) fp) tg g)
    (hel : ∀ (ps : List (Addr × Obj)) (σ : L2.St) (z : Shared) (G : Hp) (C : Addr) (cl : List (Str × Addr)) (fp : List Addr), Inv X ps σ G z → (∀ b ∈ fp, FpOk X ps G b) → PE (X.blk z G scope (compEnvC scope cl C X.env) fp) elt (te σ))
    (hs : ∀ x, foldedSetIterable iter X.env x = pure x := by intro _; rfl) :
    PE X (.ListComp elt [⟨tg, iter, [], 0⟩] scope pos) (tLcS wi g te (own.map (·.2))) := by
  refine ⟨fun ps z0 σ G0 Q I0 ask => ?_⟩
  rw [eval_ListComp]
  have has : ∀ y ∈ scope.names, y.2 = .free → ∃ c, X.env.cells.lookup y.1 = some c := fun y hy e => (bk.free y hy e).elim (fun k => I0.ok.has _ (.inl k)) (fun k => I0.ok.has _ (.inr k))
  refine wpAny_comprehension_free rfl hs (closure_ok has) bk.kind (fun y hy e => by rw [bk.uniq y hy, e]) (thn (hi.run ps z0 σ G0 _ I0 ask) fun _ z1 k1 => thn k1 fun _ z2 k2 => ?_)
  obtain ⟨it, fp, tn, J, G2, rfl, I2, T, t2, ok2, make⟩ := k2
  refine wpAny_newObj_type (newEnv_comp ?_) (by show 0 ≤ sizeLine; decide)
  obtain ⟨L, hL⟩ : ∃ L, z2.heap.objs.size = L := ⟨_, rfl⟩
  have freeL : G2 L = none := I2.hok.fresh (Nat.le_of_eq hL)
  obtain ⟨W, ⟨m0, w0⟩, turn⟩ := make L freeL
  rw [hL]
  -- with the list
  obtain ⟨z3, hz3⟩ : ∃ z3 : Shared, ({ z2 with heap := z2.heap.push { cls := .type "list", data := .seq ([] : List Value).toArray } } : Shared) = z3 := ⟨_, rfl⟩
  have grow : z3.heap = z2.heap.push { cls := .type "list", data := .seq ([] : List Value).toArray } := by rw [← hz3]
  have kept3 : ∀ b o, z2.heap.get? b = some o → z3.heap.get? b = some o := fun b o e => by
    rw [grow]
    exact Heap.get?_push_of_some _ e
  have I3 : Inv X ps σ (upd G2 L (.lst [])) z3 := by
    have there : z3.heap.get? L = some { cls := .type "list", data := .seq ([] : List Value).toArray } := by
      rw [grow, ← hL]
      exact Heap.get?_push_size _ rfl
    rw [← hz3] at there ⊢
    exact I2.laid (t' := z2.toks) (fun b o e => Heap.get?_push_of_some _ e) (Nat.le_of_eq hL) ⟨Nat.zero_le _, [], 0, .nil, there⟩
  have below : ∀ b ∈ fp, b < L := fun b hb => by
    obtain ⟨o, e, _⟩ := T.obj _ _ t2 b hb
    rw [← hL]
    exact Heap.lt_size e
  have ok3 : ∀ b ∈ fp, FpOk X ps (upd G2 L (.lst [])) b := fun b hb => ⟨by rw [upd_ne (Nat.ne_of_lt (below b hb))]; exact (ok2 b hb).1, (ok2 b hb).2⟩
  have lt3 : ∀ b ∈ fp, b < z3.heap.objs.size := fun b hb => by
    rw [grow, Heap.size_push, hL]
    exact Nat.lt_succ_of_lt (below b hb)
  have t3 : tn 0 z3.heap := T.keep _ _ _ t2 fun b _ => kept3 b
  have I4 := block_start I3 bk nd fun b hb => ⟨ok3 b hb, lt3 b hb⟩
  have pg := hg z3 (upd G2 L (.lst [])) z3.heap.objs.size (cellsFrom (z3.heap.objs.size + 1) scope.names (cloFrom X.env.cells scope.names [])) fp
  have pe := hel ps σ z3 (upd G2 L (.lst [])) z3.heap.objs.size (cellsFrom (z3.heap.objs.size + 1) scope.names (cloFrom X.env.cells scope.names [])) fp I3 ok3
  rw [hz3]
  show codeAny _ _ (.compStart _ 0 (.ref it) (.ref L) (compEnvC scope (cellsFrom (z3.heap.objs.size + 1) scope.names (cloFrom X.env.cells scope.names [])) z3.heap.objs.size X.env)) (compPost _ _ _ none _ (.ref L) z3.heap.objs.size) { z3 with heap := pushCells (z3.heap.push { cls := .type "dict", data := .dict #[] }) scope.names }
  obtain ⟨B, hB⟩ : ∃ B : Env, compEnvC scope (cellsFrom (z3.heap.objs.size + 1) scope.names (cloFrom X.env.cells scope.names [])) z3.heap.objs.size X.env = B := ⟨_, rfl⟩
  have locB : B.locals = z3.heap.objs.size := by
    rw [← hB]
    rfl
  rw [hB] at I4 pg pe ⊢
  obtain ⟨G3, hG3⟩ : ∃ G3, upd G2 L (.lst []) = G3 := ⟨_, rfl⟩
  rw [hG3] at I3 I4 pg pe w0 ok3
  obtain ⟨z4, hz4⟩ : ∃ z4 : Shared, ({ z3 with heap := pushCells (z3.heap.push { cls := .type "dict", data := .dict #[] }) scope.names } : Shared) = z4 := ⟨_, rfl⟩
  rw [hz4] at I4 ⊢
  have t4 : tn 0 z4.heap := T.keep _ _ _ t3 fun b _ o e => by
    rw [← hz4]
    exact pushCells_keeps _ _ _ _ (Heap.get?_push_of_some _ e)
  have own_ok : ∀ {σ' : L2.St} {G : Hp} {z : Shared}, Inv (X.blk z3 G3 scope B fp) [] σ' G z → (∀ b ∈ fp, G b = none) → ∀ b ∈ fp, FpOk (X.blk z3 G3 scope B fp) [] G b := fun {σ' G z} J' n b hb =>
    ⟨n b hb, (J'.ok.exf b hb).1, J'.ok.exfs b hb, .inl hb, (J'.ok.exf b hb).2, fun p hp => absurd (show p ∈ ([] : List (Addr × Obj)) ++ [] from hp) (by simp)⟩
  have go : codeAny (model X.prog X.w) X.A (.compLoop (.ListComp elt [⟨tg, iter, [], 0⟩] scope pos) 0 (.ref it) (.ref L) B) (compPost (model X.prog X.w) X.A X.xe none (EP X ps σ Q) (.ref L) z3.heap.objs.size) z4 := by
    refine compLoop_any (fun n z => ∃ i G, Inv (X.blk z3 G3 scope B fp) [] (wipe σ (own.map (·.2))) G z ∧ tn i z.heap ∧ (∀ b ∈ fp, G b = none) ∧ W i n G) ?_ m0 ⟨0, G3, I4, t4, fun b hb => (ok3 b hb).1, w0⟩
    rintro n z5 ⟨i, G5, I5, t5, n5, w5⟩
    rcases turn i n G5 w5 with ⟨st, fin⟩ | ⟨mo, Nx, less, step⟩
    · refine thnF (T.done (X.blk z3 G3 scope B fp) rfl rfl rfl calm i [] z5 _ G5 (fun _ _ => False) I5 (own_ok I5 n5) t5 st) fun r z6 ⟨hr, I6⟩ => ?_
      subst hr
      have I7 : Inv X ps σ G5 z6 := I3.call' (ch := fp) I6.os I6.base I6.hok I6.bare fun b hb => ⟨(ok3 b hb).2.2.2.1, (ok3 b hb).2.1, (ok3 b hb).2.2.2.2.1, (ok3 b hb).2.2.2.2.2⟩
      have nB : G5 z3.heap.objs.size = none := by
        rw [← locB]
        exact I6.free
      obtain ⟨m, hm, _⟩ := I6.loc
      have hm : z6.heap.Ns B.locals m := hm
      rw [locB] at hm
      obtain ⟨f0, f1, f2, f3, f4, f5⟩ := I3.fpOk (Nat.le_refl _) nB
      exact ⟨m, hm, fun h' sb => ⟨.ref L, G5, I7.turned (t' := z6.toks) (fun b o hb e => (sb.2 b hb).trans e) f0 f1 f3 f4 f5, rfl, fin⟩⟩
    · refine thnF (T.item (X.blk z3 G3 scope B fp) rfl rfl rfl calm i [] z5 _ G5 (fun _ _ => False) I5 (own_ok I5 n5) t5 mo) fun r z6 ⟨u, hr, k6⟩ => ?_
      subst hr
      refine thnF k6 fun _ z7 ⟨x, G7, I7, r7, y7, t7, n7⟩ => ?_
      have P7 := I7.pinned (own_ok I7 n7) (T.obj _ _ t7)
      refine thnF (pg.run _ z7 _ G7 x u _ P7 r7 (step x G7 y7)) fun _ z8 ⟨σ8, G8, I8, hw, k8⟩ => ?_
      obtain ⟨hw8, k8⟩ : wipe σ8 (own.map (·.2)) = wipe σ (own.map (·.2)) ∧ _ := ⟨hw, k8⟩
      refine wpAny_tests_nil ?_
      have k8 : te σ σ8 G8 (fun y G => ∃ acc, G L = some (.lst acc) ∧ acc.length < sizeLine ∧ Nx (upd G L (.lst (acc ++ [y])))) := k8
      show wpAny _ _ _ _ _ z8
      refine thnF (pe.run _ z8 σ8 G8 _ I8 k8) fun v z9 ⟨y, G9, I9, r9, acc, e9, l9, nx⟩ => ?_
      refine app_ok (X := X.blk z3 G3 scope B fp) I9 e9 l9 r9 fun z10 I10 => ?_
      obtain ⟨m', hm', w'⟩ := less _ nx
      have stay : ∀ b ∈ fp, ∀ o, z7.heap.get? b = some o → z10.heap.get? b = some o ∧ upd G9 L (.lst (acc ++ [y])) b = none := fun b hb o e =>
        ⟨(I10.pin (b, o) (List.mem_append_right _ (List.mem_append_right _ (mem_pinsAt hb e)))).1, (I10.pin (b, o) (List.mem_append_right _ (List.mem_append_right _ (mem_pinsAt hb e)))).2.1⟩
      refine ⟨m', hm', i + 1, _, (I10.unpinned (pins := [])).weak (by rw [← hw8, wipe_length]) (fun j v e => ?_), T.keep _ _ _ t7 fun b hb o e => (stay b hb o e).1, fun b hb => ?_, w'⟩
      · rw [← hw8] at e
        exact (wipe_some e).1
      · obtain ⟨o, e, _⟩ := T.obj _ _ t7 b hb
        exact (stay b hb o e).2
  exact codeAny_compStart_list go (T.self X.A 0 _ _ _ t4 go)
end
/-! ### value_at that raises nothing, by the names x, curve, before -/
theorem pe_goodKS {X : Cx} {k : Nat} {sp sp' : Sp} {tk : TA} {p pos : Pos} {kws : List Keyword} (G : GoodVX X.prog X.w X.K X.mg X.base k sp) (h : ∀ vs H Q E, sp' vs H Q E → sp vs H Q (fun _ _ _ => False)) (hr : Room k X.A) (hk : PK X kws tk) (hg : Gl X "value_at" := by rfl)
    (hall : (backToKw pos (keywordEach kws X.env)).all (·.1.isSome) = true := by rfl) (hks : (backToKw pos (keywordEach kws X.env)).filterMap (·.1) = (["x", "curve", "before"] : List Str) := by rfl)
    (hpl : ((backTo pos (starEach [] X.env)).any (·.1) || (backToKw pos (keywordEach kws X.env)).any (·.1.isNone)) = false := by rfl) :
    PE X (.Call (.Name "value_at" p) [] kws pos) (tKw0 3 sp' (fun _ zs => swp3 zs) E0 tk) := by
  obtain ⟨fd, _, _, _, _, hb, F⟩ := G.fn
  exact pe_kw0 (calmF F h) hr hg G.g G.kp hb pass0 hk hall hks (by decide) hpl
def KwsP (sp : Sp) (Q : VK) (E : XK) : List V → Hp → Prop := fun zs H2 => zs.length = 3 ∧ sp (swp3 zs) H2 Q E
theorem xkwS {tk : TA} {sp : Sp} {E : XK} {σ : L2.St} {H : Hp} {Q : VK} (q : tk σ H (KwsP sp Q E)) : tKw0 3 sp (fun _ zs => swp3 zs) E tk σ H Q := q
theorem kws_ {sp : Sp} {E : XK} {H : Hp} {Q : VK} {a b d : V} (q : sp [a, b, d] H Q E) : KwsP sp Q E [b, a, d] H := ⟨rfl, q⟩
/-! ### what a lambda's cells are -/
theorem clo_of {cells : List (Str × Addr)} {names : List (Str × NameKind)} {y : Str} {c : Addr} (hf : ∀ y ∈ names, y.2 = .free → ∃ c, cells.lookup y.1 = some c) (e : (cloFrom cells names []).lookup y = some c) : cells.lookup y = some c := by
  rcases cloFrom_mem (PySem.mem_of_lookup e) with m | ⟨h1, h2⟩
  · cases m
  · obtain ⟨c1, hc⟩ := hf _ h1 rfl
    have e2 : c = c1 := by
      rw [h2, hc] <;> rfl
    rw [e2]
    exact hc
/-- the names of a lambda that are its maker's -/
def Capt (sc : Scope) (L : Lm) : Prop := (∀ y ∈ L.scope.names, L.scope.names.lookup y.1 = some y.2) ∧ ∀ y ∈ L.scope.names, y.2 = .free → sc.names.lookup y.1 = some .cell ∨ sc.names.lookup y.1 = some .free
/-- what is told behind the making of a lambda whose reading is known -/
def tLmR (Tb : List (Addr × Str)) (R : Lm → List V → (XK → TE) → Prop) (cells : List (Str × Addr)) (t : XK → TE) : TE := fun _ H Q => LamX.Tabs Tb H ∧ ∀ f H1 L dfl, LamX.ExtN H H1 → LamX.Tabs Tb H1 → FnO H1 f L (cloFrom cells L.scope.names []) dfl → R L dfl t → Q (.ref f) H1
section
variable {X : Cx} {Tb : List (Addr × Str)} {c Pt : Addr} {params : Arguments} {body : Expr} {scope : Scope} {pos : Pos} {R : Lm → List V → (XK → TE) → Prop} {t : XK → TE}
theorem pe_lam0R (TB : LamX.TabB X.base X.mg c Pt) (hcode : X.env.code = .ref c) (hm : (Pt, X.env.qual ++ "<lambda>") ∈ Tb) (hu : ∀ p ∈ Tb, p.1 = Pt → p.2 = X.env.qual ++ "<lambda>") (hdef : defaultsOf params X.env = ([], []))
    (hfr : ∀ y ∈ scope.names, y.2 = .free → X.env.scope.names.lookup y.1 = some .cell ∨ X.env.scope.names.lookup y.1 = some .free) (hne : ∃ y ∈ scope.names, y.2 = .free) (r : R ⟨X.env.qual ++ "<lambda>", params, body, scope⟩ [] t) : PE X (.Lambda params body scope pos) (tLmR Tb R X.env.cells t) := by
  refine ⟨fun pins s σ H Q I h => (pe_lam0 TB hcode hm hu hdef hfr hne).run pins s σ H Q I ⟨h.1, fun f H1 e1 T1 fo => h.2 f H1 _ _ e1 T1 fo r⟩⟩
theorem pe_lam1R {n : Int} {j : Nat} {ipos : Pos} (TB : LamX.TabB X.base X.mg c Pt) (hcode : X.env.code = .ref c) (hm : (Pt, X.env.qual ++ "<lambda>") ∈ Tb) (hu : ∀ p ∈ Tb, p.1 = Pt → p.2 = X.env.qual ++ "<lambda>") (hdef : defaultsOf params X.env = ([eval (.Constant (.int n) j ipos) X.env], []))
    (hfr : ∀ y ∈ scope.names, y.2 = .free → X.env.scope.names.lookup y.1 = some .cell ∨ X.env.scope.names.lookup y.1 = some .free) (hne : ∃ y ∈ scope.names, y.2 = .free) (r : R ⟨X.env.qual ++ "<lambda>", params, body, scope⟩ [.int n] t) : PE X (.Lambda params body scope pos) (tLmR Tb R X.env.cells t) := by
  refine ⟨fun pins s σ H Q I h => (pe_lam1 TB hcode hm hu hdef hfr hne).run pins s σ H Q I ⟨h.1, fun f H1 e1 T1 fo => h.2 f H1 _ _ e1 T1 fo r⟩⟩
end
theorem lmR_ {Tb : List (Addr × Str)} {R : Lm → List V → (XK → TE) → Prop} {cells : List (Str × Addr)} {t : XK → TE} {σ : L2.St} {H : Hp} {Q : VK} (T : LamX.Tabs Tb H) (k : ∀ f H1 L dfl, LamX.ExtN H H1 → LamX.Tabs Tb H1 → FnO H1 f L (cloFrom cells L.scope.names []) dfl → R L dfl t → Q (.ref f) H1) : tLmR Tb R cells t σ H Q := ⟨T, k⟩
/-! ### what else may stay where a source is drawn from and lambdas are made -/
def ExtF (a : Addr) (H H' : Hp) : Prop := ∀ b o, b ≠ a → H b = some o → (∀ ps, o ≠ .tbl ps) → H' b = some o
section
variable {a p : Addr} {H H1 H2 : Hp} {K : PySem.W.Frag} {xs : List V}
theorem ExtF.refl : ExtF a H H := fun _ _ _ e _ => e
theorem ExtF.trans (u : ExtF a H H1) (v : ExtF a H1 H2) : ExtF a H H2 := fun b o n e t => v b o n (u b o n e t) t
theorem ExtF.frm (f : Frm a H H1) : ExtF a H H1 := fun b o n e _ => f b o n e
theorem ExtF.ext (e : LamX.ExtN H H1) : ExtF a H H1 := fun b o _ h t => e b o h t
theorem ExtF.same (e : Same H H1) : ExtF a H H1 := fun b o _ h _ => e b o h
theorem extSrc (s : Src H a) (e : LamX.ExtN H H1) : Src H1 a := by
  obtain ⟨i, j, k, h⟩ := s
  exact ⟨i, j, k, e _ _ h fun _ z => by cases z⟩
end
end FC

namespace FC
open PySem PySem.Spec PyProof.Rows L2
/-! ### a tuple from behind -/
theorem back_adjust (n : Nat) : Builtin.Slice.sliceAdjust none none (-1) (n : Int) = ((n : Int) - 1, -1) := rfl
theorem back_places (n : Nat) : Builtin.Slice.slicePlaces ((n : Int) - 1) (-1) (-1) = n := by
  unfold Builtin.Slice.slicePlaces
  rw [if_neg (by decide)]
  by_cases z : n = 0
  · subst z
    rfl
  · rw [if_pos (by omega), show (- -1 : Int) = 1 by decide, Int.ediv_one]
    omega
theorem back_pick (xs : Array Value) : ((List.range xs.size).filterMap fun (k : Nat) => xs[((xs.size : Int) - 1 + (k : Int) * -1).toNat]?).toArray = xs.toList.reverse.toArray := by
  have e : (List.range xs.size).filterMap (fun (k : Nat) => xs[((xs.size : Int) - 1 + (k : Int) * -1).toNat]?) = ((List.range xs.size).map fun k => xs.size - 1 - k).filterMap (xs[·]?) := by
    rw [List.filterMap_map]
    have f : (fun (k : Nat) => xs[((xs.size : Int) - 1 + (k : Int) * -1).toNat]?) = ((xs[·]?) ∘ fun k => xs.size - 1 - k) := by
      funext k
      have z : ((xs.size : Int) - 1 + (k : Int) * -1).toNat = xs.size - 1 - k := by omega
      show xs[((xs.size : Int) - 1 + (k : Int) * -1).toNat]? = xs[xs.size - 1 - k]?
      rw [z]
    rw [f]
  rw [e, PySem.W.krv_range, List.filterMap_reverse, PySem.W.krv_all]
section
variable {prog : Program} {w : World} {A : Around} {E : Value → Shared → Prop} {s : Shared}
theorem back_applied {sl : Addr} {vl vu vk : Value} {n : Nat} {Q : Int × Int × Nat → Shared → Prop} (hs : s.heap.IsSliceOf sl vl vu vk) (pl : IsPart vl none) (pu : IsPart vu none) (pk : IsPart vk (some (-1)))
    (h : Q ((n : Int) - 1, -1, n) s) : wpAny (model prog w) A (Builtin.Slice.sliceApplied (.ref sl) (pure (n : Int))) Q E s := by
  obtain ⟨os, at1, _, at2⟩ := id hs
  unfold Builtin.Slice.sliceApplied Builtin.Slice.sliceFields
  refine wpAny_bind (wpAny_bind (wpAny_field at1 at2 (x := vl) rfl (wpAny_bind (wpAny_field at1 at2 (x := vu) rfl (wpAny_bind (wpAny_field at1 at2 (x := vk) rfl (wpAny_pure ?_)))))))
  refine wpAny_bind (HT.slicePart_ pk ?_)
  show wpAny _ _ (if ((-1 : Int) == 0) = true then _ else _) _ _ s
  rw [if_neg (by decide)]
  refine wpAny_bind (HT.slicePart_ pl (wpAny_bind (HT.slicePart_ pu (wpAny_bind (wpAny_pure ?_)))))
  show wpAny _ _ (pure ((n : Int) - 1, (-1 : Int), Builtin.Slice.slicePlaces ((n : Int) - 1) (-1) (-1))) _ _ s
  rw [back_places]
  exact wpAny_pure h
theorem back_item {t sl : Addr} {its : Array Value} {vl vu vk : Value} {Q : Value → Shared → Prop} (ht : IsTup s.heap t its) (hs : s.heap.IsSliceOf sl vl vu vk) (pl : IsPart vl none) (pu : IsPart vu none) (pk : IsPart vk (some (-1)))
    (h : Q (.ref s.heap.objs.size) { s with heap := s.heap.push { cls := .type "tuple", data := .seq its.toList.reverse.toArray } }) (hz : its.size ≤ sizeLine) : wpAny (model prog w) A (getItem (.ref t) (.ref sl)) Q E s := by
  have ok : sizeOk (.seq its.toList.reverse.toArray) := by
    show its.toList.reverse.toArray.size ≤ sizeLine
    rw [List.size_toArray, List.length_reverse, Array.length_toList]
    exact hz
  obtain ⟨os, at1, at3, at2⟩ := id hs
  have isSl : s.TypeIs (.ref sl) "slice" := ⟨os, at1, at3⟩
  unfold getItem
  try with_reducible refine wpAny_holding ?_
  first | refine wpAny_bind (wpAny_pure ?_) | skip
  refine wpAny_bind (wpAny_sequenceKey ht.typeIs (by decide) ?_)
  refine wpAny_bind (wpAny_callSpecial?_slot (name := Str.ofString "__getitem__") ht.typeIs PyProof.Rows.slot_tuple_getitem (wpAny_call_entry PyProof.Rows.slot_tuple_getitem ht.typeIs entry_tuple_getitem ?_ (args_tuple_getitem _ _)))
  show wpAny _ _ (Builtin.Tuple.tupleItemsOf (.ref t) >>= _) _ _ s
  refine wpAny_bind (tupleItemsOf_ ht ?_)
  refine wpAny_bind (wpAny_typeOf isSl ?_)
  rw [if_pos (by decide)]
  refine wpAny_bind (back_applied hs pl pu pk ?_)
  have no : ¬ (((its.size : Int) - 1 == 0 && (-1 : Int) == 1 && its.size == its.size) = true) := by
    rw [show ((-1 : Int) == 1) = false by decide, Bool.and_false, Bool.false_and]
    exact Bool.false_ne_true
  show wpAny _ _ (if ((its.size : Int) - 1 == 0 && (-1 : Int) == 1 && its.size == its.size) = true then _ else _) _ _ s
  rw [if_neg no, back_pick]
  first
    | exact wpAny_bind (m := Builtin.Tuple.tupleExact _) (wpAny_newObj_type (wpAny_pure ⟨_, rfl, wpAny_pure h⟩) ok)
    | exact wpAny_bind (m := Builtin.Tuple.tupleExact _) (wpAny_newObj_type (wpAny_bind (wpAny_pure (wpAny_pure ⟨_, rfl, wpAny_pure h⟩))) ok)
    | exact wpAny_bind (wpAny_bind (m := Builtin.Tuple.tupleExact _) (wpAny_newObj_type (wpAny_pure (wpAny_pure ⟨_, rfl, wpAny_pure h⟩)) ok))
    | exact wpAny_bind (wpAny_bind (m := Builtin.Tuple.tupleExact _) (wpAny_newObj_type (wpAny_pure ⟨_, rfl, wpAny_pure h⟩) ok))
end
section
variable {X : Cx}
/-- t[::-1] -/
def tRevT (K : PySem.W.Frag) (te : TE) : TE := fun σ H Q => te σ H fun x H1 => ∃ a xs, x = .ref a ∧ SqT K H1 a xs ∧ ∀ p, H1 p = none → Q (.ref p) (upd H1 p (.tup xs.reverse))
theorem pe_revT {e : Expr} {te : TE} {k : Nat} {p1 p2 p3 pos : Pos} (he : PE X e te) : PE X (.Subscript e (.Slice none none (some (.UnaryOp .USub (.Constant (.int 1) k p1) p2)) p3) pos) (tRevT X.K te) := by
  refine ⟨fun pins s σ H Q I h => ?_⟩
  refine Subscript_ (thn (he.run pins s σ H _ I h) fun v s1 ⟨x, H1, I1, r1, a, xs, ex, hx, q⟩ => ?_)
  subst ex
  cases r1
  have minus1 : PO X (some (.UnaryOp .USub (.Constant (.int 1) k p1) p2)) (tPart (tUn (rU fun i => .int (-i)) (tC (.int 1)))) := po_some (pe_un un_neg pe_int)
  refine wpAny_Slice (thn (po_none.run pins s1 σ H1 (fun o G => o = none ∧ G = H1) I1 ⟨rfl, rfl⟩) fun vl s2 ⟨o2, H2, I2, pl, e2, g2⟩ => ?_)
  subst e2 g2
  refine thn (po_none.run pins s2 σ H2 (fun o G => o = none ∧ G = H2) I2 ⟨rfl, rfl⟩) fun vu s3 ⟨o3, H3, I3, pu, e3, g3⟩ => ?_
  subst e3 g3
  refine thn (minus1.run pins s3 σ H3 (fun o G => o = some (-1) ∧ G = H3) I3 ⟨1, rfl, -1, rfl, rfl, rfl⟩) fun vk s4 ⟨o4, H4, I4, pk, e4, g4⟩ => ?_
  subst e4 g4
  have I5 : Inv X pins σ H4 { s4 with heap := s4.heap.push { cls := .type "slice", data := .fields #[vl, vu, vk] } } := I4.kept (t' := s4.toks) fun b o z => Heap.get?_push_of_some _ z
  obtain ⟨its, r, ht, hz⟩ := I5.tuple hx
  have len := r.length
  show wpAny (model X.prog X.w) X.A (subscriptTail e (.Slice none none (some (.UnaryOp .USub (.Constant (.int 1) k p1) p2)) p3) (.ref a) (.ref s4.heap.objs.size)) (EP X pins σ Q) X.xe { s4 with heap := s4.heap.push { cls := .type "slice", data := .fields #[vl, vu, vk] } }
  refine tail_any (ops := [.ref a, .ref s4.heap.objs.size]) ht.typeIs PyProof.Rows.slot_tuple_getitem.lookup ?_ (by with_unfolding_all rfl)
  refine back_item ht (Heap.IsSliceOf.new _ vl vu vk) pl pu pk ?_ (by rw [List.size_toArray]; omega)
  refine ⟨.ref _, _, I5.laid (t' := s4.toks) (o := .tup xs.reverse) (fun b o z => Heap.get?_push_of_some _ z) (Nat.le_refl _) ?_, rfl, q _ (I5.hok.fresh (Nat.le_refl _))⟩
  exact ⟨by rw [List.length_reverse]; omega, _, r.reverse, IsTup.new _ _⟩
end
theorem xrevT {K : PySem.W.Frag} {te : TE} {σ : L2.St} {H : Hp} {Q : VK} (q : te σ H fun x H1 => ∃ a xs, x = .ref a ∧ SqT K H1 a xs ∧ ∀ p, H1 p = none → Q (.ref p) (upd H1 p (.tup xs.reverse))) : tRevT K te σ H Q := q
/-- PLAIN -/
def plainT : Tm := ⟨0, 0, .non, 0, some 1, none, .nor, .lin [(0, some 0), (1, some 1)]⟩
end FC

namespace FC
open PySem L2
/-! ### a def that may raise, called by names alone -/
structure GoodXK (P : Program) (w : World) (K : PySem.W.Frag) (mg : Str → Option Value) (base : Heap) (x : Str) (k : Nat) (ps ks : List Str) (rw_ : List Value → List Value → List Value) (rv : List V → List V → List V) (sp : Sp) : Prop where
  good : GoodX P w K mg base x k ps sp
  named : ∃ fd, KBn K fd ps 0 ks rw_ rv ∧ FnOk P w K mg base (L2.CX P w) k (He.ga K x) fd ps sp
theorem pe_goodXK {X : Cx} {x : Str} {k n : Nat} {ps ks : List Str} {rw_ : List Value → List Value → List Value} {rv : List V → List V → List V} {sp sp' : Sp} {kws : List Keyword} {tk : TA} {p pos : Pos} (G : GoodXK X.prog X.w X.K X.mg X.base x k ps ks rw_ rv sp) (h : ∀ vs H Q E, sp' vs H Q E → sp vs H Q (fun _ _ _ => False))
    (hr : Room k X.A) (hk : PK X kws tk) (hg : Gl X x := by rfl) (hn : ks.length = n := by rfl)
    (hall : (backToKw pos (keywordEach kws X.env)).all (·.1.isSome) = true := by rfl) (hks : (backToKw pos (keywordEach kws X.env)).filterMap (·.1) = ks := by rfl) (hdb : (x == ("__debug__" : Str)) = false := by decide)
    (hpl : ((backTo pos (starEach [] X.env)).any (·.1) || (backToKw pos (keywordEach kws X.env)).any (·.1.isNone)) = false := by rfl) : PE X (.Call (.Name x p) [] kws pos) (tKw0 n sp' rv E0 tk) := by
  subst hn
  obtain ⟨fd, hb, F⟩ := G.named
  exact pe_kw0 (calmF F h) hr hg G.good.g G.good.kp hb pass0 hk hall hks hdb hpl
theorem kbindsQ {K : PySem.W.Frag} {x qual : Str} {params : Arguments} {body : List Stmt} {scope : Scope} {kws : List (Str × V)} {f : Addr} {fd : FuncData} {ps : List Str} (F : FunD K x qual params body scope [] kws f fd) (ks : List Str)
    (h : ∀ (kV doc pm : Value) (an : Option Addr) (cdv ct : Value) (ws : List Value), ws.length = ks.length → bindArgs (PySem.W.fnOf x qual params body scope .none kV doc pm an cdv ct) ⟨[], ks.zip ws⟩ = pure (ps.zip (rev3 ws))) :
    KBn K fd ps 0 ks (fun _ ws => rev3 ws) (fun _ zs => rev3 zs) := by
  obtain ⟨_, _, _, kV, doc, pm, an, cdv, ct, _, rfl, _, _, hD, _⟩ := F.ex
  rcases hD with ⟨_, rfl⟩ | ⟨e, _⟩
  · refine ⟨fun s us ws _ l1 l2 => ?_, fun _ r => rev3_rel r⟩
    obtain rfl := List.length_eq_zero_iff.mp l1
    exact BindsTo.of_eq (h kV doc pm an cdv ct ws l2)
  · exact absurd rfl e
end FC

namespace FC
open PySem L2
/-! ### data of the module's own, read in its part of the heap -/
mutual
def itB (K : PySem.W.Frag) : PyData → Value → Bool
  | .none, .none => true
  | .bool b, .bool c => decide (b = c)
  | .int i, .int j _ => decide (i = j)
  | .str x, .str y _ => decide (x = y)
  | .tuple ds, .ref a => (match K.lookup a with
    | some ⟨.type c, _, .seq its _, _⟩ => decide (c = "tuple") && (decide (its.size ≤ sizeLine) && itBs K ds its.toList)
    | _ => false)
  | _, _ => false
def itBs (K : PySem.W.Frag) : List PyData → List Value → Bool
  | [], [] => true
  | d :: ds, v :: vs => itB K d v && itBs K ds vs
  | _, _ => false
end
section
variable {K : PySem.W.Frag}
mutual
theorem itB_ok : ∀ (d : PyData) (v : Value), itB K d v = true → ∃ u, RelV u v ∧ ∀ H, It K H u d
  | .none, v, h => by
    cases v with
    | none => exact ⟨.non, rfl, fun _ => .non⟩
    | _ => cases h
  | .bool b, v, h => by
    cases v with
    | bool c =>
      have e : b = c := of_decide_eq_true h
      subst e
      exact ⟨.bl b, rfl, fun _ => .bl b⟩
    | _ => cases h
  | .int i, v, h => by
    cases v with
    | int j t =>
      have e : i = j := of_decide_eq_true h
      subst e
      exact ⟨.int i, ⟨t, rfl⟩, fun _ => .int i⟩
    | _ => cases h
  | .str x, v, h => by
    cases v with
    | str y t =>
      have e : x = y := of_decide_eq_true h
      subst e
      exact ⟨.str x, ⟨t, rfl⟩, fun _ => .str x⟩
    | _ => cases h
  | .list ds, v, h => by cases v <;> cases h
  | .dict ds, v, h => by cases v <;> cases h
  | .tuple ds, v, h => by
    cases v with
    | ref a =>
      have h : (match K.lookup a with
        | some ⟨.type c, _, .seq its _, _⟩ => decide (c = "tuple") && (decide (its.size ≤ sizeLine) && itBs K ds its.toList)
        | _ => false) = true := h
      cases q : K.lookup a with
      | none =>
        rw [q] at h
        cases h
      | some o =>
        obtain ⟨oc, od, dt, osl⟩ := o
        rw [q] at h
        cases oc with
        | type c =>
          cases dt with
          | seq its n =>
            have h : (decide (c = "tuple") && (decide (its.size ≤ sizeLine) && itBs K ds its.toList)) = true := h
            rw [Bool.and_eq_true, Bool.and_eq_true] at h
            obtain ⟨us, r, al⟩ := itBs_ok ds its.toList h.2.2
            exact ⟨.ref a, rfl, fun H => .tup (.inr ⟨_, its, n, q, congrArg Value.type (of_decide_eq_true h.1), rfl, of_decide_eq_true h.2.1, r⟩) (al H)⟩
          | _ => cases h
        | _ => cases dt <;> cases h
    | _ => cases h
theorem itBs_ok : ∀ (ds : List PyData) (vs : List Value), itBs K ds vs = true → ∃ us, Vals us vs ∧ ∀ H, ItAll K H us ds
  | [], vs, h => by
    cases vs with
    | nil => exact ⟨[], .nil, fun _ => .nil⟩
    | cons _ _ => cases h
  | d :: ds, vs, h => by
    cases vs with
    | nil => cases h
    | cons v vs =>
      have h : (itB K d v && itBs K ds vs) = true := h
      rw [Bool.and_eq_true] at h
      obtain ⟨u, r, t⟩ := itB_ok d v h.1
      obtain ⟨us, rs, ts⟩ := itBs_ok ds vs h.2
      exact ⟨u :: us, .cons r rs, fun H => .cons (t H) (ts H)⟩
end
theorem itB_ref {a : Addr} {d : PyData} (h : itB K d (.ref a) = true) (H : Hp) : It K H (.ref a) d := by
  obtain ⟨u, r, t⟩ := itB_ok d (.ref a) h
  have e : u = .ref a := Option.some.inj (r.abs.symm.trans rfl)
  rw [← e]
  exact t H
end
end FC

namespace FC
open PySem L2
def topS (i : Nat) : Stmt := PySem.Challenge.pw_framecues_k08_what_is_no_timing.main.body.getD i (.Pass ⟨0, 0, 0, 0⟩)
abbrev s_is_whole : Stmt := topS 9
abbrev s_is_ratio : Stmt := topS 10
abbrev s_ratio : Stmt := topS 11
abbrev s_plus : Stmt := topS 12
abbrev s_minus : Stmt := topS 13
abbrev s_times : Stmt := topS 14
abbrev s_over : Stmt := topS 15
abbrev s_whole : Stmt := topS 16
abbrev s_rest : Stmt := topS 17
abbrev s_less : Stmt := topS 18
abbrev s_even_step : Stmt := topS 19
abbrev s_even_place : Stmt := topS 20
abbrev s_is_curve : Stmt := topS 22
abbrev s_curve_value : Stmt := topS 23
abbrev s__are_points : Stmt := topS 24
abbrev s__are_steps : Stmt := topS 25
abbrev s__line_value : Stmt := topS 26
abbrev s__stretch : Stmt := topS 27
abbrev s__told_stretch : Stmt := topS 28
abbrev s__cubic_value : Stmt := topS 29
abbrev s__step_value : Stmt := topS 30
abbrev s__most_steps : Stmt := topS 31
abbrev s_joined : Stmt := topS 34
abbrev s_repeated : Stmt := topS 35
abbrev s_below : Stmt := topS 36
abbrev s_lesser : Stmt := topS 37
abbrev s_greater : Stmt := topS 38
abbrev s_is_word : Stmt := topS 40
abbrev s_is_timing : Stmt := topS 44
abbrev s_is_amount : Stmt := topS 45
abbrev s__is_span : Stmt := topS 46
abbrev s_edges : Stmt := topS 47
abbrev s_told_at : Stmt := topS 48
abbrev s__own_spans : Stmt := topS 49
abbrev s_facts_at : Stmt := topS 50
abbrev s_phase_at : Stmt := topS 51
abbrev s_active_time : Stmt := topS 52
abbrev s__overall_progress : Stmt := topS 53
abbrev s__simple_progress : Stmt := topS 54
abbrev s__iteration : Stmt := topS 55
abbrev s_direction : Stmt := topS 56
abbrev s__law_cell_at : Stmt := topS 58
abbrev s__law_mixed : Stmt := topS 59
abbrev s__law_source : Stmt := topS 60
abbrev s__law_next : Stmt := topS 61
abbrev s__law_one : Stmt := topS 62
abbrev s__law_divisor : Stmt := topS 63
abbrev s__law_ratio : Stmt := topS 64
abbrev s__law_part : Stmt := topS 65
abbrev s__law_any_part : Stmt := topS 66
abbrev s__law_curve : Stmt := topS 67
abbrev s__law_timing : Stmt := topS 68
abbrev s__law_said : Stmt := topS 69
abbrev s__law_odd_parts : Stmt := topS 70
abbrev s__law_are_refused : Stmt := topS 71
abbrev s__law_right : Stmt := topS 72
abbrev s_law : Stmt := topS 73
def d_is_whole : He.DefD := ⟨("is_whole", none), "is_whole", "is_whole", defArgs s_is_whole, defBody s_is_whole, defScope s_is_whole, [], []⟩
def d_is_ratio : He.DefD := ⟨("is_ratio", none), "is_ratio", "is_ratio", defArgs s_is_ratio, defBody s_is_ratio, defScope s_is_ratio, [], []⟩
def d_ratio : He.DefD := ⟨("ratio", none), "ratio", "ratio", defArgs s_ratio, defBody s_ratio, defScope s_ratio, [], []⟩
def d_plus : He.DefD := ⟨("plus", none), "plus", "plus", defArgs s_plus, defBody s_plus, defScope s_plus, [], []⟩
def d_minus : He.DefD := ⟨("minus", none), "minus", "minus", defArgs s_minus, defBody s_minus, defScope s_minus, [], []⟩
def d_times : He.DefD := ⟨("times", none), "times", "times", defArgs s_times, defBody s_times, defScope s_times, [], []⟩
def d_over : He.DefD := ⟨("over", none), "over", "over", defArgs s_over, defBody s_over, defScope s_over, [], []⟩
def d_whole : He.DefD := ⟨("whole", none), "whole", "whole", defArgs s_whole, defBody s_whole, defScope s_whole, [], []⟩
def d_rest : He.DefD := ⟨("rest", none), "rest", "rest", defArgs s_rest, defBody s_rest, defScope s_rest, [], []⟩
def d_less : He.DefD := ⟨("less", none), "less", "less", defArgs s_less, defBody s_less, defScope s_less, [], []⟩
def d_even_step : He.DefD := ⟨("even_step", none), "even_step", "even_step", defArgs s_even_step, defBody s_even_step, defScope s_even_step, [], []⟩
def d_even_place : He.DefD := ⟨("even_place", none), "even_place", "even_place", defArgs s_even_place, defBody s_even_place, defScope s_even_place, [], []⟩
def d_is_curve : He.DefD := ⟨("is_curve", none), "is_curve", "is_curve", defArgs s_is_curve, defBody s_is_curve, defScope s_is_curve, [], []⟩
def d_curve_value : He.DefD := ⟨("curve_value", none), "curve_value", "curve_value", defArgs s_curve_value, defBody s_curve_value, defScope s_curve_value, [], []⟩
def d__are_points : He.DefD := ⟨("_are_points", none), "_are_points", "_are_points", defArgs s__are_points, defBody s__are_points, defScope s__are_points, [], []⟩
def d__are_steps : He.DefD := ⟨("_are_steps", none), "_are_steps", "_are_steps", defArgs s__are_steps, defBody s__are_steps, defScope s__are_steps, [], []⟩
def d__line_value : He.DefD := ⟨("_line_value", none), "_line_value", "_line_value", defArgs s__line_value, defBody s__line_value, defScope s__line_value, [], []⟩
def d__stretch : He.DefD := ⟨("_stretch", none), "_stretch", "_stretch", defArgs s__stretch, defBody s__stretch, defScope s__stretch, [], []⟩
def d__told_stretch : He.DefD := ⟨("_told_stretch", none), "_told_stretch", "_told_stretch", defArgs s__told_stretch, defBody s__told_stretch, defScope s__told_stretch, [], []⟩
def d__cubic_value : He.DefD := ⟨("_cubic_value", none), "_cubic_value", "_cubic_value", defArgs s__cubic_value, defBody s__cubic_value, defScope s__cubic_value, [], []⟩
def d__step_value : He.DefD := ⟨("_step_value", none), "_step_value", "_step_value", defArgs s__step_value, defBody s__step_value, defScope s__step_value, [], []⟩
def d__most_steps : He.DefD := ⟨("_most_steps", none), "_most_steps", "_most_steps", defArgs s__most_steps, defBody s__most_steps, defScope s__most_steps, [], []⟩
def d_joined : He.DefD := ⟨("joined", none), "joined", "joined", defArgs s_joined, defBody s_joined, defScope s_joined, [], []⟩
def d_repeated : He.DefD := ⟨("repeated", none), "repeated", "repeated", defArgs s_repeated, defBody s_repeated, defScope s_repeated, [], []⟩
def d_below : He.DefD := ⟨("below", none), "below", "below", defArgs s_below, defBody s_below, defScope s_below, [], []⟩
def d_lesser : He.DefD := ⟨("lesser", none), "lesser", "lesser", defArgs s_lesser, defBody s_lesser, defScope s_lesser, [], []⟩
def d_greater : He.DefD := ⟨("greater", none), "greater", "greater", defArgs s_greater, defBody s_greater, defScope s_greater, [], []⟩
def d_is_word : He.DefD := ⟨("is_word", none), "is_word", "is_word", defArgs s_is_word, defBody s_is_word, defScope s_is_word, [], []⟩
def d_is_timing : He.DefD := ⟨("is_timing", none), "is_timing", "is_timing", defArgs s_is_timing, defBody s_is_timing, defScope s_is_timing, [], []⟩
def d_is_amount : He.DefD := ⟨("is_amount", none), "is_amount", "is_amount", defArgs s_is_amount, defBody s_is_amount, defScope s_is_amount, [], []⟩
def d__is_span : He.DefD := ⟨("_is_span", none), "_is_span", "_is_span", defArgs s__is_span, defBody s__is_span, defScope s__is_span, [], []⟩
def d_edges : He.DefD := ⟨("edges", none), "edges", "edges", defArgs s_edges, defBody s_edges, defScope s_edges, [], []⟩
def d_told_at : He.DefD := ⟨("told_at", none), "told_at", "told_at", defArgs s_told_at, defBody s_told_at, defScope s_told_at, [], []⟩
def d__own_spans : He.DefD := ⟨("_own_spans", none), "_own_spans", "_own_spans", defArgs s__own_spans, defBody s__own_spans, defScope s__own_spans, [], []⟩
def d_facts_at : He.DefD := ⟨("facts_at", none), "facts_at", "facts_at", defArgs s_facts_at, defBody s_facts_at, defScope s_facts_at, [], []⟩
def d_phase_at : He.DefD := ⟨("phase_at", none), "phase_at", "phase_at", defArgs s_phase_at, defBody s_phase_at, defScope s_phase_at, [], []⟩
def d_active_time : He.DefD := ⟨("active_time", none), "active_time", "active_time", defArgs s_active_time, defBody s_active_time, defScope s_active_time, [], []⟩
def d__overall_progress : He.DefD := ⟨("_overall_progress", none), "_overall_progress", "_overall_progress", defArgs s__overall_progress, defBody s__overall_progress, defScope s__overall_progress, [], []⟩
def d__simple_progress : He.DefD := ⟨("_simple_progress", none), "_simple_progress", "_simple_progress", defArgs s__simple_progress, defBody s__simple_progress, defScope s__simple_progress, [], []⟩
def d__iteration : He.DefD := ⟨("_iteration", none), "_iteration", "_iteration", defArgs s__iteration, defBody s__iteration, defScope s__iteration, [], []⟩
def d_direction : He.DefD := ⟨("direction", none), "direction", "direction", defArgs s_direction, defBody s_direction, defScope s_direction, [], []⟩
def d__law_cell_at : He.DefD := ⟨("_law_cell_at", none), "_law_cell_at", "_law_cell_at", defArgs s__law_cell_at, defBody s__law_cell_at, defScope s__law_cell_at, [], []⟩
def d__law_mixed : He.DefD := ⟨("_law_mixed", none), "_law_mixed", "_law_mixed", defArgs s__law_mixed, defBody s__law_mixed, defScope s__law_mixed, [], []⟩
def d__law_source : He.DefD := ⟨("_law_source", none), "_law_source", "_law_source", defArgs s__law_source, defBody s__law_source, defScope s__law_source, [], []⟩
def d__law_next : He.DefD := ⟨("_law_next", none), "_law_next", "_law_next", defArgs s__law_next, defBody s__law_next, defScope s__law_next, [], []⟩
def d__law_one : He.DefD := ⟨("_law_one", none), "_law_one", "_law_one", defArgs s__law_one, defBody s__law_one, defScope s__law_one, [], []⟩
def d__law_divisor : He.DefD := ⟨("_law_divisor", none), "_law_divisor", "_law_divisor", defArgs s__law_divisor, defBody s__law_divisor, defScope s__law_divisor, [], []⟩
def d__law_ratio : He.DefD := ⟨("_law_ratio", none), "_law_ratio", "_law_ratio", defArgs s__law_ratio, defBody s__law_ratio, defScope s__law_ratio, [], []⟩
def d__law_part : He.DefD := ⟨("_law_part", none), "_law_part", "_law_part", defArgs s__law_part, defBody s__law_part, defScope s__law_part, [], []⟩
def d__law_any_part : He.DefD := ⟨("_law_any_part", none), "_law_any_part", "_law_any_part", defArgs s__law_any_part, defBody s__law_any_part, defScope s__law_any_part, [], []⟩
def d__law_curve : He.DefD := ⟨("_law_curve", none), "_law_curve", "_law_curve", defArgs s__law_curve, defBody s__law_curve, defScope s__law_curve, [], []⟩
def d__law_timing : He.DefD := ⟨("_law_timing", none), "_law_timing", "_law_timing", defArgs s__law_timing, defBody s__law_timing, defScope s__law_timing, [], []⟩
def d__law_said : He.DefD := ⟨("_law_said", none), "_law_said", "_law_said", defArgs s__law_said, defBody s__law_said, defScope s__law_said, [], []⟩
def d__law_odd_parts : He.DefD := ⟨("_law_odd_parts", none), "_law_odd_parts", "_law_odd_parts", defArgs s__law_odd_parts, defBody s__law_odd_parts, defScope s__law_odd_parts, [], []⟩
def d__law_are_refused : He.DefD := ⟨("_law_are_refused", none), "_law_are_refused", "_law_are_refused", defArgs s__law_are_refused, defBody s__law_are_refused, defScope s__law_are_refused, [], []⟩
def d__law_right : He.DefD := ⟨("_law_right", none), "_law_right", "_law_right", defArgs s__law_right, defBody s__law_right, defScope s__law_right, [], []⟩
def d_law : He.DefD := ⟨("law", none), "law", "law", defArgs s_law, defBody s_law, defScope s_law, [], []⟩
abbrev s_Spans_init : Stmt := inClass (topS 43) 0
def d_Spans_init : He.DefD := ⟨("Spans", some "__init__"), "__init__", "Spans.__init__", defArgs s_Spans_init, defBody s_Spans_init, defScope s_Spans_init, [], []⟩
def fnF : List He.DefD := [d_is_whole, d_is_ratio, d_ratio, d_plus, d_minus, d_times, d_over, d_whole, d_rest, d_less, d_even_step, d_even_place, d_is_curve, d_curve_value, d__are_points, d__are_steps, d__line_value, d__stretch, d__told_stretch, d__cubic_value, d__step_value, d__most_steps, d_joined, d_repeated, d_below, d_lesser, d_greater, d_is_word, d_is_timing, d_is_amount, d__is_span, d_edges, d_told_at, d__own_spans, d_facts_at, d_phase_at, d_active_time, d__overall_progress, d__simple_progress, d__iteration, d_direction, d__law_cell_at, d__law_mixed, d__law_source, d__law_next, d__law_one, d__law_divisor, d__law_ratio, d__law_part, d__law_any_part, d__law_curve, d__law_timing, d__law_said, d__law_odd_parts, d__law_are_refused, d__law_right, d_law]
def fnM : List He.DefD := [d_Spans_init]
def fn : List He.DefD := fnF ++ fnM
def frees : List Str := ["isinstance", "len", "range", "abs", "int", "bool", "str", "max", "min", "tuple", "list"]
structure Txt (K : PySem.W.Frag) (mg : Str → Option Value) : Prop where
  defs : ∀ (i : Nat) (d : He.DefD), fnF[i]? = some d → DefOk K mg d
  free : ∀ (i : Nat) (x : Str), frees[i]? = some x → mg x = none
  gcd : mg "gcd" = some (.builtin "math.gcd")
  gZ : mg "ZERO" = some (.ref (He.ga K "ZERO"))
  zero : ∀ H, SqT K H (He.ga K "ZERO") (fr 0)
  gO : mg "ONE" = some (.ref (He.ga K "ONE"))
  one : ∀ H, SqT K H (He.ga K "ONE") (fr 1)
  gE : ∃ t, mg "ENDLESS" = some (.str "endless" t)
  gP : mg "PLAIN" = some (.ref (He.ga K "PLAIN"))
  plain : ∀ H, It K H (.ref (He.ga K "PLAIN")) (tmD plainT)
  gSpans : mg "Spans" = some (.ref (He.ga K "Spans"))
  cSpans : Cls K (He.ga K "Spans")
  mSpans : Mk K (He.ga K "Spans") (He.ma K (He.ga K "Spans") "__init__")
  nSpans_length : NoAttr K (He.ga K "Spans") "length"
  nSpans_active : NoAttr K (He.ga K "Spans") "active"
  nSpans_end : NoAttr K (He.ga K "Spans") "end"
  nSpans_first_edge : NoAttr K (He.ga K "Spans") "first_edge"
  nSpans_second_edge : NoAttr K (He.ga K "Spans") "second_edge"
  iSpans : ∃ fd, FunD K d_Spans_init.name d_Spans_init.qual d_Spans_init.params d_Spans_init.body d_Spans_init.scope (d_Spans_init.dvs K) (d_Spans_init.kws K) (He.ma K (He.ga K "Spans") "__init__") fd
  ex : ExAll K mg ["NoTiming", "NoNumber", "NoSign", "CueError"]
section
variable {P : Program} {w : World} {K : PySem.W.Frag} {mg : Str → Option Value} {base : Heap}
theorem dk_is_whole (T : Txt K mg) : DefOk K mg d_is_whole := T.defs 0 _ rfl
theorem dk_is_ratio (T : Txt K mg) : DefOk K mg d_is_ratio := T.defs 1 _ rfl
theorem dk_ratio (T : Txt K mg) : DefOk K mg d_ratio := T.defs 2 _ rfl
theorem dk_plus (T : Txt K mg) : DefOk K mg d_plus := T.defs 3 _ rfl
theorem dk_minus (T : Txt K mg) : DefOk K mg d_minus := T.defs 4 _ rfl
theorem dk_times (T : Txt K mg) : DefOk K mg d_times := T.defs 5 _ rfl
theorem dk_over (T : Txt K mg) : DefOk K mg d_over := T.defs 6 _ rfl
theorem dk_whole (T : Txt K mg) : DefOk K mg d_whole := T.defs 7 _ rfl
theorem dk_rest (T : Txt K mg) : DefOk K mg d_rest := T.defs 8 _ rfl
theorem dk_less (T : Txt K mg) : DefOk K mg d_less := T.defs 9 _ rfl
theorem dk_even_step (T : Txt K mg) : DefOk K mg d_even_step := T.defs 10 _ rfl
theorem dk_even_place (T : Txt K mg) : DefOk K mg d_even_place := T.defs 11 _ rfl
theorem dk_is_curve (T : Txt K mg) : DefOk K mg d_is_curve := T.defs 12 _ rfl
theorem dk_curve_value (T : Txt K mg) : DefOk K mg d_curve_value := T.defs 13 _ rfl
theorem dk__are_points (T : Txt K mg) : DefOk K mg d__are_points := T.defs 14 _ rfl
theorem dk__are_steps (T : Txt K mg) : DefOk K mg d__are_steps := T.defs 15 _ rfl
theorem dk__line_value (T : Txt K mg) : DefOk K mg d__line_value := T.defs 16 _ rfl
theorem dk__stretch (T : Txt K mg) : DefOk K mg d__stretch := T.defs 17 _ rfl
theorem dk__told_stretch (T : Txt K mg) : DefOk K mg d__told_stretch := T.defs 18 _ rfl
theorem dk__cubic_value (T : Txt K mg) : DefOk K mg d__cubic_value := T.defs 19 _ rfl
theorem dk__step_value (T : Txt K mg) : DefOk K mg d__step_value := T.defs 20 _ rfl
theorem dk__most_steps (T : Txt K mg) : DefOk K mg d__most_steps := T.defs 21 _ rfl
theorem dk_joined (T : Txt K mg) : DefOk K mg d_joined := T.defs 22 _ rfl
theorem dk_repeated (T : Txt K mg) : DefOk K mg d_repeated := T.defs 23 _ rfl
theorem dk_below (T : Txt K mg) : DefOk K mg d_below := T.defs 24 _ rfl
theorem dk_lesser (T : Txt K mg) : DefOk K mg d_lesser := T.defs 25 _ rfl
theorem dk_greater (T : Txt K mg) : DefOk K mg d_greater := T.defs 26 _ rfl
theorem dk_is_word (T : Txt K mg) : DefOk K mg d_is_word := T.defs 27 _ rfl
theorem dk_is_timing (T : Txt K mg) : DefOk K mg d_is_timing := T.defs 28 _ rfl
theorem dk_is_amount (T : Txt K mg) : DefOk K mg d_is_amount := T.defs 29 _ rfl
theorem dk__is_span (T : Txt K mg) : DefOk K mg d__is_span := T.defs 30 _ rfl
theorem dk_edges (T : Txt K mg) : DefOk K mg d_edges := T.defs 31 _ rfl
theorem dk_told_at (T : Txt K mg) : DefOk K mg d_told_at := T.defs 32 _ rfl
theorem dk__own_spans (T : Txt K mg) : DefOk K mg d__own_spans := T.defs 33 _ rfl
theorem dk_facts_at (T : Txt K mg) : DefOk K mg d_facts_at := T.defs 34 _ rfl
theorem dk_phase_at (T : Txt K mg) : DefOk K mg d_phase_at := T.defs 35 _ rfl
theorem dk_active_time (T : Txt K mg) : DefOk K mg d_active_time := T.defs 36 _ rfl
theorem dk__overall_progress (T : Txt K mg) : DefOk K mg d__overall_progress := T.defs 37 _ rfl
theorem dk__simple_progress (T : Txt K mg) : DefOk K mg d__simple_progress := T.defs 38 _ rfl
theorem dk__iteration (T : Txt K mg) : DefOk K mg d__iteration := T.defs 39 _ rfl
theorem dk_direction (T : Txt K mg) : DefOk K mg d_direction := T.defs 40 _ rfl
theorem dk__law_cell_at (T : Txt K mg) : DefOk K mg d__law_cell_at := T.defs 41 _ rfl
theorem dk__law_mixed (T : Txt K mg) : DefOk K mg d__law_mixed := T.defs 42 _ rfl
theorem dk__law_source (T : Txt K mg) : DefOk K mg d__law_source := T.defs 43 _ rfl
theorem dk__law_next (T : Txt K mg) : DefOk K mg d__law_next := T.defs 44 _ rfl
theorem dk__law_one (T : Txt K mg) : DefOk K mg d__law_one := T.defs 45 _ rfl
theorem dk__law_divisor (T : Txt K mg) : DefOk K mg d__law_divisor := T.defs 46 _ rfl
theorem dk__law_ratio (T : Txt K mg) : DefOk K mg d__law_ratio := T.defs 47 _ rfl
theorem dk__law_part (T : Txt K mg) : DefOk K mg d__law_part := T.defs 48 _ rfl
theorem dk__law_any_part (T : Txt K mg) : DefOk K mg d__law_any_part := T.defs 49 _ rfl
theorem dk__law_curve (T : Txt K mg) : DefOk K mg d__law_curve := T.defs 50 _ rfl
theorem dk__law_timing (T : Txt K mg) : DefOk K mg d__law_timing := T.defs 51 _ rfl
theorem dk__law_said (T : Txt K mg) : DefOk K mg d__law_said := T.defs 52 _ rfl
theorem dk__law_odd_parts (T : Txt K mg) : DefOk K mg d__law_odd_parts := T.defs 53 _ rfl
theorem dk__law_are_refused (T : Txt K mg) : DefOk K mg d__law_are_refused := T.defs 54 _ rfl
theorem dk__law_right (T : Txt K mg) : DefOk K mg d__law_right := T.defs 55 _ rfl
theorem dk_law (T : Txt K mg) : DefOk K mg d_law := T.defs 56 _ rfl
theorem m_isinstance (T : Txt K mg) : mg "isinstance" = none := T.free 0 _ rfl
theorem m_len (T : Txt K mg) : mg "len" = none := T.free 1 _ rfl
theorem m_range (T : Txt K mg) : mg "range" = none := T.free 2 _ rfl
theorem m_abs (T : Txt K mg) : mg "abs" = none := T.free 3 _ rfl
theorem m_int (T : Txt K mg) : mg "int" = none := T.free 4 _ rfl
theorem m_bool (T : Txt K mg) : mg "bool" = none := T.free 5 _ rfl
theorem m_str (T : Txt K mg) : mg "str" = none := T.free 6 _ rfl
theorem m_max (T : Txt K mg) : mg "max" = none := T.free 7 _ rfl
theorem m_min (T : Txt K mg) : mg "min" = none := T.free 8 _ rfl
theorem m_tuple (T : Txt K mg) : mg "tuple" = none := T.free 9 _ rfl
theorem m_list (T : Txt K mg) : mg "list" = none := T.free 10 _ rfl
abbrev n_is_whole : List Str := ["thing"]
theorem st_is_whole (x0 : V) : L2.start n_is_whole [x0] = [some x0] := rfl
theorem sc_is_whole : FnScope n_is_whole ["thing"] (defScope s_is_whole) := ⟨rfl, rfl, rfl, by decide +kernel, rfl, by decide +kernel, by decide +kernel⟩
abbrev n_is_ratio : List Str := ["thing", "top", "bottom"]
theorem st_is_ratio (x0 : V) : L2.start n_is_ratio [x0] = [some x0, none, none] := rfl
theorem sc_is_ratio : FnScope n_is_ratio ["thing"] (defScope s_is_ratio) := ⟨rfl, rfl, rfl, by decide +kernel, rfl, by decide +kernel, by decide +kernel⟩
abbrev n_ratio : List Str := ["top", "bottom", "shared"]
theorem st_ratio (x0 x1 : V) : L2.start n_ratio [x0, x1] = [some x0, some x1, none] := rfl
theorem sc_ratio : FnScope n_ratio ["top", "bottom"] (defScope s_ratio) := ⟨rfl, rfl, rfl, by decide +kernel, rfl, by decide +kernel, by decide +kernel⟩
abbrev n_plus : List Str := ["a", "b"]
theorem st_plus (x0 x1 : V) : L2.start n_plus [x0, x1] = [some x0, some x1] := rfl
theorem sc_plus : FnScope n_plus ["a", "b"] (defScope s_plus) := ⟨rfl, rfl, rfl, by decide +kernel, rfl, by decide +kernel, by decide +kernel⟩
abbrev n_minus : List Str := ["a", "b"]
theorem st_minus (x0 x1 : V) : L2.start n_minus [x0, x1] = [some x0, some x1] := rfl
theorem sc_minus : FnScope n_minus ["a", "b"] (defScope s_minus) := ⟨rfl, rfl, rfl, by decide +kernel, rfl, by decide +kernel, by decide +kernel⟩
abbrev n_times : List Str := ["a", "b"]
theorem st_times (x0 x1 : V) : L2.start n_times [x0, x1] = [some x0, some x1] := rfl
theorem sc_times : FnScope n_times ["a", "b"] (defScope s_times) := ⟨rfl, rfl, rfl, by decide +kernel, rfl, by decide +kernel, by decide +kernel⟩
abbrev n_over : List Str := ["a", "b"]
theorem st_over (x0 x1 : V) : L2.start n_over [x0, x1] = [some x0, some x1] := rfl
theorem sc_over : FnScope n_over ["a", "b"] (defScope s_over) := ⟨rfl, rfl, rfl, by decide +kernel, rfl, by decide +kernel, by decide +kernel⟩
abbrev n_whole : List Str := ["a"]
theorem st_whole (x0 : V) : L2.start n_whole [x0] = [some x0] := rfl
theorem sc_whole : FnScope n_whole ["a"] (defScope s_whole) := ⟨rfl, rfl, rfl, by decide +kernel, rfl, by decide +kernel, by decide +kernel⟩
abbrev n_rest : List Str := ["a"]
theorem st_rest (x0 : V) : L2.start n_rest [x0] = [some x0] := rfl
theorem sc_rest : FnScope n_rest ["a"] (defScope s_rest) := ⟨rfl, rfl, rfl, by decide +kernel, rfl, by decide +kernel, by decide +kernel⟩
abbrev n_less : List Str := ["a", "b"]
theorem st_less (x0 x1 : V) : L2.start n_less [x0, x1] = [some x0, some x1] := rfl
theorem sc_less : FnScope n_less ["a", "b"] (defScope s_less) := ⟨rfl, rfl, rfl, by decide +kernel, rfl, by decide +kernel, by decide +kernel⟩
abbrev n_even_step : List Str := ["low", "high", "k", "count", "bottom"]
theorem st_even_step (x0 x1 x2 x3 : V) : L2.start n_even_step [x0, x1, x2, x3] = [some x0, some x1, some x2, some x3, none] := rfl
theorem sc_even_step : FnScope n_even_step ["low", "high", "k", "count"] (defScope s_even_step) := ⟨rfl, rfl, rfl, by decide +kernel, rfl, by decide +kernel, by decide +kernel⟩
abbrev n_even_place : List Str := ["low", "high", "count", "x", "way", "gone"]
theorem st_even_place (x0 x1 x2 x3 : V) : L2.start n_even_place [x0, x1, x2, x3] = [some x0, some x1, some x2, some x3, none, none] := rfl
theorem sc_even_place : FnScope n_even_place ["low", "high", "count", "x"] (defScope s_even_place) := ⟨rfl, rfl, rfl, by decide +kernel, rfl, by decide +kernel, by decide +kernel⟩
abbrev n_is_curve : List Str := ["thing"]
theorem st_is_curve (x0 : V) : L2.start n_is_curve [x0] = [some x0] := rfl
theorem sc_is_curve : FnScope n_is_curve ["thing"] (defScope s_is_curve) := ⟨rfl, rfl, rfl, by decide +kernel, rfl, by decide +kernel, by decide +kernel⟩
abbrev n_curve_value : List Str := ["curve", "x", "before"]
theorem st_curve_value (x0 x1 x2 : V) : L2.start n_curve_value [x0, x1, x2] = [some x0, some x1, some x2] := rfl
theorem sc_curve_value : FnScope n_curve_value ["curve", "x", "before"] (defScope s_curve_value) := ⟨rfl, rfl, rfl, by decide +kernel, rfl, by decide +kernel, by decide +kernel⟩
abbrev n__are_points : List Str := ["thing", "point", "value", "place"]
theorem st__are_points (x0 : V) : L2.start n__are_points [x0] = [some x0, none, none, none] := rfl
theorem sc__are_points : FnScope n__are_points ["thing"] (defScope s__are_points) := ⟨rfl, rfl, rfl, by decide +kernel, rfl, by decide +kernel, by decide +kernel⟩
abbrev n__are_steps : List Str := ["count", "where"]
theorem st__are_steps (x0 x1 : V) : L2.start n__are_steps [x0, x1] = [some x0, some x1] := rfl
theorem sc__are_steps : FnScope n__are_steps ["count", "where"] (defScope s__are_steps) := ⟨rfl, rfl, rfl, by decide +kernel, rfl, by decide +kernel, by decide +kernel⟩
abbrev n__line_value : List Str := ["points", "x", "low", "high", "part", "first", "low_place", "high_place"]
theorem st__line_value (x0 x1 : V) : L2.start n__line_value [x0, x1] = [some x0, some x1, none, none, none, none, none, none] := rfl
theorem sc__line_value : FnScope n__line_value ["points", "x"] (defScope s__line_value) := ⟨rfl, rfl, rfl, by decide +kernel, rfl, by decide +kernel, by decide +kernel⟩
abbrev n__stretch : List Str := ["points", "x", "count", "start", "low", "low_place", "high", "high_place", "gone"]
theorem st__stretch (x0 x1 : V) : L2.start n__stretch [x0, x1] = [some x0, some x1, none, none, none, none, none, none, none] := rfl
theorem sc__stretch : FnScope n__stretch ["points", "x"] (defScope s__stretch) := ⟨rfl, rfl, rfl, by decide +kernel, rfl, by decide +kernel, by decide +kernel⟩
abbrev n__told_stretch : List Str := ["points", "x", "last", "low", "low_place", "at", "place", "top", "bottom"]
theorem st__told_stretch (x0 x1 : V) : L2.start n__told_stretch [x0, x1] = [some x0, some x1, none, none, none, none, none, none, none] := rfl
theorem sc__told_stretch : FnScope n__told_stretch ["points", "x"] (defScope s__told_stretch) := ⟨rfl, rfl, rfl, by decide +kernel, rfl, by decide +kernel, by decide +kernel⟩
abbrev n__cubic_value : List Str := ["a", "b", "x", "rest", "bend"]
theorem st__cubic_value (x0 x1 x2 : V) : L2.start n__cubic_value [x0, x1, x2] = [some x0, some x1, some x2, none, none] := rfl
theorem sc__cubic_value : FnScope n__cubic_value ["a", "b", "x"] (defScope s__cubic_value) := ⟨rfl, rfl, rfl, by decide +kernel, rfl, by decide +kernel, by decide +kernel⟩
abbrev n__step_value : List Str := ["count", "where", "x", "before", "scaled", "done", "most"]
theorem st__step_value (x0 x1 x2 x3 : V) : L2.start n__step_value [x0, x1, x2, x3] = [some x0, some x1, some x2, some x3, none, none, none] := rfl
theorem sc__step_value : FnScope n__step_value ["count", "where", "x", "before"] (defScope s__step_value) := ⟨rfl, rfl, rfl, by decide +kernel, rfl, by decide +kernel, by decide +kernel⟩
abbrev n__most_steps : List Str := ["count", "where"]
theorem st__most_steps (x0 x1 : V) : L2.start n__most_steps [x0, x1] = [some x0, some x1] := rfl
theorem sc__most_steps : FnScope n__most_steps ["count", "where"] (defScope s__most_steps) := ⟨rfl, rfl, rfl, by decide +kernel, rfl, by decide +kernel, by decide +kernel⟩
abbrev n_joined : List Str := ["a", "b"]
theorem st_joined (x0 x1 : V) : L2.start n_joined [x0, x1] = [some x0, some x1] := rfl
theorem sc_joined : FnScope n_joined ["a", "b"] (defScope s_joined) := ⟨rfl, rfl, rfl, by decide +kernel, rfl, by decide +kernel, by decide +kernel⟩
abbrev n_repeated : List Str := ["a", "b"]
theorem st_repeated (x0 x1 : V) : L2.start n_repeated [x0, x1] = [some x0, some x1] := rfl
theorem sc_repeated : FnScope n_repeated ["a", "b"] (defScope s_repeated) := ⟨rfl, rfl, rfl, by decide +kernel, rfl, by decide +kernel, by decide +kernel⟩
abbrev n_below : List Str := ["a", "b"]
theorem st_below (x0 x1 : V) : L2.start n_below [x0, x1] = [some x0, some x1] := rfl
theorem sc_below : FnScope n_below ["a", "b"] (defScope s_below) := ⟨rfl, rfl, rfl, by decide +kernel, rfl, by decide +kernel, by decide +kernel⟩
abbrev n_lesser : List Str := ["a", "b"]
theorem st_lesser (x0 x1 : V) : L2.start n_lesser [x0, x1] = [some x0, some x1] := rfl
theorem sc_lesser : FnScope n_lesser ["a", "b"] (defScope s_lesser) := ⟨rfl, rfl, rfl, by decide +kernel, rfl, by decide +kernel, by decide +kernel⟩
abbrev n_greater : List Str := ["a", "b"]
theorem st_greater (x0 x1 : V) : L2.start n_greater [x0, x1] = [some x0, some x1] := rfl
theorem sc_greater : FnScope n_greater ["a", "b"] (defScope s_greater) := ⟨rfl, rfl, rfl, by decide +kernel, rfl, by decide +kernel, by decide +kernel⟩
abbrev n_is_word : List Str := ["thing", "words"]
theorem st_is_word (x0 x1 : V) : L2.start n_is_word [x0, x1] = [some x0, some x1] := rfl
theorem sc_is_word : FnScope n_is_word ["thing", "words"] (defScope s_is_word) := ⟨rfl, rfl, rfl, by decide +kernel, rfl, by decide +kernel, by decide +kernel⟩
abbrev n_is_timing : List Str := ["thing", "delay", "behind", "fill", "first", "times", "length", "way", "curve"]
theorem st_is_timing (x0 : V) : L2.start n_is_timing [x0] = [some x0, none, none, none, none, none, none, none, none] := rfl
theorem sc_is_timing : FnScope n_is_timing ["thing"] (defScope s_is_timing) := ⟨rfl, rfl, rfl, by decide +kernel, rfl, by decide +kernel, by decide +kernel⟩
abbrev n_is_amount : List Str := ["thing"]
theorem st_is_amount (x0 : V) : L2.start n_is_amount [x0] = [some x0] := rfl
theorem sc_is_amount : FnScope n_is_amount ["thing"] (defScope s_is_amount) := ⟨rfl, rfl, rfl, by decide +kernel, rfl, by decide +kernel, by decide +kernel⟩
abbrev n__is_span : List Str := ["thing"]
theorem st__is_span (x0 : V) : L2.start n__is_span [x0] = [some x0] := rfl
theorem sc__is_span : FnScope n__is_span ["thing"] (defScope s__is_span) := ⟨rfl, rfl, rfl, by decide +kernel, rfl, by decide +kernel, by decide +kernel⟩
abbrev n_edges : List Str := ["timing", "spans"]
theorem st_edges (x0 : V) : L2.start n_edges [x0] = [some x0, none] := rfl
theorem sc_edges : FnScope n_edges ["timing"] (defScope s_edges) := ⟨rfl, rfl, rfl, by decide +kernel, rfl, by decide +kernel, by decide +kernel⟩
abbrev n_told_at : List Str := ["timing", "time", "sign"]
theorem st_told_at (x0 x1 x2 : V) : L2.start n_told_at [x0, x1, x2] = [some x0, some x1, some x2] := rfl
theorem sc_told_at : FnScope n_told_at ["timing", "time", "sign"] (defScope s_told_at) := ⟨rfl, rfl, rfl, by decide +kernel, rfl, by decide +kernel, by decide +kernel⟩
abbrev n__own_spans : List Str := ["timing"]
theorem st__own_spans (x0 : V) : L2.start n__own_spans [x0] = [some x0] := rfl
theorem sc__own_spans : FnScope n__own_spans ["timing"] (defScope s__own_spans) := ⟨rfl, rfl, rfl, by decide +kernel, rfl, by decide +kernel, by decide +kernel⟩
abbrev n_facts_at : List Str := ["timing", "spans", "time", "sign", "phase", "elapsed", "overall", "simple", "iteration", "way", "directed", "before"]
theorem st_facts_at (x0 x1 x2 x3 : V) : L2.start n_facts_at [x0, x1, x2, x3] = [some x0, some x1, some x2, some x3, none, none, none, none, none, none, none, none] := rfl
theorem sc_facts_at : FnScope n_facts_at ["timing", "spans", "time", "sign"] (defScope s_facts_at) := ⟨rfl, rfl, rfl, by decide +kernel, rfl, by decide +kernel, by decide +kernel⟩
abbrev n_phase_at : List Str := ["spans", "time", "sign"]
theorem st_phase_at (x0 x1 x2 : V) : L2.start n_phase_at [x0, x1, x2] = [some x0, some x1, some x2] := rfl
theorem sc_phase_at : FnScope n_phase_at ["spans", "time", "sign"] (defScope s_phase_at) := ⟨rfl, rfl, rfl, by decide +kernel, rfl, by decide +kernel, by decide +kernel⟩
abbrev n_active_time : List Str := ["delay", "spans", "fill", "phase", "time"]
theorem st_active_time (x0 x1 x2 x3 x4 : V) : L2.start n_active_time [x0, x1, x2, x3, x4] = [some x0, some x1, some x2, some x3, some x4] := rfl
theorem sc_active_time : FnScope n_active_time ["delay", "spans", "fill", "phase", "time"] (defScope s_active_time) := ⟨rfl, rfl, rfl, by decide +kernel, rfl, by decide +kernel, by decide +kernel⟩
abbrev n__overall_progress : List Str := ["timing", "spans", "phase", "elapsed", "first"]
theorem st__overall_progress (x0 x1 x2 x3 : V) : L2.start n__overall_progress [x0, x1, x2, x3] = [some x0, some x1, some x2, some x3, none] := rfl
theorem sc__overall_progress : FnScope n__overall_progress ["timing", "spans", "phase", "elapsed"] (defScope s__overall_progress) := ⟨rfl, rfl, rfl, by decide +kernel, rfl, by decide +kernel, by decide +kernel⟩
abbrev n__simple_progress : List Str := ["timing", "spans", "phase", "elapsed", "overall", "simple", "at_end"]
theorem st__simple_progress (x0 x1 x2 x3 x4 : V) : L2.start n__simple_progress [x0, x1, x2, x3, x4] = [some x0, some x1, some x2, some x3, some x4, none, none] := rfl
theorem sc__simple_progress : FnScope n__simple_progress ["timing", "spans", "phase", "elapsed", "overall"] (defScope s__simple_progress) := ⟨rfl, rfl, rfl, by decide +kernel, rfl, by decide +kernel, by decide +kernel⟩
abbrev n__iteration : List Str := ["timing", "phase", "overall", "simple"]
theorem st__iteration (x0 x1 x2 x3 : V) : L2.start n__iteration [x0, x1, x2, x3] = [some x0, some x1, some x2, some x3] := rfl
theorem sc__iteration : FnScope n__iteration ["timing", "phase", "overall", "simple"] (defScope s__iteration) := ⟨rfl, rfl, rfl, by decide +kernel, rfl, by decide +kernel, by decide +kernel⟩
abbrev n_direction : List Str := ["timing", "iteration", "way", "even"]
theorem st_direction (x0 x1 : V) : L2.start n_direction [x0, x1] = [some x0, some x1, none, none] := rfl
theorem sc_direction : FnScope n_direction ["timing", "iteration"] (defScope s_direction) := ⟨rfl, rfl, rfl, by decide +kernel, rfl, by decide +kernel, by decide +kernel⟩
abbrev n__law_cell_at : List Str := ["_law_script", "_law_k"]
theorem st__law_cell_at (x0 x1 : V) : L2.start n__law_cell_at [x0, x1] = [some x0, some x1] := rfl
theorem sc__law_cell_at : FnScope n__law_cell_at ["_law_script", "_law_k"] (defScope s__law_cell_at) := ⟨rfl, rfl, rfl, by decide +kernel, rfl, by decide +kernel, by decide +kernel⟩
abbrev n__law_mixed : List Str := ["_law_cell", "_law_k", "_law_low"]
theorem st__law_mixed (x0 x1 : V) : L2.start n__law_mixed [x0, x1] = [some x0, some x1, none] := rfl
theorem sc__law_mixed : FnScope n__law_mixed ["_law_cell", "_law_k"] (defScope s__law_mixed) := ⟨rfl, rfl, rfl, by decide +kernel, rfl, by decide +kernel, by decide +kernel⟩
abbrev n__law_source : List Str := ["_law_script", "_law_k", "_law_cell"]
theorem st__law_source (x0 x1 : V) : L2.start n__law_source [x0, x1] = [some x0, some x1, none] := rfl
theorem sc__law_source : FnScope n__law_source ["_law_script", "_law_k"] (defScope s__law_source) := ⟨rfl, rfl, rfl, by decide +kernel, rfl, by decide +kernel, by decide +kernel⟩
abbrev n__law_next : List Str := ["_law_source_here", "_law_many", "_law_found"]
theorem st__law_next (x0 x1 : V) : L2.start n__law_next [x0, x1] = [some x0, some x1, none] := rfl
theorem sc__law_next : FnScope n__law_next ["_law_source_here", "_law_many"] (defScope s__law_next) := ⟨rfl, rfl, rfl, by decide +kernel, rfl, by decide +kernel, by decide +kernel⟩
abbrev n__law_one : List Str := ["_law_source_here", "_law_things"]
theorem st__law_one (x0 x1 : V) : L2.start n__law_one [x0, x1] = [some x0, some x1] := rfl
theorem sc__law_one : FnScope n__law_one ["_law_source_here", "_law_things"] (defScope s__law_one) := ⟨rfl, rfl, rfl, by decide +kernel, rfl, by decide +kernel, by decide +kernel⟩
abbrev n__law_divisor : List Str := ["_law_one_here", "_law_other"]
theorem st__law_divisor (x0 x1 : V) : L2.start n__law_divisor [x0, x1] = [some x0, some x1] := rfl
theorem sc__law_divisor : FnScope n__law_divisor ["_law_one_here", "_law_other"] (defScope s__law_divisor) := ⟨rfl, rfl, rfl, by decide +kernel, rfl, by decide +kernel, by decide +kernel⟩
abbrev n__law_ratio : List Str := ["_law_top", "_law_bottom", "_law_measure"]
theorem st__law_ratio (x0 x1 : V) : L2.start n__law_ratio [x0, x1] = [some x0, some x1, none] := rfl
theorem sc__law_ratio : FnScope n__law_ratio ["_law_top", "_law_bottom"] (defScope s__law_ratio) := ⟨rfl, rfl, rfl, by decide +kernel, rfl, by decide +kernel, by decide +kernel⟩
abbrev n__law_part : List Str := ["_law_source_here", "_law_way"]
theorem st__law_part (x0 : V) : L2.start n__law_part [x0] = [some x0, none] := rfl
theorem sc__law_part : FnScope n__law_part ["_law_source_here"] (defScope s__law_part) := ⟨rfl, rfl, rfl, by decide +kernel, rfl, by decide +kernel, by decide +kernel⟩
abbrev n__law_any_part : List Str := ["_law_source_here", "_law_found"]
theorem st__law_any_part (x0 : V) : L2.start n__law_any_part [x0] = [some x0, none] := rfl
theorem sc__law_any_part : FnScope n__law_any_part ["_law_source_here"] (defScope s__law_any_part) := ⟨rfl, rfl, rfl, by decide +kernel, rfl, by decide +kernel, by decide +kernel⟩
abbrev n__law_curve : List Str := ["_law_source_here", "_law_way", "_law_found", "_law_turn", "_law_where", "_law_told"]
theorem st__law_curve (x0 : V) : L2.start n__law_curve [x0] = [some x0, none, none, none, none, none] := rfl
theorem sc__law_curve : FnScope n__law_curve ["_law_source_here"] (defScope s__law_curve) := ⟨rfl, rfl, rfl, by decide +kernel, rfl, by decide +kernel, by decide +kernel⟩
abbrev n__law_timing : List Str := ["_law_source_here", "_law_delay", "_law_behind", "_law_fill", "_law_first", "_law_many", "_law_lengths", "_law_length", "_law_way"]
theorem st__law_timing (x0 : V) : L2.start n__law_timing [x0] = [some x0, none, none, none, none, none, none, none, none] := rfl
theorem sc__law_timing : FnScope n__law_timing ["_law_source_here"] (defScope s__law_timing) := ⟨rfl, rfl, rfl, by decide +kernel, rfl, by decide +kernel, by decide +kernel⟩
abbrev n__law_said : List Str := ["_law_ask"]
theorem st__law_said (x0 : V) : L2.start n__law_said [x0] = [some x0] := rfl
theorem sc__law_said : FnScope n__law_said ["_law_ask"] (defScope s__law_said) := ⟨rfl, rfl, rfl, by decide +kernel, rfl, by decide +kernel, by decide +kernel⟩
abbrev n__law_odd_parts : List Str := ["_law_k", "_law_numbers"]
theorem st__law_odd_parts (x0 : V) : L2.start n__law_odd_parts [x0] = [some x0, none] := rfl
theorem sc__law_odd_parts : FnScope n__law_odd_parts ["_law_k"] (defScope s__law_odd_parts) := ⟨rfl, rfl, rfl, by decide +kernel, rfl, by decide +kernel, by decide +kernel⟩
abbrev n__law_are_refused : List Str := ["_law_odd", "_law_asks", "_law_ask"]
theorem st__law_are_refused (x0 : V) : L2.start n__law_are_refused [x0] = [some x0, none, none] := rfl
theorem sc__law_are_refused : FnScope n__law_are_refused ["_law_odd"] (defScope s__law_are_refused) := ⟨rfl, rfl, rfl, by decide +kernel, rfl, by decide +kernel, by decide +kernel⟩
abbrev n__law_right : List Str := ["_law_source_here", "_law_mine", "_law_odd", "_law_k", "_law_moment"]
theorem st__law_right (x0 : V) : L2.start n__law_right [x0] = [some x0, none, none, none, none] := rfl
theorem sc__law_right : FnScope n__law_right ["_law_source_here"] (defScope s__law_right) := ⟨rfl, rfl, rfl, by decide +kernel, rfl, by decide +kernel, by decide +kernel⟩
abbrev n_law : List Str := ["_law_script", "_law_k", "_law_odd", "_law_straight"]
theorem st_law (x0 : V) : L2.start n_law [x0] = [some x0, none, none, none] := rfl
theorem sc_law : FnScope n_law ["_law_script"] (defScope s_law) := ⟨rfl, rfl, rfl, by decide +kernel, rfl, by decide +kernel, by decide +kernel⟩
abbrev n_Spans_init : List Str := ["self", "timing", "length", "delay", "over_at"]
theorem st_Spans_init (x0 x1 x2 : V) : L2.start n_Spans_init [x0, x1, x2] = [some x0, some x1, some x2, none, none] := rfl
theorem sc_Spans_init : FnScope n_Spans_init ["self", "timing", "length"] (defScope s_Spans_init) := ⟨rfl, rfl, rfl, by decide +kernel, rfl, by decide +kernel, by decide +kernel⟩
end
end FC
namespace FC
open PySem L2
section
variable {P : Program} {w : World} {K : PySem.W.Frag} {mg : Str → Option Value} {base : Heap}
local macro_rules | `(tactic| walk_at "mul") => `(tactic| first
  | assumption
  | exact Sm.nn (by assumption) (by assumption)
  | exact Sm.nd (by assumption) (by assumption)
  | exact Sm.dn (by assumption) (by assumption)
  | exact Sm.dd (by assumption) (by assumption)
  | exact Pr.nn (by assumption)
  | exact Pr.nd (by assumption)
  | exact Pr.dn (by assumption)
  | exact Pr.dd (by assumption)
  | exact Pr.nd (Pr.symm (by assumption)))
local macro_rules | `(tactic| walk_at "bd") => `(tactic| first
  | assumption
  | exact Bd.q0 | exact Bd.q1 | exact Bd.q2 | exact Bd.q3
  | (with_reducible apply Bd.add; walk_at "bd"; walk_at "bd")
  | (with_reducible apply Bd.sub; walk_at "bd"; walk_at "bd")
  | (with_reducible apply Bd.mul; walk_at "bd"; walk_at "bd"))
local macro_rules | `(tactic| walk_at "sm") => `(tactic| first
  | assumption
  | (with_reducible apply Sm.of; walk_at "bd"; decide))
local macro_rules | `(tactic| walk_at "pr") => `(tactic| first
  | assumption
  | (with_reducible apply Pr.bd; walk_at "bd"; walk_at "bd"; decide))
local macro_rules | `(tactic| walk_at "src") => `(tactic| first
  | assumption
  | (refine Same.src (by assumption) ?_; walk_at "src"))
local macro_rules | `(tactic| walk_at "frm") => `(tactic| first
  | assumption
  | exact Frm.refl _ _
  | (refine Frm.trans ?_ (by assumption); walk_at "frm")
  | (refine Frm.trans ?_ (Frm.of (by assumption)); walk_at "frm"))
local macro_rules | `(tactic| walk_at "trk") => `(tactic| first
  | assumption
  | (with_reducible apply Same.trk; assumption; walk_at "trk")
  | (with_reducible apply Frm.trk; assumption; assumption; walk_at "trk"))
local macro_rules | `(tactic| walk_at "same") => `(tactic| first
  | assumption
  | exact Same.refl _
  | (refine Same.trans ?_ (by assumption); walk_at "same"))
local macro_rules | `(tactic| walk_at "sq") => `(tactic| first
  | assumption
  | (with_reducible exact (by assumption : ∀ H, SqT _ H _ _) _)
  | (with_reducible apply SqT.tr; assumption)
  | (with_reducible apply lit0; first | assumption | (with_reducible apply SqT.tr; assumption))
  | (with_reducible apply lit1; first | assumption | (with_reducible apply SqT.tr; assumption))
  | (with_reducible apply lit2; first | assumption | (with_reducible apply SqT.tr; assumption))
  | (with_reducible apply lit3; first | assumption | (with_reducible apply SqT.tr; assumption))
  | (with_reducible apply Same.sqT; assumption; walk_at "sq")
  | (with_reducible apply Frm.sqT; assumption; walk_at "src"; walk_at "sq"))
local macro_rules | `(tactic| walk_at "sl") => `(tactic| first
  | assumption
  | (with_reducible apply SqL.tr; assumption)
  | (with_reducible apply Same.seq; assumption; walk_at "sl"))
local macro_rules | `(tactic| walk_at "v") => `(tactic| first
  | with_reducible apply v0
  | with_reducible apply v1
  | with_reducible apply v2
  | with_reducible apply v3
  | with_reducible apply v4
  | with_reducible apply v5
  | with_reducible apply v6
  | with_reducible apply v7
  | with_reducible apply v8
  | with_reducible apply v9
  | with_reducible apply g0
  | with_reducible apply g1
  | with_reducible apply g2
  | with_reducible apply g3
  | with_reducible apply g4
  | with_reducible apply g5
  | with_reducible apply g6
  | with_reducible apply g7
  | with_reducible apply g8
  | with_reducible apply g9
  | with_reducible apply v10
  | with_reducible apply g10
  | with_reducible apply v11
  | with_reducible apply g11
  | with_reducible apply v12
  | with_reducible apply g12
  | with_reducible apply v13
  | with_reducible apply g13
  | with_reducible apply v14
  | with_reducible apply g14
  | with_reducible apply v15
  | with_reducible apply g15
  | with_reducible apply v16
  | with_reducible apply g16
  | with_reducible apply v17
  | with_reducible apply g17
  | with_reducible apply v18
  | with_reducible apply g18
  | with_reducible apply v19
  | with_reducible apply g19)
local macro_rules | `(tactic| walk_at "x") => `(tactic| first
  | with_reducible apply xseq
  | with_reducible apply xasg
  | with_reducible apply xop
  | with_reducible apply xc
  | with_reducible apply xcons
  | with_reducible apply xnil
  | with_reducible apply xcall
  | with_reducible apply xcb
  | with_reducible apply xret
  | with_reducible apply xifs
  | with_reducible apply xtest
  | with_reducible apply xtB
  | with_reducible apply xbl
  | with_reducible apply xtup
  | with_reducible apply xlst
  | with_reducible apply xnot
  | with_reducible apply xandv
  | with_reducible apply xorv
  | with_reducible apply xnotv
  | with_reducible apply xif
  | with_reducible apply xisN
  | with_reducible apply xnotN
  | with_reducible apply xun
  | with_reducible apply xnext
  | with_reducible apply xdrop
  | with_reducible apply xcont
  | with_reducible apply xfld
  | with_reducible apply xsl
  | with_reducible apply xnop
  | with_reducible apply xpart
  | with_reducible apply part1_
  | with_reducible apply xsfld
  | with_reducible apply xmake
  | with_reducible apply xapp
  | (with_reducible apply app1_; walk_at "trk")
  | with_reducible apply xext
  | (with_reducible apply ext1_; walk_at "trk")
  | with_reducible apply xlcE
  | with_reducible apply gcons_
  | with_reducible apply gnil_
  | with_reducible apply xpar
  | (with_reducible apply xpar2; dsimp only [List.set_cons_zero, List.set_cons_succ])
  | with_reducible apply xcall1
  | with_reducible apply xcallK
  | with_reducible apply cat2_
  | with_reducible apply kw1_
  | with_reducible apply xkw0
  | with_reducible apply kw0_
  | with_reducible apply kw2_
  | with_reducible apply xforL
  | with_reducible apply xforT
  | with_reducible apply xforR
  | with_reducible apply xforR2
  | (with_reducible apply rng_; decide; decide)
  | with_reducible apply xlcT
  | with_reducible apply xlcL
  | with_reducible apply xlcR
  | with_reducible apply xlcR2
  | with_reducible apply xsub)
local macro_rules | `(tactic| walk_at "n") => `(tactic| first
  | with_reducible apply nadd_
  | with_reducible apply nsub_
  | with_reducible apply nlt_
  | with_reducible apply nle_
  | with_reducible apply ngt_
  | with_reducible apply nge_
  | with_reducible apply nneg_
  | (with_reducible apply nmul_; walk_at "mul")
  | with_reducible apply neq_
  | with_reducible apply nne_
  | with_reducible apply seq_
  | with_reducible apply isiII_
  | with_reducible apply isiIB_
  | with_reducible apply isiBB_
  | with_reducible apply isiSS_
  | (with_reducible apply isiT_; walk_at "sq")
  | with_reducible apply gcd_
  | with_reducible apply abs_
  | with_reducible apply intI_
  | with_reducible apply intB_
  | with_reducible apply max_
  | with_reducible apply min_
  | (with_reducible apply tup_; (first | exact sz2 | exact sz3 | exact sz1 | exact sz4 | exact sz0 | (with_unfolding_all refine szN ?_; simp only [List.length_cons, List.length_nil]; omega)); intro _ _ _ _ _)
  | (with_reducible apply lst_; (first | exact sz2 | exact sz3 | exact sz1 | exact sz4 | exact sz0 | (with_unfolding_all refine szN ?_; simp only [List.length_cons, List.length_nil]; omega)); intro _ _ _ _ _))
local macro_rules | `(tactic| walk_at "ix") => `(tactic| first
  | (with_reducible apply ixT_; walk_at "sq"; with_unfolding_all exact rfl)
  | (with_reducible apply lenT_; walk_at "sq")
  | (with_reducible apply lenL_; walk_at "sl")
  | (with_reducible apply ixL_; walk_at "sl"; with_unfolding_all exact rfl))
local macro_rules | `(tactic| walk_at "call") => `(tactic| first
  | (with_reducible apply plus_; walk_at "sq"; walk_at "sq"; walk_at "sm"; walk_at "sm"; intro _ _ _ _)
  | (with_reducible apply minus_; walk_at "sq"; walk_at "sq"; walk_at "sm"; walk_at "sm"; intro _ _ _ _)
  | (with_reducible apply times_; walk_at "sq"; walk_at "sq"; walk_at "sm"; walk_at "sm"; intro _ _ _ _)
  | (with_reducible apply less_; walk_at "sq"; walk_at "sq"; walk_at "sm"; walk_at "sm")
  | (with_reducible apply plusP_; walk_at "sq"; walk_at "sq"; walk_at "pr"; intro _ _ _ _)
  | (with_reducible apply minusP_; walk_at "sq"; walk_at "sq"; walk_at "pr"; intro _ _ _ _)
  | (with_reducible apply timesP_; walk_at "sq"; walk_at "sq"; walk_at "pr"; intro _ _ _ _)
  | (with_reducible apply lessP_; walk_at "sq"; walk_at "sq"; walk_at "pr")
  | with_reducible apply whole_
  | (with_reducible apply isra_; walk_at "sq")
  | (with_reducible apply part_; walk_at "src"; intro _ _ _ _ _ _ _ _)
  | (with_reducible apply anyp_; walk_at "src"; intro _ _ _ _ _ _ _)
  | (with_reducible apply mixed_; intro _)
  | (with_reducible apply next_; walk_at "src"; decide; decide; intro _ _ _ _ _ _))
local macro_rules | `(tactic| walk_at "no") => `(tactic| first | assumption | omega | decide | (simp only [List.length_cons, List.length_nil]; omega) | exact ref_ne_non | exact some_ne_none)
local macro_rules | `(tactic| walk_at "yes") => `(tactic| first | assumption | exact rfl | omega)
local macro_rules | `(tactic| walk_at "w") => `(tactic| first
  | with_reducible apply wTt
  | with_reducible apply wFf
  | with_reducible apply wNt
  | with_reducible apply wNf
  | (with_reducible apply wDt; with_unfolding_all walk_at "yes")
  | (with_reducible apply wDf; with_unfolding_all walk_at "no")
  | (with_reducible apply wNDt; with_unfolding_all walk_at "yes")
  | (with_reducible apply wNDf; with_unfolding_all walk_at "no")
  | (with_reducible apply gtup2_; walk_at "sq"; with_unfolding_all exact rfl; with_unfolding_all exact rfl)
  | (with_reducible apply gtupN_; walk_at "sq"; with_unfolding_all exact rfl))
local macro_rules | `(tactic| walk_at "ao") => `(tactic| first
  | with_reducible apply xand
  | with_reducible apply xor)
local macro_rules | `(tactic| walk_at "sn") => `(tactic| first
  | walk_at "v"
  | walk_at "x"
  | walk_at "n"
  | walk_at "ix"
  | walk_at "call"
  | walk_at "w")
local macro_rules | `(tactic| walk_at "gn") => `(tactic| (repeat walk_at "sn"))
local macro_rules | `(tactic| walk_at "st") => `(tactic| first
  | walk_at "sn"
  | walk_at "ao")
local macro_rules | `(tactic| walk_at "go") => `(tactic| (repeat walk_at "st"))

theorem ok_ratio (T : Txt K mg) : Good P w K mg base "ratio" 1 ["top", "bottom"] (spRatio K) := by
  obtain ⟨gM, fd, F⟩ := dk_ratio T
  have z0 : ∀ H, SqT K H (He.ga K "ZERO") (fr 0) := T.zero
  have z1 : ∀ H, SqT K H (He.ga K "ONE") (fr 1) := T.one
  refine ⟨gM, F.kp, fd, F.bindsN (fun _ _ _ _ _ _ us hl => match us, hl with | [_, _], _ => rfl), F.ok sc_ratio ?_ (fun cdv A outer s H vs Q E hr h => ⟨_, PSs.nox (pss_cons (ps_set (i := 2) sc_ratio.nd rfl (Or.inl rfl) (pe_callBfun cr_gcd (by rfl) T.gcd (pa_cons (pv 0) (pa_cons (pv 1) pa_nil))))
    (pss_cons (ps_if (pt_cmpR op_lt (pv 1) pe_int (nomark _)) pss_never pss_nil)
    (pss_one (ps_ret (pe_tup (pa_cons (pe_op op_fdivW (pv 0) (pv 2)) (pa_cons (pe_op op_fdivW (pv 1) (pv 2)) pa_nil))))))), ?_⟩)⟩
  · rintro vs H Q E ⟨_, _, rfl, _⟩; rfl
  obtain ⟨i, j, rfl, hj, hb, k⟩ := h
  rw [st_ratio]; try dsimp only [L2.cxOf]
  walk_at "go"
  refine ndiv_ (gcd_small hj hb) ?_
  walk_at "go"
  refine ndiv_ (gcd_small hj hb) ?_
  walk_at "go"
  rename_i hz
  rw [ratio_num i j hj, ratio_den i j hj] at hz
  exact k _ _ (by assumption) (SqT.tr hz)
theorem ok_plus (T : Txt K mg) : Good P w K mg base "plus" 2 ["a", "b"] (spPlus K) := by
  have G_ratio := ok_ratio (P := P) (w := w) (base := base) T
  obtain ⟨gM, fd, F⟩ := dk_plus T
  have z0 : ∀ H, SqT K H (He.ga K "ZERO") (fr 0) := T.zero
  have z1 : ∀ H, SqT K H (He.ga K "ONE") (fr 1) := T.one
  refine ⟨gM, F.kp, fd, F.bindsN (fun _ _ _ _ _ _ us hl => match us, hl with | [_, _], _ => rfl), F.ok sc_plus ?_ (fun cdv A outer s H vs Q E hr h => ⟨_, PSs.nox (pss_one (ps_ret (pe_good G_ratio (hr.mono (by decide)) (pa_cons (pe_op op_add (pe_op op_mulW (pe_ix ix_tup (pv 0) pe_int (fun _ _ => rfl)) (pe_ix ix_tup (pv 1) pe_int (fun _ _ => rfl))) (pe_op op_mulW (pe_ix ix_tup (pv 1) pe_int (fun _ _ => rfl)) (pe_ix ix_tup (pv 0) pe_int (fun _ _ => rfl)))) (pa_cons (pe_op op_mulW (pe_ix ix_tup (pv 0) pe_int (fun _ _ => rfl)) (pe_ix ix_tup (pv 1) pe_int (fun _ _ => rfl))) pa_nil))))), ?_⟩)⟩
  · rintro vs H Q E ⟨_, _, _, _, rfl, _⟩; rfl
  obtain ⟨a, b, p, q, rfl, ha, hb, pr, k⟩ := h
  rw [st_plus]; try dsimp only [L2.cxOf]
  walk_at "go"
  refine ratio_ (dd_pos p q) pr.ddn fun c H' e hc => k c H' e ?_
  rw [d_add] at hc
  exact hc
theorem ok_minus (T : Txt K mg) : Good P w K mg base "minus" 2 ["a", "b"] (spMinus K) := by
  have G_ratio := ok_ratio (P := P) (w := w) (base := base) T
  obtain ⟨gM, fd, F⟩ := dk_minus T
  have z0 : ∀ H, SqT K H (He.ga K "ZERO") (fr 0) := T.zero
  have z1 : ∀ H, SqT K H (He.ga K "ONE") (fr 1) := T.one
  refine ⟨gM, F.kp, fd, F.bindsN (fun _ _ _ _ _ _ us hl => match us, hl with | [_, _], _ => rfl), F.ok sc_minus ?_ (fun cdv A outer s H vs Q E hr h => ⟨_, PSs.nox (pss_one (ps_ret (pe_good G_ratio (hr.mono (by decide)) (pa_cons (pe_op op_sub (pe_op op_mulW (pe_ix ix_tup (pv 0) pe_int (fun _ _ => rfl)) (pe_ix ix_tup (pv 1) pe_int (fun _ _ => rfl))) (pe_op op_mulW (pe_ix ix_tup (pv 1) pe_int (fun _ _ => rfl)) (pe_ix ix_tup (pv 0) pe_int (fun _ _ => rfl)))) (pa_cons (pe_op op_mulW (pe_ix ix_tup (pv 0) pe_int (fun _ _ => rfl)) (pe_ix ix_tup (pv 1) pe_int (fun _ _ => rfl))) pa_nil))))), ?_⟩)⟩
  · rintro vs H Q E ⟨_, _, _, _, rfl, _⟩; rfl
  obtain ⟨a, b, p, q, rfl, ha, hb, pr, k⟩ := h
  rw [st_minus]; try dsimp only [L2.cxOf]
  walk_at "go"
  refine ratio_ (dd_pos p q) pr.ddn fun c H' e hc => k c H' e ?_
  rw [d_sub] at hc
  exact hc
theorem ok_times (T : Txt K mg) : Good P w K mg base "times" 2 ["a", "b"] (spTimes K) := by
  have G_ratio := ok_ratio (P := P) (w := w) (base := base) T
  obtain ⟨gM, fd, F⟩ := dk_times T
  have z0 : ∀ H, SqT K H (He.ga K "ZERO") (fr 0) := T.zero
  have z1 : ∀ H, SqT K H (He.ga K "ONE") (fr 1) := T.one
  refine ⟨gM, F.kp, fd, F.bindsN (fun _ _ _ _ _ _ us hl => match us, hl with | [_, _], _ => rfl), F.ok sc_times ?_ (fun cdv A outer s H vs Q E hr h => ⟨_, PSs.nox (pss_one (ps_ret (pe_good G_ratio (hr.mono (by decide)) (pa_cons (pe_op op_mulW (pe_ix ix_tup (pv 0) pe_int (fun _ _ => rfl)) (pe_ix ix_tup (pv 1) pe_int (fun _ _ => rfl))) (pa_cons (pe_op op_mulW (pe_ix ix_tup (pv 0) pe_int (fun _ _ => rfl)) (pe_ix ix_tup (pv 1) pe_int (fun _ _ => rfl))) pa_nil))))), ?_⟩)⟩
  · rintro vs H Q E ⟨_, _, _, _, rfl, _⟩; rfl
  obtain ⟨a, b, p, q, rfl, ha, hb, pr, k⟩ := h
  rw [st_times]; try dsimp only [L2.cxOf]
  walk_at "go"
  refine ratio_ (dd_pos p q) pr.ddn fun c H' e hc => k c H' e ?_
  rw [d_mul] at hc
  exact hc
theorem ok_less (T : Txt K mg) : Good P w K mg base "less" 1 ["a", "b"] (spLess K) := by
  obtain ⟨gM, fd, F⟩ := dk_less T
  have z0 : ∀ H, SqT K H (He.ga K "ZERO") (fr 0) := T.zero
  have z1 : ∀ H, SqT K H (He.ga K "ONE") (fr 1) := T.one
  refine ⟨gM, F.kp, fd, F.bindsN (fun _ _ _ _ _ _ us hl => match us, hl with | [_, _], _ => rfl), F.ok sc_less ?_ (fun cdv A outer s H vs Q E hr h => ⟨_, PSs.nox (pss_one (ps_ret (pe_cmpR op_lt (pe_op op_mulW (pe_ix ix_tup (pv 0) pe_int (fun _ _ => rfl)) (pe_ix ix_tup (pv 1) pe_int (fun _ _ => rfl))) (pe_op op_mulW (pe_ix ix_tup (pv 1) pe_int (fun _ _ => rfl)) (pe_ix ix_tup (pv 0) pe_int (fun _ _ => rfl))) (nomark _)))), ?_⟩)⟩
  · rintro vs H Q E ⟨_, _, _, _, rfl, _⟩; rfl
  obtain ⟨a, b, p, q, rfl, ha, hb, pr, k⟩ := h
  rw [st_less]; try dsimp only [L2.cxOf]
  walk_at "go"
  rw [lt_num]
  exact k
theorem ok__law_cell_at (T : Txt K mg) : Good P w K mg base "_law_cell_at" 1 ["_law_script", "_law_k"] (spCell K) := by
  obtain ⟨gM, fd, F⟩ := dk__law_cell_at T
  have z0 : ∀ H, SqT K H (He.ga K "ZERO") (fr 0) := T.zero
  have z1 : ∀ H, SqT K H (He.ga K "ONE") (fr 1) := T.one
  refine ⟨gM, F.kp, fd, F.bindsN (fun _ _ _ _ _ _ us hl => match us, hl with | [_, _], _ => rfl), F.ok sc__law_cell_at ?_ (fun cdv A outer s H vs Q E hr h => ⟨_, PSs.nox (pss_cons (ps_if (pt_cmpR op_lt (pv 1) (pe_callB cr_len (by rfl) (m_len T) PySem.boot_len (pa_cons (pv 0) pa_nil)) (nomark _)) (pss_one (ps_ret (pe_ix ix_list (pv 0) (pv 1) (fun _ _ => rfl)))) pss_nil)
    (pss_one (ps_ret pe_int))), ?_⟩)⟩
  · rintro vs H Q E ⟨_, _, _, rfl, _⟩; rfl
  obtain ⟨a, ns, i, rfl, hs, hi, q⟩ := h
  rw [st__law_cell_at]; try dsimp only [L2.cxOf]
  walk_at "go"
  refine wD (fun c => ?_) (fun c => ?_)
  · rw [List.length_map] at c
    obtain ⟨n, rfl⟩ := Int.eq_ofNat_of_zero_le hi
    have hn : n < ns.length := by exact_mod_cast c
    walk_at "go"
    refine ixL_ hs (atI_nat (v := .int ns[n]) ?_) ?_
    · rw [List.getElem?_map, List.getElem?_eq_getElem hn]
      rfl
    · exact q _
  · walk_at "go"
    exact q _

def OV.whB : OV → Bool
  | .int _ => true
  | _ => false
def spOd (K : PySem.W.Frag) (f : OV → Bool) : Sp := fun vs H Q _ => ∃ (v : V) (d : OV), vs = [v] ∧ Od K H v d ∧ ∀ H', Same H H' → Q (.bl (f d)) H'
theorem od_ {K : PySem.W.Frag} {f : OV → Bool} {H : Hp} {Q : VK} {E : XK} {v : V} {d : OV} (h : Od K H v d) (k : ∀ H', Same H H' → Q (.bl (f d)) H') : spOd K f [v] H Q E := ⟨v, d, rfl, h, k⟩
theorem OdAll.len {K : PySem.W.Frag} {H : Hp} : ∀ {vs : List V} {ds : List OV}, OdAll K H vs ds → vs.length = ds.length
  | [], [], _ => rfl
  | _ :: _, _ :: _, .cons _ b => by simp [OdAll.len b]
theorem OdAll.get {K : PySem.W.Frag} {H : Hp} : ∀ {vs : List V} {ds : List OV} {i : Nat} {v : V}, OdAll K H vs ds → vs[i]? = some v → ∃ d, ds[i]? = some d ∧ Od K H v d
  | _ :: _, d :: _, 0, _, .cons a _, e => by
    have e' := Option.some.inj e
    subst e'
    exact ⟨d, rfl, a⟩
  | _ :: _, _ :: _, i + 1, v, .cons _ b, e => OdAll.get (i := i) b (by simpa using e)
  | [], [], _, _, .nil, e => by simp at e
theorem ok_is_ratio (T : Txt K mg) : Good P w K mg base "is_ratio" 1 ["thing"] (spOd K OV.ratB) := by
  obtain ⟨gM, fd, F⟩ := dk_is_ratio T
  have z0 : ∀ H, SqT K H (He.ga K "ZERO") (fr 0) := T.zero
  have z1 : ∀ H, SqT K H (He.ga K "ONE") (fr 1) := T.one
  refine ⟨gM, F.kp, fd, F.bindsN (fun _ _ _ _ _ _ us hl => match us, hl with | [_], _ => rfl), F.ok sc_is_ratio ?_ (fun cdv A outer s H vs Q E hr h => ⟨_, PSs.nox (pss_cons (ps_if (PW.pt (pw_or (pt_not (pt_val (pe_callB call_isi (by rfl) (m_isinstance T) bt_isinstance (pa_cons (pv 0) (pa_cons (pe_bltn (v := .ty "tuple") (by rfl) (m_tuple T) bt_tuple rfl) pa_nil))))) (pw_or1 (pt_cmpR op_ne (pe_callB cr_len (by rfl) (m_len T) PySem.boot_len (pa_cons (pv 0) pa_nil)) pe_int (nomark _))))) (pss_one (ps_ret pe_bl)) pss_nil)
    (pss_cons (ps_asg (pv 0) (pg_tup rfl (pgs_cons (pg_name (i := 1) sc_is_ratio.nd rfl (Or.inl rfl)) (pgs_cons (pg_name (i := 2) sc_is_ratio.nd rfl (Or.inl rfl)) pgs_nil))))
    (pss_cons (ps_if (PW.pt (pw_or (pt_not (pt_val (pe_callB call_isi (by rfl) (m_isinstance T) bt_isinstance (pa_cons (pv 1) (pa_cons (pe_bltn (v := .ty "int") (by rfl) (m_int T) bt_int rfl) pa_nil))))) (pw_or (pt_not (pt_val (pe_callB call_isi (by rfl) (m_isinstance T) bt_isinstance (pa_cons (pv 2) (pa_cons (pe_bltn (v := .ty "int") (by rfl) (m_int T) bt_int rfl) pa_nil))))) (pw_or (pt_val (pe_callB call_isi (by rfl) (m_isinstance T) bt_isinstance (pa_cons (pv 1) (pa_cons (pe_bltn (v := .ty "bool") (by rfl) (m_bool T) bt_bool rfl) pa_nil)))) (pw_or1 (pt_val (pe_callB call_isi (by rfl) (m_isinstance T) bt_isinstance (pa_cons (pv 2) (pa_cons (pe_bltn (v := .ty "bool") (by rfl) (m_bool T) bt_bool rfl) pa_nil))))))))) (pss_one (ps_ret pe_bl)) pss_nil)
    (pss_one (ps_ret (pe_or (pe_cmpR op_eq (pv 2) pe_int (nomark _)) (pe_one (pe_and (pe_cmpR op_gt (pv 2) pe_int (nomark _)) (pe_one (pe_cmpR op_eq (pe_callBfun cr_gcd (by rfl) T.gcd (pa_cons (pv 1) (pa_cons (pv 2) pa_nil))) pe_int (nomark _))))))))))), ?_⟩)⟩
  · rintro vs H Q E ⟨_, _, rfl, _⟩; rfl
  obtain ⟨v, d, rfl, hv, k⟩ := h
  rw [st_is_ratio]; try dsimp only [L2.cxOf]
  walk_at "gn"
  refine xor ?_
  walk_at "gn"
  refine hv.isT ?_
  have nt : ∀ d : OV, d.isT = false → d.ratB = false := fun d h => by cases d <;> first | rfl | cases h
  cases ht' : d.isT with
  | false =>
    rw [nt d ht'] at k
    walk_at "gn"
    exact k _ (Same.refl _)
  | true =>
    cases hv with
    | tup ht al =>
      rename_i p xs ds
      have l := al.len
      walk_at "gn"
      by_cases c : ds.length = 2
      · obtain ⟨a, b, rfl⟩ : ∃ a b, ds = [a, b] := by
          match ds, c with
          | [a, b], _ => exact ⟨a, b, rfl⟩
        cases al with
        | cons ha al => cases al with
          | cons hb al =>
            cases al
            walk_at "gn"
            refine xor ?_
            walk_at "gn"
            have ni : ∀ d e : OV, d.isIB = false ∨ e.isIB = false ∨ d.isB = true ∨ e.isB = true → ratC d e = false := fun d e h => by
              cases d <;> cases e <;> first | rfl | (simp [OV.isIB, OV.isB] at h)
            have eR : OV.ratB (.tup [a, b]) = ratC a b := rfl
            rw [eR] at k
            refine ha.isIB ?_
            cases ca : a.isIB with
            | false =>
              rw [ni a b (.inl ca)] at k
              walk_at "gn"
              exact k _ (Same.refl _)
            | true =>
              walk_at "gn"
              refine xor ?_
              walk_at "gn"
              refine hb.isIB ?_
              cases cb : b.isIB with
              | false =>
                rw [ni a b (.inr (.inl cb))] at k
                walk_at "gn"
                exact k _ (Same.refl _)
              | true =>
                walk_at "gn"
                refine xor ?_
                walk_at "gn"
                refine ha.isB ?_
                cases da : a.isB with
                | true =>
                  rw [ni a b (.inr (.inr (.inl da)))] at k
                  walk_at "gn"
                  exact k _ (Same.refl _)
                | false =>
                  walk_at "gn"
                  refine hb.isB ?_
                  cases db : b.isB with
                  | true =>
                    rw [ni a b (.inr (.inr (.inr db)))] at k
                    walk_at "gn"
                    exact k _ (Same.refl _)
                  | false =>
                    obtain ⟨i, rfl⟩ : ∃ i, a = .int i := by
                      cases a <;> first | exact ⟨_, rfl⟩ | (simp [OV.isIB, OV.isB] at ca da)
                    obtain ⟨j, rfl⟩ : ∃ j, b = .int j := by
                      cases b <;> first | exact ⟨_, rfl⟩ | (simp [OV.isIB, OV.isB] at cb db)
                    cases ha
                    cases hb
                    have eC : ratC (.int i) (.int j) = (decide (j = 1) || (decide (1 < j) && decide (((Nat.gcd i.natAbs j.natAbs : Nat) : Int) = 1))) := rfl
                    rw [eC] at k
                    walk_at "gn"
                    by_cases j1 : j = 1
                    · rw [decide_eq_true j1, Bool.true_or] at k
                      walk_at "gn"
                      exact k _ (Same.refl _)
                    · rw [decide_eq_false j1, Bool.false_or] at k
                      walk_at "gn"
                      by_cases j2 : 1 < j
                      · rw [decide_eq_true j2, Bool.true_and] at k
                        walk_at "gn"
                        exact k _ (Same.refl _)
                      · rw [decide_eq_false j2, Bool.false_and] at k
                        walk_at "gn"
                        exact k _ (Same.refl _)
      · have e : OV.ratB (.tup ds) = false := by
          match ds, c with
          | [], _ => rfl
          | [_], _ => rfl
          | _ :: _ :: _ :: _, _ => rfl
          | [_, _], c => exact absurd rfl c
        rw [e] at k
        walk_at "gn"
        exact k _ (Same.refl _)
    | _ => cases ht'
theorem ok_is_whole (T : Txt K mg) : Good P w K mg base "is_whole" 1 ["thing"] (spOd K OV.whB) := by
  obtain ⟨gM, fd, F⟩ := dk_is_whole T
  have z0 : ∀ H, SqT K H (He.ga K "ZERO") (fr 0) := T.zero
  have z1 : ∀ H, SqT K H (He.ga K "ONE") (fr 1) := T.one
  refine ⟨gM, F.kp, fd, F.bindsN (fun _ _ _ _ _ _ us hl => match us, hl with | [_], _ => rfl), F.ok sc_is_whole ?_ (fun cdv A outer s H vs Q E hr h => ⟨_, PSs.nox (pss_one (ps_ret (pe_and (pe_callB call_isi (by rfl) (m_isinstance T) bt_isinstance (pa_cons (pv 0) (pa_cons (pe_bltn (v := .ty "int") (by rfl) (m_int T) bt_int rfl) pa_nil))) (pe_one (pe_not (pe_callB call_isi (by rfl) (m_isinstance T) bt_isinstance (pa_cons (pv 0) (pa_cons (pe_bltn (v := .ty "bool") (by rfl) (m_bool T) bt_bool rfl) pa_nil)))))))), ?_⟩)⟩
  · rintro vs H Q E ⟨_, _, rfl, _⟩; rfl
  obtain ⟨v, d, rfl, hv, k⟩ := h
  rw [st_is_whole]; try dsimp only [L2.cxOf]
  walk_at "gn"
  refine hv.isIB ?_
  cases a : d.isIB with
  | false =>
    rw [show d.whB = false by cases d <;> first | rfl | (simp [OV.isIB] at a)] at k
    walk_at "gn"
    exact k _ (Same.refl _)
  | true =>
    walk_at "gn"
    refine hv.isB ?_
    cases b : d.isB with
    | true =>
      rw [show d.whB = false by cases d <;> first | rfl | (simp [OV.isB] at b)] at k
      walk_at "gn"
      exact k _ (Same.refl _)
    | false =>
      rw [show d.whB = true by cases d <;> first | rfl | (simp [OV.isIB, OV.isB] at a b)] at k
      walk_at "gn"
      exact k _ (Same.refl _)
def spOd2 (K : PySem.W.Frag) (f : OV → OV → Bool) : Sp := fun vs H Q _ => ∃ (u v : V) (c d : OV), vs = [u, v] ∧ Od K H u c ∧ Od K H v d ∧ ∀ H', Same H H' → Q (.bl (f c d)) H'
theorem ok__are_steps (T : Txt K mg) : Good P w K mg base "_are_steps" 2 ["count", "where"] (spOd2 K OV.stB) := by
  have G_is_whole := ok_is_whole (P := P) (w := w) (base := base) T
  obtain ⟨gM, fd, F⟩ := dk__are_steps T
  have z0 : ∀ H, SqT K H (He.ga K "ZERO") (fr 0) := T.zero
  have z1 : ∀ H, SqT K H (He.ga K "ONE") (fr 1) := T.one
  refine ⟨gM, F.kp, fd, F.bindsN (fun _ _ _ _ _ _ us hl => match us, hl with | [_, _], _ => rfl), F.ok sc__are_steps ?_ (fun cdv A outer s H vs Q E hr h => ⟨_, PSs.nox (pss_cons (ps_if (PW.pt (pw_or (pt_not (pt_val (pe_good G_is_whole (hr.mono (by decide)) (pa_cons (pv 0) pa_nil)))) (pw_or1 (pt_not (pt_val (pe_callB call_isi (by rfl) (m_isinstance T) bt_isinstance (pa_cons (pv 1) (pa_cons (pe_bltn (v := .ty "str") (by rfl) (m_str T) bt_str rfl) pa_nil)))))))) (pss_one (ps_ret pe_bl)) pss_nil)
    (pss_cons (ps_if (pt_cmpR op_eq (pv 1) pe_str (nomark _)) (pss_one (ps_ret (pe_cmpR op_ge (pv 0) pe_int (nomark _)))) pss_nil)
    (pss_one (ps_ret (pe_and (pe_cmpR op_in_seq (pv 1) (pe_tup (pa_cons pe_str (pa_cons pe_str (pa_cons pe_str pa_nil)))) rfl) (pe_one (pe_cmpR op_ge (pv 0) pe_int (nomark _)))))))), ?_⟩)⟩
  · rintro vs H Q E ⟨_, _, _, _, rfl, _⟩; rfl
  obtain ⟨u, v, c, d, rfl, hu, hv, k⟩ := h
  rw [st__are_steps]; try dsimp only [L2.cxOf]
  walk_at "gn"
  refine xor ?_
  walk_at "gn"
  refine od_ hu fun H1 e1 => ?_
  have hu1 := Od.same e1 _ _ hu
  have hv1 := Od.same e1 _ _ hv
  cases a : c.whB with
  | false =>
    rw [show OV.stB c d = false by cases c <;> first | rfl | (simp [OV.whB] at a)] at k
    walk_at "gn"
    exact k _ e1
  | true =>
    obtain ⟨n, rfl⟩ : ∃ n, c = .int n := by
      cases c <;> first | exact ⟨_, rfl⟩ | (simp [OV.whB] at a)
    walk_at "gn"
    refine hv1.isS ?_
    cases b : d.isS with
    | false =>
      rw [show OV.stB (.int n) d = false by cases d <;> first | rfl | (simp [OV.isS] at b)] at k
      walk_at "gn"
      exact k _ e1
    | true =>
      obtain ⟨w, rfl⟩ : ∃ w, d = .str w := by
        cases d <;> first | exact ⟨_, rfl⟩ | (simp [OV.isS] at b)
      cases hu1
      cases hv1
      have eS : OV.stB (.int n) (.str w) = if w = "none" then decide (2 ≤ n) else inV (.str w) ((["start", "end", "both"] : List Str).map V.str) && decide (1 ≤ n) := rfl
      rw [eS] at k
      walk_at "gn"
      by_cases wn : w = "none"
      · rw [if_pos wn] at k
        walk_at "gn"
        exact k _ e1
      · rw [if_neg wn] at k
        walk_at "gn"
        rename_i p2 H2 n2 e2 t2
        refine inStr (ws := ["start", "end", "both"]) (SqT.tr t2) ?_
        cases wi : inV (.str w) ((["start", "end", "both"] : List Str).map V.str) with
        | false =>
          rw [wi, Bool.false_and] at k
          walk_at "gn"
          exact k _ (e1.trans e2)
        | true =>
          rw [wi, Bool.true_and] at k
          walk_at "gn"
          exact k _ (e1.trans e2)
theorem ptsB_all {ds : List OV} {i : Nat} {d : OV} (h : ds[i]? = some d) (b : d.ptB = false) : OV.ptsB (.tup ds) = false := by
  have e : ds.all OV.ptB = false := by
    rw [List.all_eq_false]
    exact ⟨d, List.mem_of_getElem? h, by rw [b]; exact Bool.false_ne_true⟩
  show (!ds.isEmpty && ds.all OV.ptB) = false
  rw [e, Bool.and_false]
theorem ok__are_points (T : Txt K mg) : Good P w K mg base "_are_points" 2 ["thing"] (spOd K OV.ptsB) := by
  have G_is_ratio := ok_is_ratio (P := P) (w := w) (base := base) T
  obtain ⟨gM, fd, F⟩ := dk__are_points T
  have z0 : ∀ H, SqT K H (He.ga K "ZERO") (fr 0) := T.zero
  have z1 : ∀ H, SqT K H (He.ga K "ONE") (fr 1) := T.one
  refine ⟨gM, F.kp, fd, F.bindsN (fun _ _ _ _ _ _ us hl => match us, hl with | [_], _ => rfl), F.ok sc__are_points ?_ (fun cdv A outer s H vs Q E hr h => ⟨_, PSs.nox (pss_cons (ps_if (PW.pt (pw_or (pt_not (pt_val (pe_callB call_isi (by rfl) (m_isinstance T) bt_isinstance (pa_cons (pv 0) (pa_cons (pe_bltn (v := .ty "tuple") (by rfl) (m_tuple T) bt_tuple rfl) pa_nil))))) (pw_or1 (pt_cmpR op_eq (pe_callB cr_len (by rfl) (m_len T) PySem.boot_len (pa_cons (pv 0) pa_nil)) pe_int (nomark _))))) (pss_one (ps_ret pe_bl)) pss_nil)
    (pss_cons (ps_for PassesOwn.never rfl (pi_tup (pv 0)) (pg_name (i := 1) sc__are_points.nd rfl (Or.inl rfl))
      (pss_cons (ps_if (PW.pt (pw_or (pt_not (pt_val (pe_callB call_isi (by rfl) (m_isinstance T) bt_isinstance (pa_cons (pv 1) (pa_cons (pe_bltn (v := .ty "tuple") (by rfl) (m_tuple T) bt_tuple rfl) pa_nil))))) (pw_or1 (pt_cmpR op_ne (pe_callB cr_len (by rfl) (m_len T) PySem.boot_len (pa_cons (pv 1) pa_nil)) pe_int (nomark _))))) (pss_one (ps_ret pe_bl)) pss_nil)
    (pss_cons (ps_asg (pv 1) (pg_tup rfl (pgs_cons (pg_name (i := 2) sc__are_points.nd rfl (Or.inl rfl)) (pgs_cons (pg_name (i := 3) sc__are_points.nd rfl (Or.inl rfl)) pgs_nil))))
    (pss_one (ps_if (PW.pt (pw_or (pt_not (pt_val (pe_good G_is_ratio (hr.mono (by decide)) (pa_cons (pv 2) pa_nil)))) (pw_or1 (pt_not (PW.pt (pw_or (pt_cmp (pc_isN (pv 3)) rfl) (pw_or1 (pt_val (pe_good G_is_ratio (hr.mono (by decide)) (pa_cons (pv 3) pa_nil)))))))))) (pss_one (ps_ret pe_bl)) pss_nil)))))
    (pss_one (ps_ret pe_bl)))), ?_⟩)⟩
  · rintro vs H Q E ⟨_, _, rfl, _⟩; rfl
  obtain ⟨v, d, rfl, hv, k⟩ := h
  rw [st__are_points]; try dsimp only [L2.cxOf]
  walk_at "gn"
  refine xor ?_
  walk_at "gn"
  refine hv.isT ?_
  cases a : d.isT with
  | false =>
    rw [show d.ptsB = false by cases d <;> first | rfl | (simp [OV.isT] at a)] at k
    walk_at "gn"
    exact k _ (Same.refl _)
  | true =>
    cases hv with
    | tup ht al =>
      rename_i p xs ds
      have l := al.len
      walk_at "gn"
      by_cases z : xs.length = 0
      · have ez : ds = [] := List.length_eq_zero_iff.mp (by omega)
        subst ez
        rw [show OV.ptsB (.tup []) = false from rfl] at k
        walk_at "gn"
        exact k _ (Same.refl _)
      · walk_at "gn"
        refine forT_ (xs := xs) ht (fun i σ H' => (∃ o1 o2 o3, σ = [some (.ref p), o1, o2, o3]) ∧ Same H H' ∧ ∀ j d, j < i → ds[j]? = some d → d.ptB = true) ⟨⟨_, _, _, rfl⟩, Same.refl _, fun j d h => absurd h (by omega)⟩ ?_ ?_ ?_
        · rintro i σ H1 _ ⟨_, e1, _⟩
          exact Same.sqT e1 ht
        · rintro i x σ H1 hx ⟨⟨o1, o2, o3, rfl⟩, e1, good⟩
          obtain ⟨d, ed, hd0⟩ := al.get hx
          have hd := Od.same e1 _ _ hd0
          have no : d.ptB = false → Q (.bl false) H1 := fun h => by
            have z := ptsB_all ed h
            rw [z] at k
            exact k _ e1
          walk_at "gn"
          refine xor ?_
          walk_at "gn"
          refine hd.isT ?_
          cases b : d.isT with
          | false =>
            walk_at "gn"
            exact no (by cases d <;> first | rfl | (simp [OV.isT] at b))
          | true =>
            cases hd with
            | tup h1 al1 =>
              rename_i q ys es
              have l1 := al1.len
              walk_at "gn"
              by_cases c : es.length = 2
              · obtain ⟨u, w, rfl⟩ : ∃ u w, es = [u, w] := by
                  match es, c with
                  | [u, w], _ => exact ⟨u, w, rfl⟩
                cases al1 with
                | cons hu al1 => cases al1 with
                  | cons hw al1 =>
                    cases al1
                    have eP : OV.ptB (.tup [u, w]) = (u.ratB && (w.isN || w.ratB)) := rfl
                    walk_at "gn"
                    refine xor ?_
                    walk_at "gn"
                    refine od_ hu fun H2 e2 => ?_
                    have e02 := e1.trans e2
                    have hw2 := Od.same e2 _ _ hw
                    have no2 : OV.ptB (.tup [u, w]) = false → Q (.bl false) H2 := fun h => by
                      have z := ptsB_all ed h
                      rw [z] at k
                      exact k _ e02
                    cases cu : u.ratB with
                    | false =>
                      walk_at "gn"
                      exact no2 (by rw [eP, cu]; rfl)
                    | true =>
                      walk_at "gn"
                      refine xor ?_
                      have good2 : ∀ {H3 : Hp}, OV.ptB (.tup [u, w]) = true → ∀ j d, j < i + 1 → ds[j]? = some d → d.ptB = true := fun h j d hj hd => by
                        by_cases e : j = i
                        · subst e
                          rw [ed] at hd
                          rw [← Option.some.inj hd]
                          exact h
                        · exact good j d (by omega) hd
                      cases cn : w.isN with
                      | true =>
                        obtain rfl : w = .non := by cases w <;> first | rfl | (simp [OV.isN] at cn)
                        cases hw2
                        walk_at "gn"
                        exact ⟨⟨_, _, _, rfl⟩, e02, good2 (H3 := H2) (by rw [eP, cu]; rfl)⟩
                      | false =>
                        have nv : ∀ {v : V}, Od K H2 v w → ¬ v = .non := fun h e => by
                          subst e
                          cases h
                          cases cn
                        have nv2 := nv hw2
                        walk_at "gn"
                        refine od_ hw2 fun H3 e3 => ?_
                        cases cw : w.ratB with
                        | false =>
                          walk_at "gn"
                          have z := ptsB_all ed (show OV.ptB (.tup [u, w]) = false by rw [eP, cu, cn, cw]; rfl)
                          rw [z] at k
                          exact k _ (e02.trans e3)
                        | true =>
                          walk_at "gn"
                          exact ⟨⟨_, _, _, rfl⟩, e02.trans e3, good2 (H3 := H3) (by rw [eP, cu, cw]; simp)⟩
              · walk_at "gn"
                refine no ?_
                match es, c with
                | [], _ => rfl
                | [_], _ => rfl
                | _ :: _ :: _ :: _, _ => rfl
                | [_, _], c => exact absurd rfl c
            | _ => cases b
        · rintro σ H1 ⟨⟨o1, o2, o3, rfl⟩, e1, good⟩
          have e : OV.ptsB (.tup ds) = true := by
            show (!ds.isEmpty && ds.all OV.ptB) = true
            have n0 : ds.isEmpty = false := by
              cases ds with
              | nil => exact absurd (by simpa using l) z
              | cons _ _ => rfl
            rw [n0, Bool.not_false, Bool.true_and, List.all_eq_true]
            intro d hd
            obtain ⟨j, hj⟩ := List.getElem?_of_mem hd
            exact good j d (by have := (List.getElem?_eq_some_iff.mp hj).1; omega) hj
          rw [e] at k
          walk_at "gn"
          exact k _ e1
    | _ => cases a

theorem ok_is_curve (T : Txt K mg) : Good P w K mg base "is_curve" 3 ["thing"] (spOd K OV.cvB) := by
  have G__are_points := ok__are_points (P := P) (w := w) (base := base) T
  have G_is_ratio := ok_is_ratio (P := P) (w := w) (base := base) T
  have G__are_steps := ok__are_steps (P := P) (w := w) (base := base) T
  obtain ⟨gM, fd, F⟩ := dk_is_curve T
  have z0 : ∀ H, SqT K H (He.ga K "ZERO") (fr 0) := T.zero
  have z1 : ∀ H, SqT K H (He.ga K "ONE") (fr 1) := T.one
  refine ⟨gM, F.kp, fd, F.bindsN (fun _ _ _ _ _ _ us hl => match us, hl with | [_], _ => rfl), F.ok sc_is_curve ?_ (fun cdv A outer s H vs Q E hr h => ⟨_, PSs.nox (pss_cons (ps_if (PW.pt (pw_or (pt_not (pt_val (pe_callB call_isi (by rfl) (m_isinstance T) bt_isinstance (pa_cons (pv 0) (pa_cons (pe_bltn (v := .ty "tuple") (by rfl) (m_tuple T) bt_tuple rfl) pa_nil))))) (pw_or (pt_cmpR op_eq (pe_callB cr_len (by rfl) (m_len T) PySem.boot_len (pa_cons (pv 0) pa_nil)) pe_int (nomark _)) (pw_or1 (pt_not (pt_val (pe_callB call_isi (by rfl) (m_isinstance T) bt_isinstance (pa_cons (pe_ix ix_tup (pv 0) pe_int (fun _ _ => rfl)) (pa_cons (pe_bltn (v := .ty "str") (by rfl) (m_str T) bt_str rfl) pa_nil))))))))) (pss_one (ps_ret pe_bl)) pss_nil)
    (pss_cons (ps_if (pt_cmpR op_eq (pe_ix ix_tup (pv 0) pe_int (fun _ _ => rfl)) pe_str (nomark _)) (pss_one (ps_ret (pe_and (pe_cmpR op_eq (pe_callB cr_len (by rfl) (m_len T) PySem.boot_len (pa_cons (pv 0) pa_nil)) pe_int (nomark _)) (pe_one (pe_good G__are_points (hr.mono (by decide)) (pa_cons (pe_ix ix_tup (pv 0) pe_int (fun _ _ => rfl)) pa_nil)))))) pss_nil)
    (pss_cons (ps_if (pt_cmpR op_eq (pe_ix ix_tup (pv 0) pe_int (fun _ _ => rfl)) pe_str (nomark _)) (pss_one (ps_ret (pe_and (pe_cmpR op_eq (pe_callB cr_len (by rfl) (m_len T) PySem.boot_len (pa_cons (pv 0) pa_nil)) pe_int (nomark _)) (pe_and (pe_good G_is_ratio (hr.mono (by decide)) (pa_cons (pe_ix ix_tup (pv 0) pe_int (fun _ _ => rfl)) pa_nil)) (pe_one (pe_good G_is_ratio (hr.mono (by decide)) (pa_cons (pe_ix ix_tup (pv 0) pe_int (fun _ _ => rfl)) pa_nil))))))) pss_nil)
    (pss_cons (ps_if (pt_cmpR op_eq (pe_ix ix_tup (pv 0) pe_int (fun _ _ => rfl)) pe_str (nomark _)) (pss_one (ps_ret (pe_and (pe_cmpR op_eq (pe_callB cr_len (by rfl) (m_len T) PySem.boot_len (pa_cons (pv 0) pa_nil)) pe_int (nomark _)) (pe_one (pe_good G__are_steps (hr.mono (by decide)) (pa_cons (pe_ix ix_tup (pv 0) pe_int (fun _ _ => rfl)) (pa_cons (pe_ix ix_tup (pv 0) pe_int (fun _ _ => rfl)) pa_nil))))))) pss_nil)
    (pss_one (ps_ret pe_bl)))))), ?_⟩)⟩
  · rintro vs H Q E ⟨_, _, rfl, _⟩; rfl
  obtain ⟨v, d, rfl, hv, k⟩ := h
  rw [st_is_curve]; try dsimp only [L2.cxOf]
  walk_at "gn"
  refine xor ?_
  walk_at "gn"
  refine hv.isT ?_
  cases a : d.isT with
  | false =>
    rw [show d.cvB = false by cases d <;> first | rfl | (simp [OV.isT] at a)] at k
    walk_at "gn"
    exact k _ (Same.refl _)
  | true =>
    cases hv with
    | tup ht al =>
      rename_i p xs ds
      have l := al.len
      walk_at "gn"
      refine xor ?_
      walk_at "gn"
      cases al with
      | nil =>
        rw [show OV.cvB (.tup []) = false from rfl] at k
        walk_at "gn"
        exact k _ (Same.refl _)
      | cons hx al =>
        rename_i x xr d dr
        have lr := al.len
        have eK : OV.cvB (.tup (d :: dr)) = cvK d dr := rfl
        rw [eK] at k
        have nz : ¬ ((x :: xr).length : Int) = 0 := by simp only [List.length_cons]; omega
        have x0 : atI (x :: xr) 0 = some x := atI_of (ixN_first (by simp)) rfl
        walk_at "gn"
        refine ixT_ ht x0 ?_
        walk_at "gn"
        refine hx.isS ?_
        cases b : d.isS with
        | false =>
          rw [show cvK d dr = false by cases d <;> first | rfl | (simp [OV.isS] at b)] at k
          walk_at "gn"
          exact k _ (Same.refl _)
        | true =>
          obtain ⟨s, rfl⟩ : ∃ s, d = .str s := by
            cases d <;> first | exact ⟨_, rfl⟩ | (simp [OV.isS] at b)
          cases hx
          have eS : cvK (.str s) dr = if s = "linear" then cvL dr else if s = "cubic" then cvC dr else if s = "steps" then cvS dr else false := rfl
          rw [eS] at k
          have ll : ((V.str s :: xr).length : Int) = (dr.length : Int) + 1 := by simp only [List.length_cons]; omega
          walk_at "gn"
          refine ixT_ ht x0 ?_
          walk_at "gn"
          by_cases c1 : s = "linear"
          · rw [if_pos c1] at k
            walk_at "gn"
            rw [ll]
            by_cases n1 : dr.length = 1
            · match dr, al, n1 with
              | [u], .cons hu .nil, _ =>
                walk_at "gn"
                exact od_ hu fun H1 e1 => k _ e1
            · have e : cvL dr = false := by
                match dr, n1 with
                | [], _ => rfl
                | _ :: _ :: _, _ => rfl
                | [_], c => exact absurd rfl c
              rw [e] at k
              walk_at "gn"
              exact k _ (Same.refl _)
          rw [if_neg c1] at k
          walk_at "gn"
          refine ixT_ ht x0 ?_
          walk_at "gn"
          by_cases c2 : s = "cubic"
          · rw [if_pos c2] at k
            walk_at "gn"
            rw [ll]
            by_cases n2 : dr.length = 2
            · match dr, al, n2 with
              | [u, w], .cons hu (.cons hw .nil), _ =>
                have e : cvC [u, w] = (u.ratB && w.ratB) := rfl
                rw [e] at k
                walk_at "gn"
                refine od_ hu fun H1 e1 => ?_
                cases cu : u.ratB with
                | false =>
                  rw [cu, Bool.false_and] at k
                  walk_at "gn"
                  exact k _ e1
                | true =>
                  rw [cu, Bool.true_and] at k
                  walk_at "gn"
                  exact od_ (Od.same e1 _ _ hw) fun H2 e2 => k _ (e1.trans e2)
            · have e : cvC dr = false := by
                match dr, n2 with
                | [], _ => rfl
                | [_], _ => rfl
                | _ :: _ :: _ :: _, _ => rfl
                | [_, _], c => exact absurd rfl c
              rw [e] at k
              walk_at "gn"
              exact k _ (Same.refl _)
          rw [if_neg c2] at k
          walk_at "gn"
          refine ixT_ ht x0 ?_
          walk_at "gn"
          by_cases c3 : s = "steps"
          · rw [if_pos c3] at k
            walk_at "gn"
            rw [ll]
            by_cases n2 : dr.length = 2
            · match dr, al, n2 with
              | [u, w], .cons hu (.cons hw .nil), _ =>
                have e : cvS [u, w] = u.stB w := rfl
                rw [e] at k
                walk_at "gn"
                exact ⟨_, _, u, w, rfl, hu, hw, fun H1 e1 => k _ e1⟩
            · have e : cvS dr = false := by
                match dr, n2 with
                | [], _ => rfl
                | [_], _ => rfl
                | _ :: _ :: _ :: _, _ => rfl
                | [_, _], c => exact absurd rfl c
              rw [e] at k
              walk_at "gn"
              exact k _ (Same.refl _)
          rw [if_neg c3] at k
          walk_at "gn"
          exact k _ (Same.refl _)
    | _ => cases a

theorem ok__law_mixed (T : Txt K mg) : Good P w K mg base "_law_mixed" 1 ["_law_cell", "_law_k"] (spMixed) := by
  obtain ⟨gM, fd, F⟩ := dk__law_mixed T
  have z0 : ∀ H, SqT K H (He.ga K "ZERO") (fr 0) := T.zero
  have z1 : ∀ H, SqT K H (He.ga K "ONE") (fr 1) := T.one
  refine ⟨gM, F.kp, fd, F.bindsN (fun _ _ _ _ _ _ us hl => match us, hl with | [_, _], _ => rfl), F.ok sc__law_mixed ?_ (fun cdv A outer s H vs Q E hr h => ⟨_, PSs.nox (pss_cons (ps_set (i := 2) sc__law_mixed.nd rfl (Or.inl rfl) (pe_op op_add (pe_op op_mod (pe_callTy cr_int (by rfl) (m_int T) bt_int (pa_cons (pv 0) pa_nil)) pe_int) (pe_op op_mul (pe_op op_fdivW (pv 0) pe_int) pe_int)))
    (pss_cons (ps_set (i := 2) sc__law_mixed.nd rfl (Or.inl rfl) (pe_op op_mod (pe_callTy cr_int (by rfl) (m_int T) bt_int (pa_cons (pe_op op_mul (pe_op op_add (pe_op op_add (pv 2) (pe_op op_mul pe_int (pv 1))) pe_int) pe_int) pa_nil)) pe_int))
    (pss_cons (ps_set (i := 2) sc__law_mixed.nd rfl (Or.inl rfl) (pe_op op_mod (pe_callTy cr_int (by rfl) (m_int T) bt_int (pa_cons (pe_op op_mul (pv 2) (pe_op op_add (pe_op op_add (pe_op op_fdivW (pv 2) pe_int) pe_int) (pv 1))) pa_nil)) pe_int))
    (pss_one (ps_ret (pe_op op_mod (pe_callTy cr_int (by rfl) (m_int T) bt_int (pa_cons (pe_op op_mul (pv 2) (pe_op op_add (pe_op op_fdivW (pv 2) pe_int) pe_int)) pa_nil)) pe_int)))))), ?_⟩)⟩
  · rintro vs H Q E ⟨_, _, rfl, _⟩; rfl
  obtain ⟨c, i, rfl, q⟩ := h
  rw [st__law_mixed]; try dsimp only [L2.cxOf]
  walk_at "go"
  refine nmodG (by decide) fun r1 _ _ => ?_
  walk_at "go"
  refine ndivG ⟨by decide, by decide⟩ fun r2 => ?_
  walk_at "go"
  refine nmulR (by decide) ?_
  walk_at "go"
  refine nmulL (by decide) ?_
  walk_at "go"
  refine nmulR (by decide) ?_
  walk_at "go"
  refine nmodG (by decide) fun r3 _ _ => ?_
  walk_at "go"
  refine ndivG ⟨by decide, by decide⟩ fun r4 => ?_
  walk_at "go"
  refine nmulL (by omega) ?_
  walk_at "go"
  refine nmodG (by decide) fun r5 _ _ => ?_
  walk_at "go"
  refine ndivG ⟨by decide, by decide⟩ fun r6 => ?_
  walk_at "go"
  refine nmulL (by omega) ?_
  walk_at "go"
  refine nmodG (by decide) fun r7 _ _ => ?_
  walk_at "go"
  exact q _
theorem ok__law_source (T : Txt K mg) : Good P w K mg base "_law_source" 2 ["_law_script", "_law_k"] (spSource K) := by
  have G__law_mixed := ok__law_mixed (P := P) (w := w) (base := base) T
  have G__law_cell_at := ok__law_cell_at (P := P) (w := w) (base := base) T
  obtain ⟨gM, fd, F⟩ := dk__law_source T
  have z0 : ∀ H, SqT K H (He.ga K "ZERO") (fr 0) := T.zero
  have z1 : ∀ H, SqT K H (He.ga K "ONE") (fr 1) := T.one
  refine ⟨gM, F.kp, fd, F.bindsN (fun _ _ _ _ _ _ us hl => match us, hl with | [_, _], _ => rfl), F.ok sc__law_source ?_ (fun cdv A outer s H vs Q E hr h => ⟨_, PSs.nox (pss_cons (ps_if (pt_cmpR op_lt (pv 1) (pe_callB cr_len (by rfl) (m_len T) PySem.boot_len (pa_cons (pv 0) pa_nil)) (nomark _)) (pss_one (ps_ret (pe_lst (pa_cons (pe_ix ix_list (pv 0) (pv 1) (fun _ _ => rfl)) (pa_cons (pe_ix ix_list (pv 0) (pv 1) (fun _ _ => rfl)) (pa_cons pe_int pa_nil)))))) pss_nil)
    (pss_cons (ps_set (i := 2) sc__law_source.nd rfl (Or.inl rfl) (pe_good G__law_mixed (hr.mono (by decide)) (pa_cons (pe_good G__law_cell_at (hr.mono (by decide)) (pa_cons (pv 0) (pa_cons pe_int pa_nil))) (pa_cons (pe_op op_add pe_int (pv 1)) pa_nil))))
    (pss_one (ps_ret (pe_lst (pa_cons (pv 2) (pa_cons (pv 2) (pa_cons pe_int pa_nil)))))))), ?_⟩)⟩
  · rintro vs H Q E ⟨_, _, _, rfl, _⟩; rfl
  obtain ⟨a, ns, i, rfl, hs, hi, q⟩ := h
  rw [st__law_source]; try dsimp only [L2.cxOf]
  walk_at "go"
  refine wD (fun c => ?_) (fun c => ?_)
  · rw [List.length_map] at c
    obtain ⟨n, rfl⟩ := Int.eq_ofNat_of_zero_le hi
    have hn : n < ns.length := by exact_mod_cast c
    have ht : (ns.map V.int)[n]? = some (.int ns[n]) := by
      rw [List.getElem?_map, List.getElem?_eq_getElem hn]
      rfl
    walk_at "go"
    refine ixL_ hs (atI_nat ht) ?_
    walk_at "go"
    refine ixL_ hs (atI_nat ht) ?_
    walk_at "go"
    exact q _ _ (by assumption) (by assumption) ⟨_, _, _, by assumption⟩
  · walk_at "go"
    refine ⟨a, ns, 0, rfl, hs, by decide, fun j => ?_⟩
    walk_at "go"
    exact q _ _ (by assumption) (by assumption) ⟨_, _, _, by assumption⟩
theorem ok__law_next (T : Txt K mg) : Good P w K mg base "_law_next" 2 ["_law_source_here", "_law_many"] (spNext) := by
  have G__law_mixed := ok__law_mixed (P := P) (w := w) (base := base) T
  obtain ⟨gM, fd, F⟩ := dk__law_next T
  have z0 : ∀ H, SqT K H (He.ga K "ZERO") (fr 0) := T.zero
  have z1 : ∀ H, SqT K H (He.ga K "ONE") (fr 1) := T.one
  refine ⟨gM, F.kp, fd, F.bindsN (fun _ _ _ _ _ _ us hl => match us, hl with | [_, _], _ => rfl), F.ok sc__law_next ?_ (fun cdv A outer s H vs Q E hr h => ⟨_, PSs.nox (pss_cons (ps_if (pt_cmpR op_ge (pe_ix ix_list (pv 0) pe_int (fun _ _ => rfl)) (pe_op op_pow pe_int pe_int) (nomark _)) (pss_cons (ps_set (i := 2) sc__law_next.nd rfl (Or.inl rfl) (pe_op op_mod (pe_callTy cr_int (by rfl) (m_int T) bt_int (pa_cons (pe_ix ix_list (pv 0) pe_int (fun _ _ => rfl)) pa_nil)) (pv 1)))
    (pss_cons (ps_asg (pe_op op_fdivW (pe_ix ix_list (pv 0) pe_int (fun _ _ => rfl)) (pv 1)) (pg_sub (pv 0) pe_int set_list))
    (pss_one (ps_ret (pv 2))))) pss_nil)
    (pss_cons (ps_asg (pe_op op_add (pe_ix ix_list (pv 0) pe_int (fun _ _ => rfl)) pe_int) (pg_sub (pv 0) pe_int set_list))
    (pss_one (ps_ret (pe_op op_mod (pe_callTy cr_int (by rfl) (m_int T) bt_int (pa_cons (pe_good G__law_mixed (hr.mono (by decide)) (pa_cons (pe_ix ix_list (pv 0) pe_int (fun _ _ => rfl)) (pa_cons (pe_ix ix_list (pv 0) pe_int (fun _ _ => rfl)) pa_nil))) pa_nil)) (pv 1)))))), ?_⟩)⟩
  · rintro vs H Q E ⟨_, _, rfl, _⟩; rfl
  obtain ⟨a, n, rfl, hs, hn, hn2, q⟩ := h
  obtain ⟨i, j, k, hs⟩ := hs
  have hsl : SqL K H a [.int i, .int j, .int k] := SqL.tr hs
  have hd : ∀ i, CDivW i n := fun i => wide_div (b := 64) hn (by omega) (by decide) (by decide)
  rw [st__law_next]; try dsimp only [L2.cxOf]
  walk_at "go"
  refine npow_ (by unfold CPow; decide) ?_
  walk_at "go"
  refine wD (fun c => ?_) (fun c => ?_)
  · walk_at "go"
    refine nmodG hn fun r h0 h1 => ?_
    walk_at "go"
    refine ndivG (hd _) fun r2 => ?_
    walk_at "go"
    refine set0_ hs ?_
    walk_at "go"
    exact q _ _ h0 h1 upd_src upd_frm
  · walk_at "go"
    refine set2_ hs ?_
    have hsl2 : SqL K (upd H a (.lst [.int i, .int j, .int (k + 1)])) a [.int i, .int j, .int (k + 1)] := SqL.tr upd_same
    walk_at "go"
    refine nmodG hn fun r h0 h1 => ?_
    exact q _ _ h0 h1 upd_src upd_frm
theorem ok__law_one (T : Txt K mg) : Good P w K mg base "_law_one" 3 ["_law_source_here", "_law_things"] (spOne K) := by
  have G__law_next := ok__law_next (P := P) (w := w) (base := base) T
  obtain ⟨gM, fd, F⟩ := dk__law_one T
  have z0 : ∀ H, SqT K H (He.ga K "ZERO") (fr 0) := T.zero
  have z1 : ∀ H, SqT K H (He.ga K "ONE") (fr 1) := T.one
  refine ⟨gM, F.kp, fd, F.bindsN (fun _ _ _ _ _ _ us hl => match us, hl with | [_, _], _ => rfl), F.ok sc__law_one ?_ (fun cdv A outer s H vs Q E hr h => ⟨_, PSs.nox (pss_one (ps_ret (pe_ix ix_seq (pv 1) (pe_good G__law_next (hr.mono (by decide)) (pa_cons (pv 0) (pa_cons (pe_callB cr_len (by rfl) (m_len T) PySem.boot_len (pa_cons (pv 1) pa_nil)) pa_nil))) (fun _ _ => rfl)))), ?_⟩)⟩
  · rintro vs H Q E ⟨_, _, _, rfl, _⟩; rfl
  obtain ⟨a, t, xs, rfl, hs, hx, h0, h1, q⟩ := h
  rw [st__law_one]; try dsimp only [L2.cxOf]
  walk_at "go"
  refine ⟨t, xs, rfl, ?_, ?_⟩
  · exact hx.elim (fun z => .inl z.1) .inr
  walk_at "go"
  refine next_ (n := (xs.length : Int)) hs (by omega) (by omega) fun r H' r0 r1 hs' hf => ?_
  obtain ⟨n, rfl⟩ := Int.eq_ofNat_of_zero_le r0
  have hn : n < xs.length := by exact_mod_cast r1
  have hv : atI xs (n : Int) = some xs[n] := atI_nat (List.getElem?_eq_getElem hn)
  rcases hx with ⟨z, ne⟩ | z
  · exact .inl ⟨t, xs, _, _, rfl, rfl, Frm.sqL hf ne z, hv, q _ _ (List.getElem_mem hn) hs' hf⟩
  · exact .inr (.inl ⟨t, xs, _, _, rfl, rfl, Frm.sqT hf hs z, hv, q _ _ (List.getElem_mem hn) hs' hf⟩)
theorem ok__law_divisor (T : Txt K mg) : Good P w K mg base "_law_divisor" 1 ["_law_one_here", "_law_other"] (spDivisor) := by
  obtain ⟨gM, fd, F⟩ := dk__law_divisor T
  have z0 : ∀ H, SqT K H (He.ga K "ZERO") (fr 0) := T.zero
  have z1 : ∀ H, SqT K H (He.ga K "ONE") (fr 1) := T.one
  refine ⟨gM, F.kp, fd, F.bindsN (fun _ _ _ _ _ _ us hl => match us, hl with | [_, _], _ => rfl), F.ok sc__law_divisor ?_ (fun cdv A outer s H vs Q E hr h => ⟨_, PSs.nox (pss_cons (ps_while PassesOwn.never (pt_cmpR op_gt (pv 1) pe_int (nomark _))
      (pss_one (ps_par (i := 0) (j := 1) rfl sc__law_divisor.nd rfl rfl (by decide) rfl rfl (pa_cons (pv 1) (pa_cons (pe_op op_mod (pe_callTy cr_int (by rfl) (m_int T) bt_int (pa_cons (pv 0) pa_nil)) (pv 1)) pa_nil)) (by rfl))))
    (pss_one (ps_ret (pv 0)))), ?_⟩)⟩
  · rintro vs H Q E ⟨_, _, rfl, _⟩; rfl
  obtain ⟨a, b, rfl, q⟩ := h
  rw [st__law_divisor]; try dsimp only [L2.cxOf]
  walk_at "x"
  refine ⟨fun m σ H' => ∃ a' : Nat, σ = [some (.int a'), some (.int m)] ∧ Nat.gcd a' m = Nat.gcd a b ∧ H' = H, ⟨b, a, rfl, rfl, rfl⟩, ?_⟩
  rintro m σ H' ⟨a', rfl, hg, rfl⟩
  walk_at "go"
  refine wD (fun c => ?_) (fun c => ?_)
  · have hm : 0 < m := by exact_mod_cast c
    refine ⟨fun σ' H'' => σ' = [some (.int m), some (.int ((a' % m : Nat) : Int))] ∧ H'' = H', ?_, ?_⟩
    · rintro σ' H'' ⟨rfl, rfl⟩
      refine ⟨a' % m, Nat.mod_lt _ hm, m, rfl, ?_, rfl⟩
      rw [← hg, Nat.gcd_comm m, ← Nat.gcd_rec, Nat.gcd_comm]
    · walk_at "go"
      refine nmod_ c ?_
      walk_at "go"
      exact ⟨by rw [Int.natCast_emod] <;> rfl, rfl⟩
  · have hm : m = 0 := by omega
    subst hm
    walk_at "go"
    rw [← hg, Nat.gcd_zero_right] at q
    exact q
theorem ok__law_ratio (T : Txt K mg) : Good P w K mg base "_law_ratio" 2 ["_law_top", "_law_bottom"] (spRatio K) := by
  have G__law_divisor := ok__law_divisor (P := P) (w := w) (base := base) T
  obtain ⟨gM, fd, F⟩ := dk__law_ratio T
  have z0 : ∀ H, SqT K H (He.ga K "ZERO") (fr 0) := T.zero
  have z1 : ∀ H, SqT K H (He.ga K "ONE") (fr 1) := T.one
  refine ⟨gM, F.kp, fd, F.bindsN (fun _ _ _ _ _ _ us hl => match us, hl with | [_, _], _ => rfl), F.ok sc__law_ratio ?_ (fun cdv A outer s H vs Q E hr h => ⟨_, PSs.nox (pss_cons (ps_if (pt_cmpR op_lt (pv 1) pe_int (nomark _)) pss_never pss_nil)
    (pss_cons (ps_set (i := 2) sc__law_ratio.nd rfl (Or.inl rfl) (pe_good G__law_divisor (hr.mono (by decide)) (pa_cons (pe_callB cr_abs (by rfl) (m_abs T) bt_abs (pa_cons (pv 0) pa_nil)) (pa_cons (pv 1) pa_nil))))
    (pss_one (ps_ret (pe_tup (pa_cons (pe_op op_fdivW (pv 0) (pv 2)) (pa_cons (pe_op op_fdivW (pv 1) (pv 2)) pa_nil))))))), ?_⟩)⟩
  · rintro vs H Q E ⟨_, _, rfl, _⟩; rfl
  obtain ⟨i, j, rfl, hj, hb, k⟩ := h
  obtain ⟨n, rfl⟩ := Int.eq_ofNat_of_zero_le (Int.le_of_lt hj)
  rw [st__law_ratio]; try dsimp only [L2.cxOf]
  walk_at "go"
  refine ⟨i.natAbs, n, rfl, ?_⟩
  have hg : ((Nat.gcd i.natAbs n : Nat) : Int) = ((Nat.gcd i.natAbs (n : Int).natAbs : Nat) : Int) := by rw [Int.natAbs_natCast]
  rw [hg]
  walk_at "go"
  refine ndiv_ (gcd_small hj hb) ?_
  walk_at "go"
  refine ndiv_ (gcd_small hj hb) ?_
  walk_at "go"
  rename_i hz
  rw [ratio_num i n hj, ratio_den i n hj] at hz
  exact k _ _ (by assumption) (SqT.tr hz)

theorem ok_over (T : Txt K mg) : Good P w K mg base "over" 2 ["a", "b"] (spOver K) := by
  have G_ratio := ok_ratio (P := P) (w := w) (base := base) T
  obtain ⟨gM, fd, F⟩ := dk_over T
  have z0 : ∀ H, SqT K H (He.ga K "ZERO") (fr 0) := T.zero
  have z1 : ∀ H, SqT K H (He.ga K "ONE") (fr 1) := T.one
  refine ⟨gM, F.kp, fd, F.bindsN (fun _ _ _ _ _ _ us hl => match us, hl with | [_, _], _ => rfl), F.ok sc_over ?_ (fun cdv A outer s H vs Q E hr h => ⟨_, PSs.nox (pss_one (ps_ret (pe_good G_ratio (hr.mono (by decide)) (pa_cons (pe_op op_mulW (pe_ix ix_tup (pv 0) pe_int (fun _ _ => rfl)) (pe_ix ix_tup (pv 1) pe_int (fun _ _ => rfl))) (pa_cons (pe_op op_mulW (pe_ix ix_tup (pv 0) pe_int (fun _ _ => rfl)) (pe_ix ix_tup (pv 1) pe_int (fun _ _ => rfl))) pa_nil))))), ?_⟩)⟩
  · rintro vs H Q E ⟨_, _, _, _, rfl, _⟩; rfl
  obtain ⟨a, b, p, q, rfl, ha, hb, pr, hq, k⟩ := h
  rw [st_over]; try dsimp only [L2.cxOf]
  walk_at "go"
  refine ratio_ (dn_pos p hq) pr.dnn fun c H' e hc => k c H' e ?_
  rw [d_div] at hc
  exact hc
theorem ok_even_step (T : Txt K mg) : Good P w K mg base "even_step" 2 ["low", "high", "k", "count"] (spEvenStep K) := by
  have G_ratio := ok_ratio (P := P) (w := w) (base := base) T
  obtain ⟨gM, fd, F⟩ := dk_even_step T
  have z0 : ∀ H, SqT K H (He.ga K "ZERO") (fr 0) := T.zero
  have z1 : ∀ H, SqT K H (He.ga K "ONE") (fr 1) := T.one
  refine ⟨gM, F.kp, fd, F.bindsN (fun _ _ _ _ _ _ us hl => match us, hl with | [_, _, _, _], _ => rfl), F.ok sc_even_step ?_ (fun cdv A outer s H vs Q E hr h => ⟨_, PSs.nox (pss_cons (ps_set (i := 4) sc_even_step.nd rfl (Or.inl rfl) (pe_op op_mulW (pe_ix ix_tup (pv 0) pe_int (fun _ _ => rfl)) (pe_ix ix_tup (pv 1) pe_int (fun _ _ => rfl))))
    (pss_one (ps_ret (pe_good G_ratio (hr.mono (by decide)) (pa_cons (pe_op op_add (pe_op op_mulW (pe_op op_mulW (pe_ix ix_tup (pv 0) pe_int (fun _ _ => rfl)) (pe_ix ix_tup (pv 1) pe_int (fun _ _ => rfl))) (pe_op op_sub (pv 3) (pv 2))) (pe_op op_mulW (pe_op op_mulW (pe_ix ix_tup (pv 1) pe_int (fun _ _ => rfl)) (pe_ix ix_tup (pv 0) pe_int (fun _ _ => rfl))) (pv 2))) (pa_cons (pe_op op_mulW (pv 4) (pv 3)) pa_nil)))))), ?_⟩)⟩
  · rintro vs H Q E ⟨_, _, _, _, _, _, rfl, _⟩; rfl
  obtain ⟨a, b, p, q, g, c, rfl, ha, hb, bp, bq, hc, hg, h2, k⟩ := h
  have pr : Pr p q := Pr.bd bp bq (by decide)
  have bc : (c : Int).natAbs < 2 ^ 8 := by omega
  have bg : (g : Int).natAbs < 2 ^ 8 := by omega
  have bcg : ((c : Int) - (g : Int)).natAbs < 2 ^ 8 := by omega
  have b1 := nmul bp.1 (show (q.den : Int).natAbs < 2 ^ 250 by rw [Int.natAbs_natCast]; exact bq.2)
  have b2 := nmul bq.1 (show (p.den : Int).natAbs < 2 ^ 250 by rw [Int.natAbs_natCast]; exact bp.2)
  have b3 := nmul (show (p.den : Int).natAbs < 2 ^ 250 by rw [Int.natAbs_natCast]; exact bp.2) (show (q.den : Int).natAbs < 2 ^ 250 by rw [Int.natAbs_natCast]; exact bq.2)
  have m1 := CMulW.of b1 bcg (by decide)
  have m2 := CMulW.of b2 bg (by decide)
  have m3 := CMulW.of b3 bc (by decide)
  have b4 := pow_up (nmul b3 bc) (show 250 + 250 + 8 ≤ 9000 by decide)
  have ps : (0 : Int) < (p.den : Int) * (q.den : Int) * (c : Int) := Int.mul_pos (dd_pos p q) (by omega)
  rw [st_even_step]; try dsimp only [L2.cxOf]
  walk_at "go"
  refine ratio_ ps b4 fun d H' e hd => k d H' e ?_
  rw [even_div p q g c hc hg] at hd
  exact hd
theorem ok_even_place (T : Txt K mg) : Good P w K mg base "even_place" 3 ["low", "high", "count", "x"] (spEvenPlace K) := by
  have G_minus := ok_minus (P := P) (w := w) (base := base) T
  obtain ⟨gM, fd, F⟩ := dk_even_place T
  have z0 : ∀ H, SqT K H (He.ga K "ZERO") (fr 0) := T.zero
  have z1 : ∀ H, SqT K H (He.ga K "ONE") (fr 1) := T.one
  refine ⟨gM, F.kp, fd, F.bindsN (fun _ _ _ _ _ _ us hl => match us, hl with | [_, _, _, _], _ => rfl), F.ok sc_even_place ?_ (fun cdv A outer s H vs Q E hr h => ⟨_, PSs.nox (pss_cons (ps_set (i := 4) sc_even_place.nd rfl (Or.inl rfl) (pe_good G_minus (hr.mono (by decide)) (pa_cons (pv 1) (pa_cons (pv 0) pa_nil))))
    (pss_cons (ps_set (i := 5) sc_even_place.nd rfl (Or.inl rfl) (pe_good G_minus (hr.mono (by decide)) (pa_cons (pv 3) (pa_cons (pv 0) pa_nil))))
    (pss_one (ps_ret (pe_op op_fdivW (pe_op op_mulW (pe_op op_mulW (pe_ix ix_tup (pv 5) pe_int (fun _ _ => rfl)) (pe_ix ix_tup (pv 4) pe_int (fun _ _ => rfl))) (pv 2)) (pe_op op_mulW (pe_ix ix_tup (pv 5) pe_int (fun _ _ => rfl)) (pe_ix ix_tup (pv 4) pe_int (fun _ _ => rfl)))))))), ?_⟩)⟩
  · rintro vs H Q E ⟨_, _, _, _, _, _, _, rfl, _⟩; rfl
  obtain ⟨a, b, x, p, q, y, c, rfl, ha, hb, hx, bp, bq, by_, lt, hc, h2, k⟩ := h
  have w0 : 0 < q - p := by grind
  have bw := Bd.sub bq bp
  have bgn := Bd.sub by_ bp
  have pr1 : Pr q p := Pr.bd bq bp (by decide)
  have pr2 : Pr y p := Pr.bd by_ bp (by decide)
  have pr3 : Pr (y - p) (q - p) := Pr.bd bgn bw (by decide)
  have bc : (c : Int).natAbs < 2 ^ 8 := by omega
  have m1 := CMulW.of (nmul bgn.1 (show ((q - p).den : Int).natAbs < 2 ^ (250 + 250 + 1) by rw [Int.natAbs_natCast]; exact bw.2)) bc (by decide)
  have dp := dn_pos (y - p) w0
  have dv : ∀ i, CDivW i (((y - p).den : Int) * (q - p).num) := fun i => wide_div (b := 9000) dp pr3.dnn (by decide) (by decide)
  rw [st_even_place]; try dsimp only [L2.cxOf]
  walk_at "go"
  refine ndiv_ (dv _) ?_
  refine k _ _ (by walk_at "same") (place_lo _ _ _ c w0 ?_) (place_hi _ _ _ c w0 ?_)
  · exact Int.ediv_mul_le _ (by omega)
  · exact Int.lt_ediv_add_one_mul_self _ dp

local macro_rules | `(tactic| walk_at "it") => `(tactic| first
  | assumption
  | exact It.duS
  | (with_reducible apply It.du0; walk_at "sq")
  | (with_reducible apply It.fr; walk_at "sq")
  | (with_reducible apply It.same; assumption; walk_at "it"))
local macro_rules | `(tactic| walk_at "call") => `(tactic| first
  | (with_reducible apply blw_; walk_at "it"; walk_at "it"; assumption))
theorem ok_joined (T : Txt K mg) : Good P w K mg base "joined" 3 ["a", "b"] (spJoined K) := by
  have G_plus := ok_plus (P := P) (w := w) (base := base) T
  obtain ⟨gM, fd, F⟩ := dk_joined T
  have z0 : ∀ H, SqT K H (He.ga K "ZERO") (fr 0) := T.zero
  have z1 : ∀ H, SqT K H (He.ga K "ONE") (fr 1) := T.one
  refine ⟨gM, F.kp, fd, F.bindsN (fun _ _ _ _ _ _ us hl => match us, hl with | [_, _], _ => rfl), F.ok sc_joined ?_ (fun cdv A outer s H vs Q E hr h => ⟨_, PSs.nox (pss_cons (ps_if (PW.pt (pw_or (pt_cmpR (op_eqD hr.units) (pv 0) (pe_glob (v := .str "endless") rfl T.gE.choose_spec ⟨_, rfl⟩) (nomark _)) (pw_or1 (pt_cmpR (op_eqD hr.units) (pv 1) (pe_glob (v := .str "endless") rfl T.gE.choose_spec ⟨_, rfl⟩) (nomark _))))) (pss_one (ps_ret (pe_glob (v := .str "endless") rfl T.gE.choose_spec ⟨_, rfl⟩))) pss_nil)
    (pss_one (ps_ret (pe_good G_plus (hr.mono (by decide)) (pa_cons (pv 0) (pa_cons (pv 1) pa_nil)))))), ?_⟩)⟩
  · rintro vs H Q E ⟨_, _, _, _, rfl, _⟩; rfl
  obtain ⟨u, v, a, b, rfl, ha, hb, pr, k⟩ := h
  cases a with
  | none =>
    obtain rfl := It.duE ha
    rw [st_joined]; try dsimp only [L2.cxOf]
    walk_at "gn"
    refine orj (c1 := true) (c2 := decide (b = none)) (fun P z => ?_) (fun P z => ?_) ?_
    · walk_at "gn"
      exact eqDu_ (a := none) (b := none) ha It.duS (xbl z)
    · walk_at "gn"
      exact eqDu_ (b := none) hb It.duS (xbl z)
    · walk_at "gn"
      exact k _ _ (Same.refl _) It.duS
  | some p =>
    obtain ⟨pa, rfl, hpa⟩ := It.duF ha
    cases b with
    | none =>
      obtain rfl := It.duE hb
      rw [st_joined]; try dsimp only [L2.cxOf]
      walk_at "gn"
      refine orj (c1 := false) (c2 := true) (fun P z => ?_) (fun P z => ?_) ?_
      · walk_at "gn"
        exact eqDu_ (a := some p) (b := none) ha It.duS (xbl z)
      · walk_at "gn"
        exact eqDu_ (a := none) (b := none) hb It.duS (xbl z)
      · walk_at "gn"
        exact k _ _ (Same.refl _) It.duS
    | some q =>
      obtain ⟨pb, rfl, hpb⟩ := It.duF hb
      have pr' := pr p q rfl rfl
      rw [st_joined]; try dsimp only [L2.cxOf]
      walk_at "gn"
      refine orj (c1 := false) (c2 := false) (fun P z => ?_) (fun P z => ?_) ?_
      · walk_at "gn"
        exact eqDu_ (a := some p) (b := none) ha It.duS (xbl z)
      · walk_at "gn"
        exact eqDu_ (a := some q) (b := none) hb It.duS (xbl z)
      · refine wF rfl ?_
        walk_at "gn"
        exact k _ _ (by walk_at "same") (It.fr (q := p + q) (by walk_at "sq"))
theorem ok_repeated (T : Txt K mg) : Good P w K mg base "repeated" 3 ["a", "b"] (spRepeated K) := by
  have G_times := ok_times (P := P) (w := w) (base := base) T
  obtain ⟨gM, fd, F⟩ := dk_repeated T
  have z0 : ∀ H, SqT K H (He.ga K "ZERO") (fr 0) := T.zero
  have z1 : ∀ H, SqT K H (He.ga K "ONE") (fr 1) := T.one
  refine ⟨gM, F.kp, fd, F.bindsN (fun _ _ _ _ _ _ us hl => match us, hl with | [_, _], _ => rfl), F.ok sc_repeated ?_ (fun cdv A outer s H vs Q E hr h => ⟨_, PSs.nox (pss_cons (ps_if (PW.pt (pw_or (pt_cmpR (op_eqD hr.units) (pv 0) (pe_glob (v := .ref (He.ga K "ZERO")) rfl T.gZ rfl) (nomark _)) (pw_or1 (pt_cmpR (op_eqD hr.units) (pv 1) (pe_glob (v := .ref (He.ga K "ZERO")) rfl T.gZ rfl) (nomark _))))) (pss_one (ps_ret (pe_glob (v := .ref (He.ga K "ZERO")) rfl T.gZ rfl))) pss_nil)
    (pss_cons (ps_if (PW.pt (pw_or (pt_cmpR (op_eqD hr.units) (pv 0) (pe_glob (v := .str "endless") rfl T.gE.choose_spec ⟨_, rfl⟩) (nomark _)) (pw_or1 (pt_cmpR (op_eqD hr.units) (pv 1) (pe_glob (v := .str "endless") rfl T.gE.choose_spec ⟨_, rfl⟩) (nomark _))))) (pss_one (ps_ret (pe_glob (v := .str "endless") rfl T.gE.choose_spec ⟨_, rfl⟩))) pss_nil)
    (pss_one (ps_ret (pe_good G_times (hr.mono (by decide)) (pa_cons (pv 0) (pa_cons (pv 1) pa_nil))))))), ?_⟩)⟩
  · rintro vs H Q E ⟨_, _, _, _, rfl, _⟩; rfl
  obtain ⟨u, v, a, b, rfl, ha, hb, pr, k⟩ := h
  rw [st_repeated]; try dsimp only [L2.cxOf]
  walk_at "gn"
  refine orj (c1 := decide (a = some 0)) (c2 := decide (b = some 0)) (fun P z => ?_) (fun P z => ?_) ?_
  · walk_at "gn"
    exact eqDu_ (b := some 0) ha (It.du0 (z0 _)) (xbl z)
  · walk_at "gn"
    exact eqDu_ (b := some 0) hb (It.du0 (z0 _)) (xbl z)
  by_cases c : a = some 0 ∨ b = some 0
  · rw [show (decide (a = some 0) || decide (b = some 0)) = true by rw [← Bool.decide_or]; exact decide_eq_true c]
    walk_at "gn"
    refine k _ _ (Same.refl _) ?_
    unfold rp
    rw [if_pos c]
    exact It.du0 (z0 _)
  · rw [show (decide (a = some 0) || decide (b = some 0)) = false by rw [← Bool.decide_or]; exact decide_eq_false c]
    walk_at "gn"
    have er : rp a b = mul2 a b := if_neg c
    rw [er] at k
    refine orj (c1 := decide (a = none)) (c2 := decide (b = none)) (fun P z => ?_) (fun P z => ?_) ?_
    · walk_at "gn"
      exact eqDu_ (b := none) ha It.duS (xbl z)
    · walk_at "gn"
      exact eqDu_ (b := none) hb It.duS (xbl z)
    cases a with
    | none =>
      walk_at "gn"
      exact k _ _ (Same.refl _) It.duS
    | some p =>
      cases b with
      | none =>
        walk_at "gn"
        exact k _ _ (Same.refl _) It.duS
      | some q =>
        obtain ⟨pa, rfl, hpa⟩ := It.duF ha
        obtain ⟨pb, rfl, hpb⟩ := It.duF hb
        have pr' := pr p q rfl rfl
        refine wF rfl ?_
        walk_at "gn"
        exact k _ _ (by walk_at "same") (It.fr (q := p * q) (by walk_at "sq"))
theorem ok_below (T : Txt K mg) : Good P w K mg base "below" 2 ["a", "b"] (spBelow K) := by
  have G_less := ok_less (P := P) (w := w) (base := base) T
  obtain ⟨gM, fd, F⟩ := dk_below T
  have z0 : ∀ H, SqT K H (He.ga K "ZERO") (fr 0) := T.zero
  have z1 : ∀ H, SqT K H (He.ga K "ONE") (fr 1) := T.one
  refine ⟨gM, F.kp, fd, F.bindsN (fun _ _ _ _ _ _ us hl => match us, hl with | [_, _], _ => rfl), F.ok sc_below ?_ (fun cdv A outer s H vs Q E hr h => ⟨_, PSs.nox (pss_cons (ps_if (pt_cmpR (op_eqD hr.units) (pv 0) (pe_glob (v := .str "endless") rfl T.gE.choose_spec ⟨_, rfl⟩) (nomark _)) (pss_one (ps_ret pe_bl)) pss_nil)
    (pss_one (ps_ret (pe_or (pe_cmpR (op_eqD hr.units) (pv 1) (pe_glob (v := .str "endless") rfl T.gE.choose_spec ⟨_, rfl⟩) (nomark _)) (pe_one (pe_good G_less (hr.mono (by decide)) (pa_cons (pv 0) (pa_cons (pv 1) pa_nil)))))))), ?_⟩)⟩
  · rintro vs H Q E ⟨_, _, _, _, rfl, _⟩; rfl
  obtain ⟨u, v, a, b, rfl, ha, hb, pr, k⟩ := h
  cases a with
  | none =>
    obtain rfl := It.duE ha
    rw [st_below]; try dsimp only [L2.cxOf]
    walk_at "gn"
    refine eqDu_ (a := none) (b := none) ha It.duS ?_
    walk_at "gn"
    exact k
  | some p =>
    obtain ⟨pa, rfl, hpa⟩ := It.duF ha
    cases b with
    | none =>
      obtain rfl := It.duE hb
      rw [st_below]; try dsimp only [L2.cxOf]
      walk_at "gn"
      refine eqDu_ (a := some p) (b := none) ha It.duS ?_
      walk_at "gn"
      refine eqDu_ (a := none) (b := none) hb It.duS ?_
      walk_at "gn"
      exact k
    | some q =>
      obtain ⟨pb, rfl, hpb⟩ := It.duF hb
      have pr' := pr p q rfl rfl
      rw [st_below]; try dsimp only [L2.cxOf]
      walk_at "gn"
      refine eqDu_ (a := some p) (b := none) ha It.duS ?_
      walk_at "gn"
      refine eqDu_ (a := some q) (b := none) hb It.duS ?_
      walk_at "gn"
      exact k
theorem ok_lesser (T : Txt K mg) : Good P w K mg base "lesser" 3 ["a", "b"] (spLesser K) := by
  have G_below := ok_below (P := P) (w := w) (base := base) T
  obtain ⟨gM, fd, F⟩ := dk_lesser T
  have z0 : ∀ H, SqT K H (He.ga K "ZERO") (fr 0) := T.zero
  have z1 : ∀ H, SqT K H (He.ga K "ONE") (fr 1) := T.one
  refine ⟨gM, F.kp, fd, F.bindsN (fun _ _ _ _ _ _ us hl => match us, hl with | [_, _], _ => rfl), F.ok sc_lesser ?_ (fun cdv A outer s H vs Q E hr h => ⟨_, PSs.nox (pss_one (ps_ret (pe_ifExp (pt_val (pe_good G_below (hr.mono (by decide)) (pa_cons (pv 1) (pa_cons (pv 0) pa_nil)))) (pv 1) (pv 0)))), ?_⟩)⟩
  · rintro vs H Q E ⟨_, _, _, _, rfl, _⟩; rfl
  obtain ⟨u, v, a, b, rfl, ha, hb, pr, k⟩ := h
  have pr2 : Pro b a := fun p q e1 e2 => (pr q p e2 e1).symm
  rw [st_lesser]; try dsimp only [L2.cxOf]
  walk_at "gn"
  unfold lsr at k
  refine wB (fun c => ?_) (fun c => ?_)
  · walk_at "gn"
    rw [if_pos c] at k
    exact k _ _ (Same.refl _) hb
  · walk_at "gn"
    rw [if_neg (by rw [c]; exact Bool.false_ne_true)] at k
    exact k _ _ (Same.refl _) ha
theorem ok_greater (T : Txt K mg) : Good P w K mg base "greater" 3 ["a", "b"] (spGreater K) := by
  have G_below := ok_below (P := P) (w := w) (base := base) T
  obtain ⟨gM, fd, F⟩ := dk_greater T
  have z0 : ∀ H, SqT K H (He.ga K "ZERO") (fr 0) := T.zero
  have z1 : ∀ H, SqT K H (He.ga K "ONE") (fr 1) := T.one
  refine ⟨gM, F.kp, fd, F.bindsN (fun _ _ _ _ _ _ us hl => match us, hl with | [_, _], _ => rfl), F.ok sc_greater ?_ (fun cdv A outer s H vs Q E hr h => ⟨_, PSs.nox (pss_one (ps_ret (pe_ifExp (pt_val (pe_good G_below (hr.mono (by decide)) (pa_cons (pv 0) (pa_cons (pv 1) pa_nil)))) (pv 1) (pv 0)))), ?_⟩)⟩
  · rintro vs H Q E ⟨_, _, _, _, rfl, _⟩; rfl
  obtain ⟨u, v, a, b, rfl, ha, hb, pr, k⟩ := h
  rw [st_greater]; try dsimp only [L2.cxOf]
  walk_at "gn"
  unfold gtr at k
  refine wB (fun c => ?_) (fun c => ?_)
  · walk_at "gn"
    rw [if_pos c] at k
    exact k _ _ (Same.refl _) hb
  · walk_at "gn"
    rw [if_neg (by rw [c]; exact Bool.false_ne_true)] at k
    exact k _ _ (Same.refl _) ha


theorem ok__told_stretch (T : Txt K mg) : Good P w K mg base "_told_stretch" 2 ["points", "x"] (spTold K) := by
  have G_less := ok_less (P := P) (w := w) (base := base) T
  obtain ⟨gM, fd, F⟩ := dk__told_stretch T
  have z0 : ∀ H, SqT K H (He.ga K "ZERO") (fr 0) := T.zero
  have z1 : ∀ H, SqT K H (He.ga K "ONE") (fr 1) := T.one
  refine ⟨gM, F.kp, fd, F.bindsN (fun _ _ _ _ _ _ us hl => match us, hl with | [_, _], _ => rfl), F.ok sc__told_stretch ?_ (fun cdv A outer s H vs Q E hr h => ⟨_, PSs.nox (pss_cons (ps_asg (pv 1) (pg_tup rfl (pgs_cons (pg_name (i := 7) sc__told_stretch.nd rfl (Or.inl rfl)) (pgs_cons (pg_name (i := 8) sc__told_stretch.nd rfl (Or.inl rfl)) pgs_nil))))
    (pss_cons (ps_set (i := 2) sc__told_stretch.nd rfl (Or.inl rfl) (pe_op op_sub (pe_callB cr_len (by rfl) (m_len T) PySem.boot_len (pa_cons (pv 0) pa_nil)) pe_int))
    (pss_cons (ps_set (i := 3) sc__told_stretch.nd rfl (Or.inl rfl) pe_int)
    (pss_cons (ps_set (i := 4) sc__told_stretch.nd rfl (Or.inl rfl) (pe_ix ix_tup (pe_ix ix_tup (pv 0) pe_int (fun _ _ => rfl)) pe_int (fun _ _ => rfl)))
    (pss_cons (ps_if (pt_cmp (pc_isN (pv 4)) rfl) (pss_one (ps_set (i := 4) sc__told_stretch.nd rfl (Or.inl rfl) (pe_glob (v := .ref (He.ga K "ZERO")) rfl T.gZ rfl))) pss_nil)
    (pss_cons (ps_for PassesOwn.never rfl (pi_range2 rfl (m_range T) (pa_cons pe_int (pa_cons (pv 2) pa_nil))) (pg_name (i := 5) sc__told_stretch.nd rfl (Or.inl rfl))
      (pss_cons (ps_set (i := 6) sc__told_stretch.nd rfl (Or.inl rfl) (pe_ix ix_tup (pe_ix ix_tup (pv 0) (pv 5) (fun _ _ => rfl)) pe_int (fun _ _ => rfl)))
    (pss_cons (ps_if (pt_cmp (pc_isN (pv 6)) rfl) (pss_one ps_continue) pss_nil)
    (pss_cons (ps_if (pt_cmpR op_lt (pe_op op_mulW (pe_ix ix_tup (pv 6) pe_int (fun _ _ => rfl)) (pe_ix ix_tup (pv 4) pe_int (fun _ _ => rfl))) (pe_op op_mulW (pe_ix ix_tup (pv 4) pe_int (fun _ _ => rfl)) (pe_ix ix_tup (pv 6) pe_int (fun _ _ => rfl))) (nomark _)) (pss_one (ps_set (i := 6) sc__told_stretch.nd rfl (Or.inl rfl) (pv 4))) pss_nil)
    (pss_cons (ps_if (pt_cmpR op_lt (pe_op op_mulW (pv 7) (pe_ix ix_tup (pv 6) pe_int (fun _ _ => rfl))) (pe_op op_mulW (pe_ix ix_tup (pv 6) pe_int (fun _ _ => rfl)) (pv 8)) (nomark _)) (pss_one (ps_ret (pe_tup (pa_cons (pv 3) (pa_cons (pv 4) (pa_cons (pv 5) (pa_cons (pv 6) pa_nil))))))) pss_nil)
    (pss_cons (ps_set (i := 3) sc__told_stretch.nd rfl (Or.inl rfl) (pv 5))
    (pss_one (ps_set (i := 4) sc__told_stretch.nd rfl (Or.inl rfl) (pv 6)))))))))
    (pss_cons (ps_set (i := 6) sc__told_stretch.nd rfl (Or.inl rfl) (pe_ix ix_tup (pe_ix ix_tup (pv 0) (pv 2) (fun _ _ => rfl)) pe_int (fun _ _ => rfl)))
    (pss_cons (ps_if (pt_cmp (pc_isN (pv 6)) rfl) (pss_one (ps_set (i := 6) sc__told_stretch.nd rfl (Or.inl rfl) (pe_glob (v := .ref (He.ga K "ONE")) rfl T.gO rfl))) pss_nil)
    (pss_cons (ps_if (pt_val (pe_good G_less (hr.mono (by decide)) (pa_cons (pv 6) (pa_cons (pv 4) pa_nil)))) (pss_one (ps_set (i := 6) sc__told_stretch.nd rfl (Or.inl rfl) (pv 4))) pss_nil)
    (pss_one (ps_ret (pe_tup (pa_cons (pv 3) (pa_cons (pv 4) (pa_cons (pv 2) (pa_cons (pv 6) pa_nil)))))))))))))))), ?_⟩)⟩
  · rintro vs H Q E ⟨_, _, _, _, rfl, _⟩; rfl
  obtain ⟨v, x, P, y, rfl, hv, ok, h2, hx, by_, k⟩ := h
  obtain ⟨t, pts, rfl, ht, hP⟩ := It.ptsI hv
  have hl : (P.map (·.2)).length = P.length := List.length_map ..
  have hpl := hP.len
  have h200 := ok.len
  obtain ⟨x0, e0⟩ : ∃ x0, P[0]? = some x0 := ⟨_, List.getElem?_eq_getElem (by omega)⟩
  obtain ⟨y0, hy0⟩ : ∃ y0, pts[0]? = some y0 := ⟨_, List.getElem?_eq_getElem (by omega)⟩
  obtain ⟨pa, yv, yx, pv, rfl, h1, rfl, _, h3⟩ := hP.at_ 0 y0 x0 hy0 e0
  have m0 : (P.map (·.2))[0]? = some x0.2 := by rw [List.getElem?_map, e0] <;> rfl
  have hq := headQ_eq (L := P.map (·.2)) (by omega) m0
  have bl := lifted_bd ok (by decide)
  have TI0 := TI.start y h2
  have bh := (headQ_bd ok (by decide)).1
  have bq1 : Bd 250 (1 : Rat) := Bd.q1.mono (by decide)
  rw [show headQ (filled P) = x0.2.getD 0 from hq] at TI0 bh
  rw [st__told_stretch]; try dsimp only [L2.cxOf]
  walk_at "gn"
  rw [hpl]
  refine ixT_ ht (atI_of (ixN_first (by omega)) hy0) ?_
  walk_at "gn"
  have ix1 : atI [V.ref pv, yx] 1 = some yx := rfl
  rw [h3.non]
  refine ifR (fun v => ∃ p, v = .ref p ∧ SqT K H p (fr (x0.2.getD 0))) 4 (fun c => ?_) (fun c => ?_) ?_
  · have e : x0.2 = none := of_decide_eq_true c
    refine ⟨.ref (He.ga K "ZERO"), ⟨_, rfl, by rw [e]; exact z0 _⟩, fun z => xasg (xc (g4 z))⟩
  · have e : ¬ x0.2 = none := of_decide_eq_false c
    cases e2 : x0.2 with
    | none => exact absurd e2 e
    | some q =>
      rw [e2] at h3
      obtain ⟨p, rfl, hp⟩ := h3
      exact ⟨.ref p, ⟨p, rfl, hp⟩, fun z => z⟩
  rintro _ ⟨plp, rfl, hlp⟩
  dsimp only [List.set_cons_zero, List.set_cons_succ]
  walk_at "gn"
  refine rng2_ ⟨by omega, by omega, by omega, by omega⟩ ?_
  have hn : ((P.length : Int) - 1 - 1).toNat = P.length - 2 := by omega
  rw [hn]
  clear h3 h1 hy0 e0 m0 hq ix1
  refine forR_ (fun i σ H' => ∃ low lp plp o5 o6, σ = [some (.ref t), some (.ref x), some (.int ((P.length : Int) - 1)), some (.int (low : Nat)), some (.ref plp), o5, o6, some (.int y.num), some (.int (y.den : Int))] ∧ H' = H ∧ SqT K H plp (fr lp) ∧ TI P y (i + 1) low lp) ⟨0, _, plp, none, none, rfl, rfl, hlp, TI0⟩ ?_ ?_
  · rintro i σ H1 hi ⟨low, lp, plp, o5, o6, rfl, rfl, hlp, ti⟩
    have e1 : (1 : Int) + (i : Int) = ((i + 1 : Nat) : Int) := by omega
    rw [e1]
    obtain ⟨xi, ei⟩ : ∃ x0, P[i + 1]? = some x0 := ⟨_, List.getElem?_eq_getElem (by omega)⟩
    obtain ⟨yi, hyi⟩ : ∃ y0, pts[i + 1]? = some y0 := ⟨_, List.getElem?_eq_getElem (by omega)⟩
    obtain ⟨pa, yv, yx, pv, rfl, h1, rfl, _, h3⟩ := hP.at_ (i + 1) yi xi hyi ei
    have mi : (P.map (·.2))[i + 1]? = some xi.2 := by rw [List.getElem?_map, ei] <;> rfl
    have ix1 : atI [V.ref pv, yx] 1 = some yx := rfl
    have blp : Bd 250 lp := bl lp (List.mem_of_getElem? ti.hl)
    walk_at "gn"
    refine ixT_ ht (atI_of (ixN_at (by omega)) hyi) ?_
    walk_at "gn"
    rw [h3.non]
    cases e2 : xi.2 with
    | none =>
      rw [e2] at mi
      walk_at "gn"
      exact ⟨low, lp, plp, _, _, rfl, rfl, hlp, ti.miss (by omega) (by omega) mi⟩
    | some q =>
      rw [e2] at h3 mi
      obtain ⟨p, rfl, hp⟩ := h3
      have bq : Bd 250 q := ok.inp q (List.mem_of_getElem? mi)
      have pr : Pr q lp := Pr.bd bq blp (by decide)
      have bm : Bd 250 (mx lp q) := mx_bd blp bq
      have pr2 : Pr y (mx lp q) := Pr.bd by_ bm (by decide)
      refine wDf (by intro z; cases z) ?_
      walk_at "gn"
      rw [lt_num]
      refine ifR (fun v => ∃ p, v = .ref p ∧ SqT K H1 p (fr (mx lp q))) 6 (fun c => ?_) (fun c => ?_) ?_
      · have e : q < lp := of_decide_eq_true c
        refine ⟨.ref plp, ⟨_, rfl, ?_⟩, fun z => xasg (v4 (g6 z))⟩
        rw [show mx lp q = lp from if_neg (by grind)]
        exact hlp
      · have e : ¬ q < lp := of_decide_eq_false c
        refine ⟨.ref p, ⟨_, rfl, ?_⟩, fun z => z⟩
        have em : mx lp q = q := by
          unfold mx
          split
          · rfl
          · grind
        rw [em]
        exact hp
      rintro _ ⟨pm, rfl, hm⟩
      dsimp only [List.set_cons_zero, List.set_cons_succ]
      walk_at "gn"
      rw [lt_num]
      refine wD (fun c => ?_) (fun c => ?_)
      · walk_at "gn"
        rename_i d Hd nd ed td
        exact k d plp pm low (i + 1) lp (mx lp q) Hd ed (ti.ret (by omega) (by omega) mi c) (SqT.tr td) (Same.sqT ed hlp) (Same.sqT ed hm)
      · walk_at "gn"
        exact ⟨i + 1, mx lp q, pm, _, _, rfl, rfl, hm, ti.told (by omega) (by omega) mi c⟩
  · rintro σ H1 ⟨low, lp, plp, o5, o6, rfl, rfl, hlp, ti⟩
    have en : P.length - 2 + 1 = P.length - 1 := by omega
    rw [en] at ti
    have ez : (P.length : Int) - 1 = ((P.length - 1 : Nat) : Int) := by omega
    rw [ez]
    obtain ⟨xi, ei⟩ : ∃ x0, P[P.length - 1]? = some x0 := ⟨_, List.getElem?_eq_getElem (by omega)⟩
    obtain ⟨yi, hyi⟩ : ∃ y0, pts[P.length - 1]? = some y0 := ⟨_, List.getElem?_eq_getElem (by omega)⟩
    obtain ⟨pa, yv, yx, pv, rfl, h1, rfl, _, h3⟩ := hP.at_ _ yi xi hyi ei
    have mi : (P.map (·.2))[P.length - 1]? = some xi.2 := by rw [List.getElem?_map, ei] <;> rfl
    have ix1 : atI [V.ref pv, yx] 1 = some yx := rfl
    have blp : Bd 250 lp := bl lp (List.mem_of_getElem? ti.hl)
    have tl := ti.last (by omega) (by omega) mi
    have bu : Bd 250 (xi.2.getD 1) := by
      cases e2 : xi.2 with
      | none => exact bq1
      | some q => rw [e2] at mi; exact ok.inp q (List.mem_of_getElem? mi)
    walk_at "gn"
    refine ixT_ ht (atI_of (ixN_at (by omega)) hyi) ?_
    walk_at "gn"
    rw [h3.non]
    refine ifR (fun v => ∃ p, v = .ref p ∧ SqT K H1 p (fr (xi.2.getD 1))) 6 (fun c => ?_) (fun c => ?_) ?_
    · have e : xi.2 = none := of_decide_eq_true c
      refine ⟨.ref (He.ga K "ONE"), ⟨_, rfl, by rw [e]; exact z1 _⟩, fun z => xasg (xc (g6 z))⟩
    · have e : ¬ xi.2 = none := of_decide_eq_false c
      cases e2 : xi.2 with
      | none => exact absurd e2 e
      | some q =>
        rw [e2] at h3
        obtain ⟨p, rfl, hp⟩ := h3
        exact ⟨.ref p, ⟨p, rfl, hp⟩, fun z => z⟩
    rintro _ ⟨pu, rfl, hu⟩
    dsimp only [List.set_cons_zero, List.set_cons_succ]
    generalize xi.2.getD 1 = u at *
    have pr : Pr u lp := Pr.bd bu blp (by decide)
    walk_at "gn"
    refine ifR (fun v => ∃ p, v = .ref p ∧ SqT K H1 p (fr (mx lp u))) 6 (fun c => ?_) (fun c => ?_) ?_
    · have e : u < lp := of_decide_eq_true c
      refine ⟨.ref plp, ⟨_, rfl, ?_⟩, fun z => xasg (v4 (g6 z))⟩
      rw [show mx lp u = lp from if_neg (by grind)]
      exact hlp
    · have e : ¬ u < lp := of_decide_eq_false c
      refine ⟨.ref pu, ⟨_, rfl, ?_⟩, fun z => z⟩
      have em : mx lp u = u := by
        unfold mx
        split
        · rfl
        · grind
      rw [em]
      exact hu
    rintro _ ⟨pm, rfl, hm⟩
    dsimp only [List.set_cons_zero, List.set_cons_succ]
    walk_at "gn"
    rename_i d Hd nd ed td
    exact k d plp pm low (P.length - 1) lp (mx lp u) Hd ed tl (SqT.tr td) (Same.sqT ed hlp) (Same.sqT ed hm)

theorem ok__law_part (T : Txt K mg) : Good P w K mg base "_law_part" 3 ["_law_source_here"] (spPart K) := by
  have G__law_next := ok__law_next (P := P) (w := w) (base := base) T
  have G__law_ratio := ok__law_ratio (P := P) (w := w) (base := base) T
  obtain ⟨gM, fd, F⟩ := dk__law_part T
  have z0 : ∀ H, SqT K H (He.ga K "ZERO") (fr 0) := T.zero
  have z1 : ∀ H, SqT K H (He.ga K "ONE") (fr 1) := T.one
  refine ⟨gM, F.kp, fd, F.bindsN (fun _ _ _ _ _ _ us hl => match us, hl with | [_], _ => rfl), F.ok sc__law_part ?_ (fun cdv A outer s H vs Q E hr h => ⟨_, PSs.nox (pss_cons (ps_set (i := 1) sc__law_part.nd rfl (Or.inl rfl) (pe_good G__law_next (hr.mono (by decide)) (pa_cons (pv 0) (pa_cons pe_int pa_nil))))
    (pss_cons (ps_if (pt_cmpR op_eq (pv 1) pe_int (nomark _)) (pss_one (ps_ret (pe_tup (pa_cons pe_int (pa_cons pe_int pa_nil))))) pss_nil)
    (pss_cons (ps_if (pt_cmpR op_lt (pv 1) pe_int (nomark _)) (pss_one (ps_ret (pe_tup (pa_cons (pe_op op_add pe_int (pe_good G__law_next (hr.mono (by decide)) (pa_cons (pv 0) (pa_cons pe_int pa_nil)))) (pa_cons pe_int pa_nil))))) pss_nil)
    (pss_cons (ps_if (pt_cmpR op_eq (pv 1) pe_int (nomark _)) (pss_one (ps_ret (pe_good G__law_ratio (hr.mono (by decide)) (pa_cons (pe_op op_add pe_int (pe_good G__law_next (hr.mono (by decide)) (pa_cons (pv 0) (pa_cons pe_int pa_nil)))) (pa_cons (pe_op op_add pe_int (pe_good G__law_next (hr.mono (by decide)) (pa_cons (pv 0) (pa_cons pe_int pa_nil)))) pa_nil))))) pss_nil)
    (pss_one (ps_ret (pe_good G__law_ratio (hr.mono (by decide)) (pa_cons (pe_op op_add pe_int (pe_good G__law_next (hr.mono (by decide)) (pa_cons (pv 0) (pa_cons (pe_op op_pow pe_int pe_int) pa_nil)))) (pa_cons (pe_op op_add pe_int (pe_good G__law_next (hr.mono (by decide)) (pa_cons (pv 0) (pa_cons pe_int pa_nil)))) pa_nil))))))))), ?_⟩)⟩
  · rintro vs H Q E ⟨_, rfl, _⟩; rfl
  obtain ⟨a, rfl, hs, q⟩ := h
  rw [st__law_part]; try dsimp only [L2.cxOf]
  walk_at "go"
  refine wD (fun c => ?_) (fun c => ?_)
  · walk_at "go"
    exact q _ 0 _ (by walk_at "sq") (Bd.q0.mono (by decide)) Rat.le_refl (by walk_at "src") (by walk_at "frm")
  walk_at "go"
  refine wD (fun c => ?_) (fun c => ?_)
  · walk_at "go"
    rename_i r2 H2 b0 b1 s2 f2 p H3 hp e3 ht
    exact q p ((1 + r2 : Int) : Rat) H3 (SqT.tr ht) (Bd.int (by omega) (by decide)) (Rat.intCast_nonneg.mpr (by omega)) (by walk_at "src") (by walk_at "frm")
  walk_at "go"
  refine wD (fun c => ?_) (fun c => ?_)
  · walk_at "go"
    rename_i r2 H2 b0 b1 s2 f2 r3 H3 c0 c1 s3 f3
    exact ratio_ (by omega) (pow_up (n := 31) (by omega) (by decide)) fun c H' e hc => q c _ H' hc (Bd.div (by omega) (by omega) (by omega)) (Rat.divInt_nonneg (by omega) (by omega)) (by walk_at "src") (by walk_at "frm")
  · walk_at "go"
    refine npow_ (by unfold CPow; decide) ?_
    have e9 : (10 : Int) ^ (9 : Int).toNat = 1000000000 := by decide
    rw [e9]
    walk_at "go"
    rename_i r2 H2 b0 b1 s2 f2 r3 H3 c0 c1 s3 f3
    exact ratio_ (by omega) (pow_up (n := 31) (by omega) (by decide)) fun c H' e hc => q c _ H' hc (Bd.div (by omega) (by omega) (by omega)) (Rat.divInt_nonneg (by omega) (by omega)) (by walk_at "src") (by walk_at "frm")
theorem ok__law_any_part (T : Txt K mg) : Good P w K mg base "_law_any_part" 4 ["_law_source_here"] (spAnyPart K) := by
  have G__law_part := ok__law_part (P := P) (w := w) (base := base) T
  have G__law_next := ok__law_next (P := P) (w := w) (base := base) T
  obtain ⟨gM, fd, F⟩ := dk__law_any_part T
  have z0 : ∀ H, SqT K H (He.ga K "ZERO") (fr 0) := T.zero
  have z1 : ∀ H, SqT K H (He.ga K "ONE") (fr 1) := T.one
  refine ⟨gM, F.kp, fd, F.bindsN (fun _ _ _ _ _ _ us hl => match us, hl with | [_], _ => rfl), F.ok sc__law_any_part ?_ (fun cdv A outer s H vs Q E hr h => ⟨_, PSs.nox (pss_cons (ps_set (i := 1) sc__law_any_part.nd rfl (Or.inl rfl) (pe_good G__law_part (hr.mono (by decide)) (pa_cons (pv 0) pa_nil)))
    (pss_one (ps_ret (pe_ifExp (pt_cmpR op_eq (pe_good G__law_next (hr.mono (by decide)) (pa_cons (pv 0) (pa_cons pe_int pa_nil))) pe_int (nomark _)) (pe_tup (pa_cons (pe_op op_sub pe_int (pe_ix ix_tup (pv 1) pe_int (fun _ _ => rfl))) (pa_cons (pe_ix ix_tup (pv 1) pe_int (fun _ _ => rfl)) pa_nil))) (pv 1))))), ?_⟩)⟩
  · rintro vs H Q E ⟨_, rfl, _⟩; rfl
  obtain ⟨a, rfl, hs, q⟩ := h
  rw [st__law_any_part]; try dsimp only [L2.cxOf]
  walk_at "go"
  rename_i p0 q0 H1 hq hb h0 s1 f1 r H2 r0 r1 s2 f2
  refine wD (fun c => ?_) (fun c => ?_)
  · walk_at "go"
    rename_i p H3 hp e3 ht
    rw [Int.zero_sub] at ht
    exact q p (-q0) H3 (SqT.tr ht) (Bd.neg hb) (by walk_at "src") (by walk_at "frm")
  · walk_at "go"
    exact q _ _ _ (by walk_at "sq") hb (by walk_at "src") (by walk_at "frm")

theorem ok__stretch (T : Txt K mg) : Good P w K mg base "_stretch" 4 ["points", "x"] (spStretch K) := by
  have G__told_stretch := ok__told_stretch (P := P) (w := w) (base := base) T
  have G_even_place := ok_even_place (P := P) (w := w) (base := base) T
  have G_less := ok_less (P := P) (w := w) (base := base) T
  have G_even_step := ok_even_step (P := P) (w := w) (base := base) T
  obtain ⟨gM, fd, F⟩ := dk__stretch T
  have z0 : ∀ H, SqT K H (He.ga K "ZERO") (fr 0) := T.zero
  have z1 : ∀ H, SqT K H (He.ga K "ONE") (fr 1) := T.one
  refine ⟨gM, F.kp, fd, F.bindsN (fun _ _ _ _ _ _ us hl => match us, hl with | [_, _], _ => rfl), F.ok sc__stretch ?_ (fun cdv A outer s H vs Q E hr h => ⟨_, PSs.nox (pss_cons (ps_asg (pe_good G__told_stretch (hr.mono (by decide)) (pa_cons (pv 0) (pa_cons (pv 1) pa_nil))) (pg_tup rfl (pgs_cons (pg_name (i := 4) sc__stretch.nd rfl (Or.inl rfl)) (pgs_cons (pg_name (i := 5) sc__stretch.nd rfl (Or.inl rfl)) (pgs_cons (pg_name (i := 6) sc__stretch.nd rfl (Or.inl rfl)) (pgs_cons (pg_name (i := 7) sc__stretch.nd rfl (Or.inl rfl)) pgs_nil))))))
    (pss_cons (ps_set (i := 2) sc__stretch.nd rfl (Or.inl rfl) (pe_op op_sub (pv 6) (pv 4)))
    (pss_cons (ps_if (pt_cmpR op_eq (pv 2) pe_int (nomark _)) (pss_one (ps_ret (pe_tup (pa_cons (pv 4) (pa_cons (pv 5) (pa_cons (pv 7) pa_nil)))))) pss_nil)
    (pss_cons (ps_if (pt_val (pe_good G_less (hr.mono (by decide)) (pa_cons (pv 1) (pa_cons (pv 5) pa_nil)))) (pss_one (ps_set (i := 8) sc__stretch.nd rfl (Or.inl rfl) pe_int)) (pss_one (ps_if (pt_not (pt_val (pe_good G_less (hr.mono (by decide)) (pa_cons (pv 1) (pa_cons (pv 7) pa_nil))))) (pss_one (ps_set (i := 8) sc__stretch.nd rfl (Or.inl rfl) (pe_op op_sub (pv 2) pe_int))) (pss_one (ps_set (i := 8) sc__stretch.nd rfl (Or.inl rfl) (pe_good G_even_place (hr.mono (by decide)) (pa_cons (pv 5) (pa_cons (pv 7) (pa_cons (pv 2) (pa_cons (pv 1) pa_nil))))))))))
    (pss_cons (ps_set (i := 3) sc__stretch.nd rfl (Or.inl rfl) (pe_good G_even_step (hr.mono (by decide)) (pa_cons (pv 5) (pa_cons (pv 7) (pa_cons (pv 8) (pa_cons (pv 2) pa_nil))))))
    (pss_one (ps_ret (pe_tup (pa_cons (pe_op op_add (pv 4) (pv 8)) (pa_cons (pv 3) (pa_cons (pe_good G_even_step (hr.mono (by decide)) (pa_cons (pv 5) (pa_cons (pv 7) (pa_cons (pe_op op_add (pv 8) pe_int) (pa_cons (pv 2) pa_nil))))) pa_nil))))))))))), ?_⟩)⟩
  · rintro vs H Q E ⟨_, _, _, _, rfl, _⟩; rfl
  obtain ⟨v, x, P, y, rfl, hv, ok, h2, hx, by_, k⟩ := h
  have h200 := ok.len
  rw [st__stretch]; try dsimp only [L2.cxOf]
  walk_at "gn"
  refine ⟨v, x, P, y, rfl, hv, ok, h2, hx, by_, fun d a b low high lp hp H1 e1 ts hd ha hb => ?_⟩
  walk_at "gn"
  have lt := ts.lt
  have le := ts.le
  have ec : (high : Int) - (low : Int) = ((high - low : Nat) : Int) := by omega
  have blp : Bd 250 lp := lifted_bd ok (by decide) lp (List.mem_of_getElem? ts.hl)
  have bhp : Bd 250 hp := lifted_bd ok (by decide) hp (List.mem_of_getElem? ts.hh)
  have hx1 := Same.sqT e1 hx
  have pr1 : Pr y lp := Pr.bd by_ blp (by decide)
  have pr2 : Pr y hp := Pr.bd by_ bhp (by decide)
  have le2 := ts.le'
  rw [ec]
  refine wD (fun c => ?_) (fun c => ?_)
  · have c1 : high - low = 1 := by omega
    walk_at "gn"
    rename_i d2 H2 n2 e2 t2
    have f := ts.find 0 (by omega) (.inl rfl) (.inl (by omega))
    have s0 := ts.ends 0 (by omega)
    have s1 := ts.ends 1 (by omega)
    rw [c1] at s0 s1
    refine k d2 a b low H2 (e1.trans e2) f.symm (SqT.tr t2) ?_ ?_
    · have : (settle (P.map (·.2)))[low]?.getD 0 = lp := by
        have z : ((0 : Nat) : Rat) = 0 := rfl
        rw [Nat.add_zero, z] at s0
        rw [s0]
        grind
      rw [this]
      exact Same.sqT e2 ha
    · have : (settle (P.map (·.2)))[low + 1]?.getD 0 = hp := by
        have z : ((1 : Nat) : Rat) = 1 := rfl
        rw [z] at s1
        rw [s1]
        grind
      rw [this]
      exact Same.sqT e2 hb
  walk_at "gn"
  refine ifW (fun σ' H' => ∃ g : Nat, σ' = [some v, some (.ref x), some (.int ((high - low : Nat) : Int)), none, some (.int (low : Nat)), some (.ref a), some (.int (high : Nat)), some (.ref b), some (.int (g : Nat))] ∧ Same H1 H' ∧ g < high - low ∧
    (g = 0 ∨ ¬ y < lp + (g : Rat) * ((hp - lp) / ((high - low : Nat) : Rat))) ∧ (g + 1 = high - low ∨ y < lp + ((g + 1 : Nat) : Rat) * ((hp - lp) / ((high - low : Nat) : Rat)))) (fun c1 kk => ?_) (fun c1 kk => ?_) ?_
  · have c1 : y < lp := of_decide_eq_true c1
    refine xasg (xc (g8 (kk _ _ ⟨0, rfl, Same.refl _, by omega, .inl rfl, .inr ?_⟩)))
    have n0 : (0 : Rat) < ((high - low : Nat) : Rat) := by exact_mod_cast (by omega : 0 < high - low)
    have p0 : 0 ≤ (hp - lp) / ((high - low : Nat) : Rat) := by
      rw [Rat.div_def]
      exact Rat.mul_nonneg (by grind) (Rat.le_of_lt (Rat.inv_pos.mpr n0))
    have z : ((0 + 1 : Nat) : Rat) = 1 := rfl
    rw [z]
    grind
  · have c1 : ¬ y < lp := of_decide_eq_false c1
    walk_at "gn"
    refine wN (fun c2 => ?_) (fun c2 => ?_)
    · refine xasg (xop (v2 (xc (nsub_ (g8 (kk _ _ ⟨high - low - 1, ?_, Same.refl _, by omega, ?_, .inl (by omega)⟩))))))
      · have : ((high - low : Nat) : Int) - 1 = ((high - low - 1 : Nat) : Int) := by omega
        rw [this] <;> rfl
      · refine .inr ?_
        have c0 : (0 : Rat) < ((high - low : Nat) : Rat) := by exact_mod_cast (by omega : 0 < high - low)
        have e : ((high - low - 1 : Nat) : Rat) = ((high - low : Nat) : Rat) - 1 := by
          have : ((high - low : Nat) : Rat) = ((high - low - 1 : Nat) : Rat) + 1 := by
            have z : ((1 : Nat) : Rat) = 1 := rfl
            rw [← z, ← Rat.natCast_add]
            exact congrArg _ (by omega)
          grind
        have q0 : 0 ≤ (hp - lp) / ((high - low : Nat) : Rat) := by
          rw [Rat.div_def]
          exact Rat.mul_nonneg (by grind) (Rat.le_of_lt (Rat.inv_pos.mpr c0))
        rw [e]
        generalize ((high - low : Nat) : Rat) = C at *
        have : (C - 1) * ((hp - lp) / C) = (hp - lp) - (hp - lp) / C := by grind
        rw [this]
        grind
    · have w0 : lp < hp := by grind
      walk_at "gn"
      refine ⟨a, b, x, lp, hp, y, high - low, rfl, ha, hb, hx1, blp, bhp, by_, w0, by omega, by omega, fun i H2 e2 g1 g2 => ?_⟩
      have d0 : 0 < hp - lp := by grind
      have c0 : (0 : Rat) < ((high - low : Nat) : Rat) := by exact_mod_cast (by omega : 0 < high - low)
      have i0 : 0 ≤ i := by
        have h1 : (0 : Rat) ≤ (y - lp) * ((high - low : Nat) : Rat) := Rat.mul_nonneg (by grind) (Rat.le_of_lt c0)
        have h2 : (0 : Rat) < ((i : Rat) + 1) * (hp - lp) := by grind
        have h3 : (0 : Rat) < (i : Rat) + 1 := by
          refine Rat.lt_of_mul_lt_mul_right (c := hp - lp) ?_ (Rat.le_of_lt d0)
          grind
        have e : (i : Rat) + 1 = ((i + 1 : Int) : Rat) := by rw [Rat.intCast_add] <;> rfl
        rw [e] at h3
        have : (0 : Int) < i + 1 := by exact_mod_cast h3
        omega
      obtain ⟨g, rfl⟩ := Int.eq_ofNat_of_zero_le i0
      have eg : (((g : Nat) : Int) : Rat) = (g : Rat) := rfl
      rw [eg] at g1 g2
      have hg : g < high - low := by
        have h1 : (y - lp) * ((high - low : Nat) : Rat) < (hp - lp) * ((high - low : Nat) : Rat) := Rat.mul_lt_mul_of_pos_right (by grind) c0
        have h2 : (g : Rat) * (hp - lp) < ((high - low : Nat) : Rat) * (hp - lp) := by grind
        have h3 : (g : Rat) < ((high - low : Nat) : Rat) := Rat.lt_of_mul_lt_mul_right h2 (Rat.le_of_lt d0)
        exact_mod_cast h3
      refine g8 (kk _ _ ⟨g, rfl, e2, hg, .inr ?_, .inr ?_⟩)
      · intro z
        have h1 : (y - lp) < (g : Rat) * ((hp - lp) / ((high - low : Nat) : Rat)) := by grind
        have h2 := Rat.mul_lt_mul_of_pos_right h1 c0
        have e : (g : Rat) * ((hp - lp) / ((high - low : Nat) : Rat)) * ((high - low : Nat) : Rat) = (g : Rat) * (hp - lp) := by
          generalize ((high - low : Nat) : Rat) = C at *
          grind
        grind
      · have e1 : ((g + 1 : Nat) : Rat) = (g : Rat) + 1 := by rw [Rat.natCast_add] <;> rfl
        rw [e1]
        have e : ((g : Rat) + 1) * ((hp - lp) / ((high - low : Nat) : Rat)) * ((high - low : Nat) : Rat) = ((g : Rat) + 1) * (hp - lp) := by
          generalize ((high - low : Nat) : Rat) = C at *
          grind
        have h1 : (y - lp) * ((high - low : Nat) : Rat) < ((g : Rat) + 1) * ((hp - lp) / ((high - low : Nat) : Rat)) * ((high - low : Nat) : Rat) := by rw [e]; exact g2
        have h2 := Rat.lt_of_mul_lt_mul_right h1 (Rat.le_of_lt c0)
        grind
  rintro _ H2 ⟨g, rfl, e2, hg, h1, h2'⟩
  have f := ts.find g hg h1 h2'
  have s0 := ts.ends g (by omega)
  have s1 := ts.ends (g + 1) (by omega)
  have ha2 := Same.sqT e2 ha
  have hb2 := Same.sqT e2 hb
  walk_at "gn"
  refine ⟨a, b, lp, hp, g, high - low, rfl, ha2, hb2, blp, bhp, by omega, by omega, by omega, fun d3 H3 e3 h3 => ?_⟩
  walk_at "gn"
  refine ⟨a, b, lp, hp, g + 1, high - low, rfl, Same.sqT e3 ha2, Same.sqT e3 hb2, blp, bhp, by omega, by omega, by omega, fun d4 H4 e4 h4 => ?_⟩
  walk_at "gn"
  rename_i d5 H5 n5 e5 t5
  refine k d5 d3 d4 (low + g) H5 (by walk_at "same") f.symm (SqT.tr t5) ?_ ?_
  · rw [s0]
    walk_at "sq"
  · rw [Nat.add_assoc, s1]
    walk_at "sq"
theorem ok__line_value (T : Txt K mg) : Good P w K mg base "_line_value" 5 ["points", "x"] (spLine K) := by
  have G__stretch := ok__stretch (P := P) (w := w) (base := base) T
  have G_over := ok_over (P := P) (w := w) (base := base) T
  have G_minus := ok_minus (P := P) (w := w) (base := base) T
  have G_plus := ok_plus (P := P) (w := w) (base := base) T
  have G_times := ok_times (P := P) (w := w) (base := base) T
  obtain ⟨gM, fd, F⟩ := dk__line_value T
  have z0 : ∀ H, SqT K H (He.ga K "ZERO") (fr 0) := T.zero
  have z1 : ∀ H, SqT K H (He.ga K "ONE") (fr 1) := T.one
  refine ⟨gM, F.kp, fd, F.bindsN (fun _ _ _ _ _ _ us hl => match us, hl with | [_, _], _ => rfl), F.ok sc__line_value ?_ (fun cdv A outer s H vs Q E hr h => ⟨_, PSs.nox (pss_cons (ps_if (pt_cmpR op_eq (pe_callB cr_len (by rfl) (m_len T) PySem.boot_len (pa_cons (pv 0) pa_nil)) pe_int (nomark _)) (pss_one (ps_ret (pe_ix ix_tup (pe_ix ix_tup (pv 0) pe_int (fun _ _ => rfl)) pe_int (fun _ _ => rfl)))) pss_nil)
    (pss_cons (ps_asg (pe_good G__stretch (hr.mono (by decide)) (pa_cons (pv 0) (pa_cons (pv 1) pa_nil))) (pg_tup rfl (pgs_cons (pg_name (i := 5) sc__line_value.nd rfl (Or.inl rfl)) (pgs_cons (pg_name (i := 6) sc__line_value.nd rfl (Or.inl rfl)) (pgs_cons (pg_name (i := 7) sc__line_value.nd rfl (Or.inl rfl)) pgs_nil)))))
    (pss_cons (ps_set (i := 2) sc__line_value.nd rfl (Or.inl rfl) (pe_ix ix_tup (pe_ix ix_tup (pv 0) (pv 5) (fun _ _ => rfl)) pe_int (fun _ _ => rfl)))
    (pss_cons (ps_set (i := 3) sc__line_value.nd rfl (Or.inl rfl) (pe_ix ix_tup (pe_ix ix_tup (pv 0) (pe_op op_add (pv 5) pe_int) (fun _ _ => rfl)) pe_int (fun _ _ => rfl)))
    (pss_cons (ps_if (pt_cmpR (op_eqD hr.units) (pv 6) (pv 7) (nomark _)) (pss_one (ps_ret (pv 3))) pss_nil)
    (pss_cons (ps_set (i := 4) sc__line_value.nd rfl (Or.inl rfl) (pe_good G_over (hr.mono (by decide)) (pa_cons (pe_good G_minus (hr.mono (by decide)) (pa_cons (pv 1) (pa_cons (pv 6) pa_nil))) (pa_cons (pe_good G_minus (hr.mono (by decide)) (pa_cons (pv 7) (pa_cons (pv 6) pa_nil))) pa_nil))))
    (pss_one (ps_ret (pe_good G_plus (hr.mono (by decide)) (pa_cons (pv 2) (pa_cons (pe_good G_times (hr.mono (by decide)) (pa_cons (pe_good G_minus (hr.mono (by decide)) (pa_cons (pv 3) (pa_cons (pv 2) pa_nil))) (pa_cons (pv 4) pa_nil))) pa_nil))))))))))), ?_⟩)⟩
  · rintro vs H Q E ⟨_, _, _, _, rfl, _⟩; rfl
  obtain ⟨v, x, P, y, rfl, hv, ok, hx, by_, k⟩ := h
  obtain ⟨t, pts, rfl, ht, hP⟩ := It.ptsI hv
  have h200 := ok.len
  have hpos := ok.pos
  have hpl := hP.len
  rw [st__line_value]; try dsimp only [L2.cxOf]
  walk_at "gn"
  rw [hpl]
  refine wD (fun c => ?_) (fun c => ?_)
  · have c1 : P.length = 1 := by omega
    obtain ⟨a, yx, pv, x0, e0, h1, h2, _, _⟩ := hP.val (k := 0) (by omega)
    walk_at "gn"
    refine ixT_ ht (atI_of (ixN_first (by omega)) e0) ?_
    walk_at "gn"
    refine k _ _ (Same.refl _) ?_
    unfold lin
    rw [if_pos c1]
    exact h2
  have c1 : ¬ P.length = 1 := by omega
  walk_at "gn"
  refine ⟨.ref t, x, P, y, rfl, hv, ok, by omega, hx, by_, fun d a b kk H1 e1 ek hd ha hb => ?_⟩
  have hk := lastLe_lt (S := settle (P.map (·.2))) (x := y) (m := P.length - 1) (by omega)
  rw [← ek] at hk
  have el : lin P y = linAt P (settle (P.map (·.2))) y kk := by
    unfold lin
    rw [if_neg c1, ek]
  have ht1 := Same.sqT e1 ht
  have hx1 := Same.sqT e1 hx
  have hP1 := hP.tp (Tp.same e1)
  obtain ⟨a0, yx0, pv0, x0, e0, h10, h20, _, _⟩ := hP1.val (k := kk) (by omega)
  obtain ⟨a1, yx1, pv1, x1, e1', h11, h21, _, _⟩ := hP1.val (k := kk + 1) (by omega)
  have b0 := settleD_bd ok (by decide) kk
  have b1 := settleD_bd ok (by decide) (kk + 1)
  have bv0 := vAt_bd ok (by decide) kk
  have bv1 := vAt_bd ok (by decide) (kk + 1)
  have sle := settleD_le hpos kk (by omega)
  rw [el] at k
  clear hP hv ht hx ek
  unfold linAt at k
  generalize (settle (P.map (·.2)))[kk]?.getD 0 = s0 at *
  generalize (settle (P.map (·.2)))[kk + 1]?.getD 0 = s1 at *
  generalize vAt P kk = u0 at *
  generalize vAt P (kk + 1) = u1 at *
  walk_at "gn"
  refine ixT_ ht1 (atI_of (ixN_at (by omega)) e0) ?_
  walk_at "gn"
  refine ixT_ ht1 (atI_of (ixN_at (j := kk + 1) (by omega)) e1') ?_
  walk_at "gn"
  refine eqD_ ha hb ?_
  walk_at "gn"
  refine wD (fun c => ?_) (fun c => ?_)
  · walk_at "gn"
    rw [if_pos c] at k
    exact k _ _ e1 h21
  rw [if_neg c] at k
  have w0 := lt_of_le_ne sle c
  have pr1 : Pr y s0 := Pr.bd by_ b0 (by decide)
  have pr2 : Pr s1 s0 := Pr.bd b1 b0 (by decide)
  have bA := Bd.sub by_ b0
  have bB := Bd.sub b1 b0
  have pr3 : Pr (y - s0) (s1 - s0) := Pr.bd bA bB (by decide)
  have bC := Bd.quot bA bB w0
  have pr4 : Pr u1 u0 := Pr.bd bv1 bv0 (by decide)
  have bD := Bd.sub bv1 bv0
  have pr5 : Pr (u1 - u0) ((y - s0) / (s1 - s0)) := Pr.bd bD bC (by decide)
  have bE := Bd.mul bD bC
  have pr6 : Pr u0 ((u1 - u0) * ((y - s0) / (s1 - s0))) := Pr.bd bv0 bE (by decide)
  walk_at "gn"
  refine overP_ (by walk_at "sq") (by walk_at "sq") pr3 w0 fun c5 H5 e5 h5 => ?_
  walk_at "gn"
  exact k _ _ (by walk_at "same") (by assumption)

theorem ok__law_curve (T : Txt K mg) : Good P w K mg base "_law_curve" 5 ["_law_source_here"] (spCurve K) := by
  have G__law_next := ok__law_next (P := P) (w := w) (base := base) T
  have G__law_any_part := ok__law_any_part (P := P) (w := w) (base := base) T
  have G__law_ratio := ok__law_ratio (P := P) (w := w) (base := base) T
  have G__law_one := ok__law_one (P := P) (w := w) (base := base) T
  obtain ⟨gM, fd, F⟩ := dk__law_curve T
  have z0 : ∀ H, SqT K H (He.ga K "ZERO") (fr 0) := T.zero
  have z1 : ∀ H, SqT K H (He.ga K "ONE") (fr 1) := T.one
  refine ⟨gM, F.kp, fd, F.bindsN (fun _ _ _ _ _ _ us hl => match us, hl with | [_], _ => rfl), F.ok sc__law_curve ?_ (fun cdv A outer s H vs Q E hr h => ⟨_, PSs.nox (pss_cons (ps_set (i := 1) sc__law_curve.nd rfl (Or.inl rfl) (pe_good G__law_next (hr.mono (by decide)) (pa_cons (pv 0) (pa_cons pe_int pa_nil))))
    (pss_cons (ps_if (pt_cmpR op_lt (pv 1) pe_int (nomark _)) (pss_one (ps_ret (pe_tup (pa_cons pe_str (pa_cons (pe_tup (pa_cons (pe_tup (pa_cons (pe_tup (pa_cons pe_int (pa_cons pe_int pa_nil))) (pa_cons (pe_tup (pa_cons pe_int (pa_cons pe_int pa_nil))) pa_nil))) (pa_cons (pe_tup (pa_cons (pe_tup (pa_cons pe_int (pa_cons pe_int pa_nil))) (pa_cons (pe_tup (pa_cons pe_int (pa_cons pe_int pa_nil))) pa_nil))) pa_nil))) pa_nil))))) pss_nil)
    (pss_cons (ps_if (pt_cmpR op_eq (pv 1) pe_int (nomark _)) (pss_cons (ps_set (i := 2) sc__law_curve.nd rfl (Or.inl rfl) (pe_lst pa_nil))
    (pss_cons (ps_for PassesOwn.never rfl (pi_range1 rfl (m_range T) (pa_cons (pe_op op_add pe_int (pe_good G__law_next (hr.mono (by decide)) (pa_cons (pv 0) (pa_cons pe_int pa_nil)))) pa_nil)) (pg_name (i := 3) sc__law_curve.nd rfl (Or.inl rfl))
      (pss_cons (ps_set (i := 5) sc__law_curve.nd rfl (Or.inl rfl) (pe_ix ix_list (pe_lst (pa_cons pe_non (pa_cons pe_non (pa_cons (pe_good G__law_ratio (hr.mono (by decide)) (pa_cons (pe_good G__law_next (hr.mono (by decide)) (pa_cons (pv 0) (pa_cons pe_int pa_nil))) (pa_cons pe_int pa_nil))) (pa_cons (pe_good G__law_any_part (hr.mono (by decide)) (pa_cons (pv 0) pa_nil)) pa_nil))))) (pe_good G__law_next (hr.mono (by decide)) (pa_cons (pv 0) (pa_cons pe_int pa_nil))) (fun _ _ => rfl)))
    (pss_one (ps_expr (pe_bm PySem.F.plainAttrs_list PySem.F.slot_list_append PySem.F.type_list_append mt_append (pv 2) (pa_cons (pe_tup (pa_cons (pe_good G__law_ratio (hr.mono (by decide)) (pa_cons (pe_op op_sub (pe_good G__law_next (hr.mono (by decide)) (pa_cons (pv 0) (pa_cons pe_int pa_nil))) pe_int) (pa_cons pe_int pa_nil))) (pa_cons (pv 5) pa_nil))) pa_nil))))))
    (pss_one (ps_ret (pe_tup (pa_cons pe_str (pa_cons (pe_callTy cr_tup (by rfl) (m_tuple T) bt_tuple (pa_cons (pv 2) pa_nil)) pa_nil))))))) pss_nil)
    (pss_cons (ps_if (pt_cmpR op_lt (pv 1) pe_int (nomark _)) (pss_cons (ps_set (i := 4) sc__law_curve.nd rfl (Or.inl rfl) (pe_good G__law_one (hr.mono (by decide)) (pa_cons (pv 0) (pa_cons (pe_tup (pa_cons pe_str (pa_cons pe_str (pa_cons pe_str (pa_cons pe_str pa_nil))))) pa_nil))))
    (pss_one (ps_ret (pe_tup (pa_cons pe_str (pa_cons (pe_op op_add (pe_op op_add pe_int (pe_callTy cr_int (by rfl) (m_int T) bt_int (pa_cons (pe_cmpR op_eq (pv 4) pe_str (nomark _)) pa_nil))) (pe_good G__law_next (hr.mono (by decide)) (pa_cons (pv 0) (pa_cons pe_int pa_nil)))) (pa_cons (pv 4) pa_nil))))))) pss_nil)
    (pss_one (ps_ret (pe_tup (pa_cons pe_str (pa_cons (pe_good G__law_ratio (hr.mono (by decide)) (pa_cons (pe_op op_sub (pe_good G__law_next (hr.mono (by decide)) (pa_cons (pv 0) (pa_cons pe_int pa_nil))) pe_int) (pa_cons pe_int pa_nil))) (pa_cons (pe_good G__law_ratio (hr.mono (by decide)) (pa_cons (pe_op op_sub (pe_good G__law_next (hr.mono (by decide)) (pa_cons (pv 0) (pa_cons pe_int pa_nil))) pe_int) (pa_cons pe_int pa_nil))) pa_nil)))))))))), ?_⟩)⟩
  · rintro vs H Q E ⟨_, rfl, _⟩; rfl
  obtain ⟨a, rfl, hs, q⟩ := h
  rw [st__law_curve]; try dsimp only [L2.cxOf]
  walk_at "gn"
  rename_i r0 H1 r00 r01 s1 f1
  refine wD (fun c => ?_) (fun c => ?_)
  · walk_at "gn"
    refine q _ (.lin [(0, some 0), (1, some 1)]) _ (It.linC (by walk_at "sq") (It.tup (by walk_at "sq") (.cons (It.tup (by walk_at "sq") (.cons (It.fr (q := 0) (by walk_at "sq")) (.cons (It.fr (q := 0) (by walk_at "sq")) .nil))) (.cons (It.tup (by walk_at "sq") (.cons (It.fr (q := 1) (by walk_at "sq")) (.cons (It.fr (q := 1) (by walk_at "sq")) .nil))) .nil)))) PtsOk.straight (by walk_at "src") (by walk_at "frm")
  walk_at "gn"
  refine wD (fun c2 => ?_) (fun c2 => ?_)
  · walk_at "gn"
    rename_i L H2 n2 e2 t2 r H3 r2 r3 s3 f3
    refine rng_ (by omega) (by omega) ?_
    have hn : (1 + r).toNat ≤ 5 := by omega
    have hn1 : 0 < (1 + r).toNat := by omega
    generalize (1 + r).toNat = n at hn hn1
    have ne2 : L ≠ a := s1.ne n2
    have t3 : H3 L = some (.lst []) := f3 _ _ ne2 t2
    have fr3 : Frm a H H3 := by walk_at "frm"
    have nL : H L = none := f1.none ne2 n2
    clear e2 f3 t2 f1 s1
    refine forR_ (fun i σ H' => ∃ ys P o3 o5, σ = [some (.ref a), some (.int r0), some (.ref L), o3, none, o5] ∧ Src H' a ∧ Frm a H H' ∧ H' L = some (.lst ys) ∧ PtL K H' ys P ∧ P.length = i ∧ PtsB 31 P) ?_ ?_ ?_
    · exact ⟨[], [], none, none, rfl, s3, fr3, t3, PtL.nil, rfl, PtsB.nil 31⟩
    · rintro i σ H4 hi ⟨ys, P, o3, o5, rfl, s4, f4, t4, hP, lP, bP⟩
      walk_at "gn"
      rename_i r1 H5 a0 a1 s5 f5
      refine ratio_ (by decide) (small9 (by decide)) fun c1 H6 e6 h6 => ?_
      have s6 : Src H6 a := by walk_at "src"
      walk_at "gn"
      rename_i p7 q7 H7 h7 b7 s7 f7 l8 H8 n8 e8 t8 r9 H9 x0 x1 s9 f9
      have bq : Bd 31 (Rat.divInt r1 8) := Bd.div (by decide) (by omega) (by decide)
      have ne8 : l8 ≠ a := s7.ne n8
      have h6' : SqT K H9 c1 (fr (Rat.divInt r1 8)) := by walk_at "sq"
      have h7' : SqT K H9 p7 (fr q7) := by walk_at "sq"
      have t8' : H9 l8 = some (.lst [.non, .non, .ref c1, .ref p7]) := f9 _ _ ne8 t8
      obtain ⟨v, hv, mv⟩ := atI_pick (xs := [V.non, V.non, V.ref c1, V.ref p7]) x0 x1
      have hF : ∃ x : Option Rat, Fo K H9 v x ∧ ∀ q, x = some q → Bd 31 q := mem4' (P := fun v => ∃ x : Option Rat, Fo K H9 v x ∧ ∀ q, x = some q → Bd 31 q) mv ⟨none, rfl, fun q z => by cases z⟩ ⟨none, rfl, fun q z => by cases z⟩ ⟨some _, ⟨_, rfl, h6'⟩, fun q z => by cases z; exact bq⟩ ⟨some _, ⟨_, rfl, h7'⟩, fun q z => by cases z; exact b7⟩
      obtain ⟨x, hx, bx⟩ := hF
      have g9 : Frm a H4 H9 := by walk_at "frm"
      have t9 : H9 L = some (.lst ys) := g9 _ _ ne2 t4
      have hP9 := hP.tp (Tp.frm g9 s4)
      have f49 := f4.trans g9
      refine ixL_ (SqL.tr t8') hv ?_
      clear hv mv h6' h7' t8 e8 f9 f7 e6 f5 h6 h7 t8' t4 hP f4 g9 s4
      walk_at "gn"
      rename_i rA HA aA bA sA fA
      have tA : HA L = some (.lst ys) := fA _ _ ne2 t9
      have hPA := hP9.tp (Tp.frm fA s9)
      have hxA := hx.tp (Tp.frm fA s9)
      have f4A := f49.trans fA
      clear t9 hP9 hx f49 fA
      refine ratio_ (by decide) (small9 (by decide)) fun cB HB eB hB => ?_
      have bB : Bd 31 (Rat.divInt (rA - 2) 8) := Bd.div (by decide) (by omega) (by decide)
      generalize Rat.divInt (rA - 2) 8 = qB at hB bB
      have tB : HB L = some (.lst ys) := eB _ _ tA
      have hPB := hPA.tp (Tp.same eB)
      have hxB := hxA.tp (Tp.same eB)
      have f4B := f4A.trans (Frm.of eB)
      have sB := Same.src eB sA
      clear tA hPA hxA f4A eB sA
      walk_at "gn"
      rename_i pC HC nC eC tC
      have tC' : HC L = some (.lst ys) := eC _ _ tB
      refine app2_ (K := K) tC' (by rw [hPB.len]; omega) fun HD tD fD pD => ?_
      have hy : Pt K HD (.ref pC) (qB, x) := ⟨pC, _, _, cB, rfl, pD _ _ (SqT.tr tC), rfl, pD _ _ (Same.sqT eC hB), (hxB.tp (Tp.same eC)).tp pD⟩
      walk_at "gn"
      exact ⟨_, _, _, _, rfl, Frm.srcO fD ne2 (Same.src eC sB), frmNew (f4B.trans (Frm.of eC)) nL fD, tD, ((hPB.tp (Tp.same eC)).tp pD).snoc hy, by rw [List.length_append, lP] <;> rfl, bP.snoc bB bx⟩
    · rintro σ H4 ⟨ys, P, o3, o5, rfl, s4, f4, t4, hP, lP, bP⟩
      walk_at "gn"
      refine tupL_ (SqL.tr t4) fun l H5 nl e5 tl => ?_
      walk_at "gn"
      rename_i p6 H6 n6 e6 t6
      have hP6 := (hP.tp (Tp.same e5 (K := K))).tp (Tp.same e6)
      exact q p6 (.lin P) H6 (It.linC (SqT.tr t6) (It.pts (Same.sqT e6 (SqT.tr tl)) hP6)) ⟨by omega, by omega, bP.val, bP.inp⟩ (Same.src e6 (Same.src e5 s4)) (f4.trans ((Frm.of e5).trans (Frm.of e6)))
  walk_at "gn"
  refine wD (fun c3 => ?_) (fun c3 => ?_)
  · walk_at "gn"
    rename_i pt H2 n2 e2 t2
    refine one_ (xs := [V.str "start", V.str "end", V.str "none", V.str "both"]) (Same.src e2 s1) (.inr (SqT.tr t2)) (by decide) (by decide) fun v H3 mv s3 f3 => ?_
    obtain ⟨w, rfl⟩ := wh_mem mv
    walk_at "gn"
    rename_i r H4 r2 r3 s4 f4 p5 H5 n5 e5 t5
    rw [wNon] at t5
    refine q p5 (.stp (1 + (if w.isN = true then 1 else 0) + r) w) H5 (It.stpC (SqT.tr t5)) ?_ (by walk_at "src") (by walk_at "frm")
    show NOk _ _
    unfold NOk
    cases w <;> simp [Wh.isN] <;> omega
  walk_at "gn"
  rename_i r2 H2 r20 r21 s2 f2
  refine ratio_ (by decide) (small9 (by decide)) fun c1 H3 e3 h3 => ?_
  have s3 : Src H3 a := Same.src e3 s2
  walk_at "gn"
  rename_i r4 H4 r40 r41 s4 f4
  refine ratio_ (by decide) (small9 (by decide)) fun c2 H5 e5 h5 => ?_
  walk_at "gn"
  rename_i p6 H6 n6 e6 t6
  exact q p6 (.cub (Rat.divInt (r2 - 4) 4) (Rat.divInt (r4 - 4) 4)) H6 (It.cubC (SqT.tr t6) (by walk_at "sq") (by walk_at "sq")) ⟨Bd.div (by decide) (by omega) (by decide), Bd.div (by decide) (by omega) (by decide)⟩ (by walk_at "src") (by walk_at "frm")

theorem ok__cubic_value (T : Txt K mg) : Good P w K mg base "_cubic_value" 3 ["a", "b", "x"] (spCub K) := by
  have G_times := ok_times (P := P) (w := w) (base := base) T
  have G_less := ok_less (P := P) (w := w) (base := base) T
  have G_minus := ok_minus (P := P) (w := w) (base := base) T
  have G_plus := ok_plus (P := P) (w := w) (base := base) T
  obtain ⟨gM, fd, F⟩ := dk__cubic_value T
  have z0 : ∀ H, SqT K H (He.ga K "ZERO") (fr 0) := T.zero
  have z1 : ∀ H, SqT K H (He.ga K "ONE") (fr 1) := T.one
  refine ⟨gM, F.kp, fd, F.bindsN (fun _ _ _ _ _ _ us hl => match us, hl with | [_, _, _], _ => rfl), F.ok sc__cubic_value ?_ (fun cdv A outer s H vs Q E hr h => ⟨_, PSs.nox (pss_cons (ps_if (pt_val (pe_good G_less (hr.mono (by decide)) (pa_cons (pv 2) (pa_cons (pe_glob (v := .ref (He.ga K "ZERO")) rfl T.gZ rfl) pa_nil)))) (pss_one (ps_ret (pe_good G_times (hr.mono (by decide)) (pa_cons (pe_tup (pa_cons pe_int (pa_cons pe_int pa_nil))) (pa_cons (pe_good G_times (hr.mono (by decide)) (pa_cons (pv 0) (pa_cons (pv 2) pa_nil))) pa_nil))))) pss_nil)
    (pss_cons (ps_set (i := 3) sc__cubic_value.nd rfl (Or.inl rfl) (pe_good G_minus (hr.mono (by decide)) (pa_cons (pe_glob (v := .ref (He.ga K "ONE")) rfl T.gO rfl) (pa_cons (pv 2) pa_nil))))
    (pss_cons (ps_if (pt_val (pe_good G_less (hr.mono (by decide)) (pa_cons (pv 2) (pa_cons (pe_glob (v := .ref (He.ga K "ONE")) rfl T.gO rfl) pa_nil)))) (pss_cons (ps_set (i := 4) sc__cubic_value.nd rfl (Or.inl rfl) (pe_good G_times (hr.mono (by decide)) (pa_cons (pe_good G_times (hr.mono (by decide)) (pa_cons (pe_tup (pa_cons pe_int (pa_cons pe_int pa_nil))) (pa_cons (pv 3) pa_nil))) (pa_cons (pe_good G_plus (hr.mono (by decide)) (pa_cons (pe_good G_times (hr.mono (by decide)) (pa_cons (pv 3) (pa_cons (pv 0) pa_nil))) (pa_cons (pe_good G_times (hr.mono (by decide)) (pa_cons (pv 2) (pa_cons (pv 1) pa_nil))) pa_nil))) pa_nil))))
    (pss_one (ps_ret (pe_good G_times (hr.mono (by decide)) (pa_cons (pv 2) (pa_cons (pe_good G_plus (hr.mono (by decide)) (pa_cons (pv 4) (pa_cons (pe_good G_times (hr.mono (by decide)) (pa_cons (pv 2) (pa_cons (pv 2) pa_nil))) pa_nil))) pa_nil)))))) pss_nil)
    (pss_one (ps_ret (pe_good G_minus (hr.mono (by decide)) (pa_cons (pe_glob (v := .ref (He.ga K "ONE")) rfl T.gO rfl) (pa_cons (pe_good G_times (hr.mono (by decide)) (pa_cons (pe_good G_times (hr.mono (by decide)) (pa_cons (pe_tup (pa_cons pe_int (pa_cons pe_int pa_nil))) (pa_cons (pe_good G_minus (hr.mono (by decide)) (pa_cons (pe_glob (v := .ref (He.ga K "ONE")) rfl T.gO rfl) (pa_cons (pv 1) pa_nil))) pa_nil))) (pa_cons (pv 3) pa_nil))) pa_nil)))))))), ?_⟩)⟩
  · rintro vs H Q E ⟨_, _, _, _, _, _, rfl, _⟩; rfl
  obtain ⟨a, b, x, p, q, y, rfl, ha, hb, hx, sa, sb, sx, k⟩ := h
  have sy : Bd 1200 y := sx
  rw [st__cubic_value]; try dsimp only [L2.cxOf]
  walk_at "go"
  refine wD (fun c => ?_) (fun c => ?_)
  · walk_at "go"
    exact k _ _ (by walk_at "same") (by rw [cub_low c]; assumption)
  walk_at "go"
  refine wD (fun c2 => ?_) (fun c2 => ?_)
  · walk_at "go"
    exact k _ _ (by walk_at "same") (by rw [cub_mid c c2]; assumption)
  walk_at "go"
  exact k _ _ (by walk_at "same") (by rw [cub_high c c2]; assumption)
theorem ok__most_steps (T : Txt K mg) : Good P w K mg base "_most_steps" 1 ["count", "where"] (spMost) := by
  obtain ⟨gM, fd, F⟩ := dk__most_steps T
  have z0 : ∀ H, SqT K H (He.ga K "ZERO") (fr 0) := T.zero
  have z1 : ∀ H, SqT K H (He.ga K "ONE") (fr 1) := T.one
  refine ⟨gM, F.kp, fd, F.bindsN (fun _ _ _ _ _ _ us hl => match us, hl with | [_, _], _ => rfl), F.ok sc__most_steps ?_ (fun cdv A outer s H vs Q E hr h => ⟨_, PSs.nox (pss_cons (ps_if (pt_cmpR op_eq (pv 1) pe_str (nomark _)) (pss_one (ps_ret (pe_op op_sub (pv 0) pe_int))) pss_nil)
    (pss_cons (ps_if (pt_cmpR op_eq (pv 1) pe_str (nomark _)) (pss_one (ps_ret (pe_op op_add (pv 0) pe_int))) pss_nil)
    (pss_one (ps_ret (pv 0))))), ?_⟩)⟩
  · rintro vs H Q E ⟨_, _, rfl, _⟩; rfl
  obtain ⟨n, w, rfl, k⟩ := h
  rw [st__most_steps]; try dsimp only [L2.cxOf]
  walk_at "go"
  rw [wNon]
  refine wB (fun c => ?_) (fun c => ?_)
  · walk_at "go"
    rw [most_N c] at k
    exact k
  walk_at "go"
  rw [wBoth]
  refine wB (fun c2 => ?_) (fun c2 => ?_)
  · walk_at "go"
    rw [most_B c c2] at k
    exact k
  walk_at "go"
  rw [most_S c c2] at k
  exact k
theorem ok__step_value (T : Txt K mg) : Good P w K mg base "_step_value" 2 ["count", "where", "x", "before"] (spStep K) := by
  have G__most_steps := ok__most_steps (P := P) (w := w) (base := base) T
  have G_less := ok_less (P := P) (w := w) (base := base) T
  have G_ratio := ok_ratio (P := P) (w := w) (base := base) T
  obtain ⟨gM, fd, F⟩ := dk__step_value T
  have z0 : ∀ H, SqT K H (He.ga K "ZERO") (fr 0) := T.zero
  have z1 : ∀ H, SqT K H (He.ga K "ONE") (fr 1) := T.one
  refine ⟨gM, F.kp, fd, F.bindsN (fun _ _ _ _ _ _ us hl => match us, hl with | [_, _, _, _], _ => rfl), F.ok sc__step_value ?_ (fun cdv A outer s H vs Q E hr h => ⟨_, PSs.nox (pss_cons (ps_set (i := 4) sc__step_value.nd rfl (Or.inl rfl) (pe_op op_mulW (pe_ix ix_tup (pv 2) pe_int (fun _ _ => rfl)) (pv 0)))
    (pss_cons (ps_set (i := 5) sc__step_value.nd rfl (Or.inl rfl) (pe_op op_fdivW (pv 4) (pe_ix ix_tup (pv 2) pe_int (fun _ _ => rfl))))
    (pss_cons (ps_if (pt_cmpR op_in_seq (pv 1) (pe_tup (pa_cons pe_str (pa_cons pe_str pa_nil))) rfl) (pss_one (ps_aug (i := 5) sc__step_value.nd rfl (Or.inl rfl) pe_int ip_add)) pss_nil)
    (pss_cons (ps_if (PW.pt (pw_and (pt_val (pv 3)) (pw_and1 (pt_cmpR op_eq (pe_op op_mod (pv 4) (pe_ix ix_tup (pv 2) pe_int (fun _ _ => rfl))) pe_int (nomark _))))) (pss_one (ps_aug (i := 5) sc__step_value.nd rfl (Or.inl rfl) pe_int ip_sub)) pss_nil)
    (pss_cons (ps_if (PW.pt (pw_and (pt_cmpR op_lt (pv 5) pe_int (nomark _)) (pw_and1 (pt_cmpR op_ge (pe_ix ix_tup (pv 2) pe_int (fun _ _ => rfl)) pe_int (nomark _))))) (pss_one (ps_set (i := 5) sc__step_value.nd rfl (Or.inl rfl) pe_int)) pss_nil)
    (pss_cons (ps_set (i := 6) sc__step_value.nd rfl (Or.inl rfl) (pe_good G__most_steps (hr.mono (by decide)) (pa_cons (pv 0) (pa_cons (pv 1) pa_nil))))
    (pss_cons (ps_if (PW.pt (pw_and (pt_cmpR op_gt (pv 5) (pv 6) (nomark _)) (pw_and1 (pt_not (pt_val (pe_good G_less (hr.mono (by decide)) (pa_cons (pe_glob (v := .ref (He.ga K "ONE")) rfl T.gO rfl) (pa_cons (pv 2) pa_nil)))))))) (pss_one (ps_set (i := 5) sc__step_value.nd rfl (Or.inl rfl) (pv 6))) pss_nil)
    (pss_one (ps_ret (pe_good G_ratio (hr.mono (by decide)) (pa_cons (pv 5) (pa_cons (pv 6) pa_nil)))))))))))), ?_⟩)⟩
  · rintro vs H Q E ⟨_, _, _, _, _, rfl, _⟩; rfl
  obtain ⟨n, w, x, e, q, rfl, hn, hx, bq, k⟩ := h
  have hd := den_pos' q
  have cm := hn.mul bq
  rw [st__step_value]; try dsimp only [L2.cxOf]
  walk_at "gn"
  refine ndiv_ (den_div _ bq) ?_
  walk_at "gn"
  refine wh_in w (by walk_at "sq") ?_
  walk_at "gn"
  rename_i p1 H1 n1 e1 t1
  have hx1 := Same.sqT e1 hx
  refine ifj (i := 5) (a := q.num * n / (q.den : Int) + 1) (b := q.num * n / (q.den : Int)) (fun z => ⟨_, rfl, _, _, rfl, rfl, z⟩) (fun z => z) ?_
  have h0 : (if w.up = true then q.num * n / (q.den : Int) + 1 else q.num * n / (q.den : Int)) = q.num * n / (q.den : Int) + (if w.up then 1 else 0) := by cases w.up <;> simp
  rw [h0]
  generalize hs0 : q.num * n / (q.den : Int) + (if w.up then 1 else 0 : Int) = s0
  dsimp only [List.set_cons_zero, List.set_cons_succ]
  walk_at "gn"
  refine andj (c1 := e) (c2 := decide (q.num * n % (q.den : Int) = 0)) (fun P z => by walk_at "gn"; exact z) (fun P z => by walk_at "gn"; refine nmod_ hd ?_; walk_at "gn"; exact z) ?_
  refine ifj (i := 5) (a := s0 - 1) (b := s0) (fun z => ⟨_, rfl, _, _, rfl, rfl, z⟩) (fun z => z) ?_
  generalize hs1 : (if (e && decide (q.num * n % (q.den : Int) = 0)) = true then s0 - 1 else s0) = s1
  dsimp only [List.set_cons_zero, List.set_cons_succ]
  walk_at "gn"
  refine andj (c1 := decide (s1 < 0)) (c2 := decide (0 ≤ q.num)) (fun P z => by walk_at "gn"; exact z) (fun P z => by walk_at "gn"; exact z) ?_
  refine ifj (i := 5) (a := 0) (b := s1) (fun z => z) (fun z => z) ?_
  have h2 : (if (decide (s1 < 0) && decide (0 ≤ q.num)) = true then 0 else s1) = if s1 < 0 ∧ 0 ≤ q.num then 0 else s1 := by simp only [Bool.and_eq_true, decide_eq_true_eq]
  rw [h2]
  generalize hs2 : (if s1 < 0 ∧ 0 ≤ q.num then 0 else s1) = s2
  dsimp only [List.set_cons_zero, List.set_cons_succ]
  walk_at "gn"
  refine ⟨n, w, rfl, ?_⟩
  walk_at "gn"
  have hle : (!decide (1 < q)) = decide (q.num ≤ (q.den : Int)) := by
    rw [← num_gt1, Bool.not_eq_eq_eq_not, ← decide_not]
    exact decide_eq_decide.mpr (by omega)
  have sq1 : Sm q := Sm.of bq (by decide)
  refine andj (c1 := decide (w.most n < s2)) (c2 := decide (q.num ≤ (q.den : Int))) (fun P z => by walk_at "gn"; exact z) (fun P z => by walk_at "gn"; rw [hle]; exact z) ?_
  refine ifj (i := 5) (a := w.most n) (b := s2) (fun z => ⟨_, rfl, z⟩) (fun z => z) ?_
  have h3 : (if (decide (w.most n < s2) && decide (q.num ≤ (q.den : Int))) = true then w.most n else s2) = if w.most n < s2 ∧ q.num ≤ (q.den : Int) then w.most n else s2 := by simp only [Bool.and_eq_true, decide_eq_true_eq]
  rw [h3, ← stp_eq n w q e s0 hs0.symm s1 hs1.symm s2 hs2.symm]
  dsimp only [List.set_cons_zero, List.set_cons_succ]
  walk_at "gn"
  exact ratio_ hn.most.1 (small9 (by have := hn.most; omega)) fun c H' e' hc => k c H' (e1.trans e') hc

theorem ok__law_timing (T : Txt K mg) : Good P w K mg base "_law_timing" 6 ["_law_source_here"] (spTiming K) := by
  have G__law_any_part := ok__law_any_part (P := P) (w := w) (base := base) T
  have G__law_next := ok__law_next (P := P) (w := w) (base := base) T
  have G__law_one := ok__law_one (P := P) (w := w) (base := base) T
  have G__law_ratio := ok__law_ratio (P := P) (w := w) (base := base) T
  have G__law_part := ok__law_part (P := P) (w := w) (base := base) T
  have G__law_curve := ok__law_curve (P := P) (w := w) (base := base) T
  obtain ⟨gM, fd, F⟩ := dk__law_timing T
  have z0 : ∀ H, SqT K H (He.ga K "ZERO") (fr 0) := T.zero
  have z1 : ∀ H, SqT K H (He.ga K "ONE") (fr 1) := T.one
  refine ⟨gM, F.kp, fd, F.bindsN (fun _ _ _ _ _ _ us hl => match us, hl with | [_], _ => rfl), F.ok sc__law_timing ?_ (fun cdv A outer s H vs Q E hr h => ⟨_, PSs.nox (pss_cons (ps_set (i := 1) sc__law_timing.nd rfl (Or.inl rfl) (pe_ix ix_list (pe_lst (pa_cons (pe_tup (pa_cons pe_int (pa_cons pe_int pa_nil))) (pa_cons (pe_tup (pa_cons pe_int (pa_cons pe_int pa_nil))) (pa_cons (pe_good G__law_any_part (hr.mono (by decide)) (pa_cons (pv 0) pa_nil)) pa_nil)))) (pe_good G__law_next (hr.mono (by decide)) (pa_cons (pv 0) (pa_cons pe_int pa_nil))) (fun _ _ => rfl)))
    (pss_cons (ps_set (i := 2) sc__law_timing.nd rfl (Or.inl rfl) (pe_ix ix_list (pe_lst (pa_cons (pe_tup (pa_cons pe_int (pa_cons pe_int pa_nil))) (pa_cons (pe_tup (pa_cons pe_int (pa_cons pe_int pa_nil))) (pa_cons (pe_good G__law_any_part (hr.mono (by decide)) (pa_cons (pv 0) pa_nil)) pa_nil)))) (pe_good G__law_next (hr.mono (by decide)) (pa_cons (pv 0) (pa_cons pe_int pa_nil))) (fun _ _ => rfl)))
    (pss_cons (ps_set (i := 3) sc__law_timing.nd rfl (Or.inl rfl) (pe_good G__law_one (hr.mono (by decide)) (pa_cons (pv 0) (pa_cons (pe_tup (pa_cons pe_str (pa_cons pe_str (pa_cons pe_str (pa_cons pe_str pa_nil))))) pa_nil))))
    (pss_cons (ps_set (i := 4) sc__law_timing.nd rfl (Or.inl rfl) (pe_ix ix_list (pe_lst (pa_cons (pe_tup (pa_cons pe_int (pa_cons pe_int pa_nil))) (pa_cons (pe_tup (pa_cons pe_int (pa_cons pe_int pa_nil))) (pa_cons (pe_good G__law_ratio (hr.mono (by decide)) (pa_cons (pe_good G__law_next (hr.mono (by decide)) (pa_cons (pv 0) (pa_cons pe_int pa_nil))) (pa_cons pe_int pa_nil))) pa_nil)))) (pe_good G__law_next (hr.mono (by decide)) (pa_cons (pv 0) (pa_cons pe_int pa_nil))) (fun _ _ => rfl)))
    (pss_cons (ps_set (i := 5) sc__law_timing.nd rfl (Or.inl rfl) (pe_ix ix_list (pe_lst (pa_cons (pe_tup (pa_cons pe_int (pa_cons pe_int pa_nil))) (pa_cons (pe_tup (pa_cons pe_int (pa_cons pe_int pa_nil))) (pa_cons (pe_tup (pa_cons pe_int (pa_cons pe_int pa_nil))) (pa_cons (pe_tup (pa_cons pe_int (pa_cons pe_int pa_nil))) (pa_cons (pe_good G__law_ratio (hr.mono (by decide)) (pa_cons (pe_good G__law_next (hr.mono (by decide)) (pa_cons (pv 0) (pa_cons pe_int pa_nil))) (pa_cons pe_int pa_nil))) (pa_cons pe_str pa_nil))))))) (pe_good G__law_next (hr.mono (by decide)) (pa_cons (pv 0) (pa_cons pe_int pa_nil))) (fun _ _ => rfl)))
    (pss_cons (ps_set (i := 6) sc__law_timing.nd rfl (Or.inl rfl) (pe_lst (pa_cons pe_non (pa_cons (pe_tup (pa_cons pe_int (pa_cons pe_int pa_nil))) (pa_cons pe_str (pa_cons (pe_tup (pa_cons pe_int (pa_cons pe_int pa_nil))) (pa_cons (pe_tup (pa_cons pe_int (pa_cons pe_int pa_nil))) (pa_cons (pe_tup (pa_cons pe_int (pa_cons pe_int pa_nil))) (pa_cons (pe_good G__law_part (hr.mono (by decide)) (pa_cons (pv 0) pa_nil)) (pa_cons (pe_tup (pa_cons pe_int (pa_cons pe_int pa_nil))) pa_nil))))))))))
    (pss_cons (ps_set (i := 7) sc__law_timing.nd rfl (Or.inl rfl) (pe_good G__law_one (hr.mono (by decide)) (pa_cons (pv 0) (pa_cons (pv 6) pa_nil))))
    (pss_cons (ps_set (i := 8) sc__law_timing.nd rfl (Or.inl rfl) (pe_good G__law_one (hr.mono (by decide)) (pa_cons (pv 0) (pa_cons (pe_tup (pa_cons pe_str (pa_cons pe_str (pa_cons pe_str (pa_cons pe_str (pa_cons pe_str pa_nil)))))) pa_nil))))
    (pss_one (ps_ret (pe_tup (pa_cons (pv 1) (pa_cons (pv 2) (pa_cons (pv 3) (pa_cons (pv 4) (pa_cons (pv 5) (pa_cons (pv 7) (pa_cons (pv 8) (pa_cons (pe_good G__law_curve (hr.mono (by decide)) (pa_cons (pv 0) pa_nil)) pa_nil))))))))))))))))))), ?_⟩)⟩
  · rintro vs H Q E ⟨_, rfl, _⟩; rfl
  obtain ⟨a, rfl, hs, q⟩ := h
  rw [st__law_timing]; try dsimp only [L2.cxOf]
  walk_at "gn"
  rename_i p1 H1 n1 e1 t1 p2 H2 n2 e2 t2 pa qa H3 hqa bqa s3 f3 L H4 n4 e4 t4 r H5 r0 r1 s5 f5
  obtain ⟨v, hv, mv⟩ := atI_pick (xs := [V.ref p1, V.ref p2, V.ref pa]) r0 r1
  have ne4 : L ≠ a := s3.ne n4
  have t5 : H5 L = some (.lst [V.ref p1, V.ref p2, V.ref pa]) := f5 _ _ ne4 t4
  have hF : Fr K 31 v H5 := mem3' (P := fun v => Fr K 31 v H5) mv (Fr.of (q := 0) (by walk_at "sq") (Bd.q0.mono (by decide))) (Fr.of (q := 0) (by walk_at "sq") (Bd.q0.mono (by decide))) (Fr.of (q := qa) (by walk_at "sq") bqa)
  have F1 : Frm a H H5 := by walk_at "frm"
  obtain ⟨pd, dl, rfl, hd, bd⟩ := hF
  refine ixL_ (SqL.tr t5) hv ?_
  clear mv hv t5 n1 e1 t1 n2 e2 t2 hqa bqa f3 n4 e4 t4 f5 r0 r1 ne4
  walk_at "gn"
  rename_i p1 H1 n1 e1 t1 p2 H2 n2 e2 t2 pa qa H3 hqa bqa s3 f3 L H4 n4 e4 t4 r H6 r0 r1 s6 f5
  obtain ⟨v, hv, mv⟩ := atI_pick (xs := [V.ref p1, V.ref p2, V.ref pa]) r0 r1
  have ne4 : L ≠ a := s3.ne n4
  have t5 : H6 L = some (.lst [V.ref p1, V.ref p2, V.ref pa]) := f5 _ _ ne4 t4
  have hF : Fr K 31 v H6 := mem3' (P := fun v => Fr K 31 v H6) mv (Fr.of (q := 0) (by walk_at "sq") (Bd.q0.mono (by decide))) (Fr.of (q := 0) (by walk_at "sq") (Bd.q0.mono (by decide))) (Fr.of (q := qa) (by walk_at "sq") bqa)
  have F2 : Frm a H5 H6 := by walk_at "frm"
  obtain ⟨pb, bh, rfl, hb, bb⟩ := hF
  have hd6 := Frm.sqT F2 s5 hd
  refine ixL_ (SqL.tr t5) hv ?_
  clear mv hv t5 n1 e1 t1 n2 e2 t2 hqa bqa f3 n4 e4 t4 f5 r0 r1 ne4 hd
  have F26 := F1.trans F2
  clear F1 F2
  walk_at "gn"
  rename_i pw H7 n7 e7 t7
  refine one_ (xs := [V.str "none", V.str "forwards", V.str "backwards", V.str "both"]) (Same.src e7 s6) (.inr (SqT.tr t7)) (by decide) (by decide) fun v H8 mv s8 f8 => ?_
  obtain ⟨fi, rfl⟩ := fi_mem mv
  have hd8 : SqT K H8 pd (fr dl) := by walk_at "sq"
  have hb8 : SqT K H8 pb (fr bh) := by walk_at "sq"
  have F8 : Frm a H H8 := (F26.trans (Frm.of e7)).trans f8
  clear mv n7 e7 t7 f8 hd6 hb F26
  walk_at "gn"
  rename_i p1 H1 n1 e1 t1 p2 H2 n2 e2 t2 rr H3 x0 x1 s3 f3
  refine ratio_ (by decide) (small9 (by decide)) fun c4 H4 e4 h4 => ?_
  walk_at "gn"
  rename_i L H9 n9 e9 t9 r HA r0 r1 sA fA
  obtain ⟨v, hv, mv⟩ := atI_pick (xs := [V.ref p1, V.ref p2, V.ref c4]) r0 r1
  have s4 : Src H4 a := Same.src e4 s3
  have ne9 : L ≠ a := s4.ne n9
  have t9' : HA L = some (.lst [V.ref p1, V.ref p2, V.ref c4]) := fA _ _ ne9 t9
  have hF : ∃ pf qf, v = .ref pf ∧ SqT K HA pf (fr qf) ∧ 0 ≤ qf ∧ Bd 31 qf := mem3' (P := fun v => ∃ pf qf, v = .ref pf ∧ SqT K HA pf (fr qf) ∧ 0 ≤ qf ∧ Bd 31 qf) mv ⟨p1, 0, rfl, by walk_at "sq", Rat.le_refl, Bd.q0.mono (by decide)⟩ ⟨p2, 0, rfl, by walk_at "sq", Rat.le_refl, Bd.q0.mono (by decide)⟩ ⟨c4, Rat.divInt rr 4, rfl, by walk_at "sq", Rat.divInt_nonneg (by omega) (by omega), Bd.div (by decide) (by omega) (by decide)⟩
  have F8A : Frm a H8 HA := by walk_at "frm"
  obtain ⟨pf, qf, rfl, hf, hf0, bf⟩ := hF
  have hdA := Frm.sqT F8A s8 hd8
  have hbA := Frm.sqT F8A s8 hb8
  have FA := F8.trans F8A
  refine ixL_ (SqL.tr t9') hv ?_
  clear mv hv t9' n1 e1 t1 n2 e2 t2 x0 x1 f3 e4 h4 n9 e9 t9 r0 r1 fA ne9 F8A F8 hd8 hb8
  walk_at "gn"
  rename_i p1 H1 n1 e1 t1 p2 H2 n2 e2 t2 p3 H3 n3 e3 t3 p4 H4 n4 e4 t4 rr H5 x0 x1 s5 f5
  refine ratio_ (by decide) (small9 (by decide)) fun c6 H6 e6 h6 => ?_
  walk_at "gn"
  rename_i L H9 n9 e9 t9 r HB r0 r1 sB fB
  obtain ⟨v, hv, mv⟩ := atI_pick (xs := [V.ref p1, V.ref p2, V.ref p3, V.ref p4, V.ref c6, V.str "endless"]) r0 r1
  have s6 : Src H6 a := Same.src e6 s5
  have ne9 : L ≠ a := s6.ne n9
  have t9' : HB L = some (.lst [V.ref p1, V.ref p2, V.ref p3, V.ref p4, V.ref c6, V.str "endless"]) := fB _ _ ne9 t9
  have b1 : Bd 31 (1 : Rat) := Bd.q1.mono (by decide)
  have hT : DuN K 31 v HB := mem6' (P := fun v => DuN K 31 v HB) mv (DuN.fr (q := 1) (by walk_at "sq") (by decide) b1) (DuN.fr (q := 1) (by walk_at "sq") (by decide) b1) (DuN.fr (q := 3) (by walk_at "sq") (by decide) (Bd.q3.mono (by decide))) (DuN.fr (q := 0) (by walk_at "sq") (by decide) (Bd.q0.mono (by decide))) (DuN.fr (q := Rat.divInt rr 4) (by walk_at "sq") (Rat.divInt_nonneg (by omega) (by omega)) (Bd.div (by decide) (by omega) (by decide))) DuN.en
  have FAB : Frm a HA HB := by walk_at "frm"
  have hdB := Frm.sqT FAB sA hdA
  have hbB := Frm.sqT FAB sA hbA
  have hfB := Frm.sqT FAB sA hf
  have FB := FA.trans FAB
  refine ixL_ (SqL.tr t9') hv ?_
  clear mv hv t9' n1 e1 t1 n2 e2 t2 n3 e3 t3 n4 e4 t4 x0 x1 f5 e6 h6 n9 e9 t9 r0 r1 fB ne9 FAB FA hdA hbA hf b1
  walk_at "gn"
  rename_i p1 H1 n1 e1 t1 p3 H3 n3 e3 t3 p4 H4 n4 e4 t4 p5 H5 n5 e5 t5 pa qa H6 hqa bqa h0a s6 f6 p7 H7 n7 e7 t7 L H8 n8 e8 t8
  have s7 : Src H7 a := Same.src e7 s6
  have s8 : Src H8 a := Same.src e8 s7
  have ne8 : L ≠ a := s7.ne n8
  refine one_ (xs := [V.non, V.ref p1, V.str "endless", V.ref p3, V.ref p4, V.ref p5, V.ref pa, V.ref p7]) s8 (.inl ⟨SqL.tr t8, ne8⟩) (by simp) (by simp) fun vl HC mv sC fC => ?_
  have b10 : Bd 31 (10 : Rat) := by unfold Bd; decide +kernel
  have b4 : Bd 31 (4 : Rat) := by unfold Bd; decide +kernel
  have hL : LoN K 31 vl HC := mem8' (P := fun v => LoN K 31 v HC) mv LoN.non (LoN.du (DuN.fr (q := 0) (by walk_at "sq") (by decide) (Bd.q0.mono (by decide)))) (LoN.du DuN.en) (LoN.du (DuN.fr (q := 10) (SqT.lit fr_10 (by walk_at "sq")) (by decide +kernel) b10)) (LoN.du (DuN.fr (q := 4) (SqT.lit fr_4 (by walk_at "sq")) (by decide +kernel) b4)) (LoN.du (DuN.fr (q := 10) (SqT.lit fr_10 (by walk_at "sq")) (by decide +kernel) b10)) (LoN.du (DuN.fr (q := qa) (by walk_at "sq") h0a bqa)) (LoN.du (DuN.fr (q := 1) (by walk_at "sq") (by decide) (Bd.q1.mono (by decide))))
  have FBC : Frm a HB HC := by walk_at "frm"
  have hdC := Frm.sqT FBC sB hdB
  have hbC := Frm.sqT FBC sB hbB
  have hfC := Frm.sqT FBC sB hfB
  have hTC := hT.tp (Tp.frm FBC sB)
  have FC' := FB.trans FBC
  clear mv n1 e1 t1 n3 e3 t3 n4 e4 t4 n5 e5 t5 hqa f6 n7 e7 t7 n8 e8 t8 ne8 fC FBC FB hdB hbB hfB hT s7 s8
  walk_at "gn"
  rename_i pw H9 n9 e9 t9
  refine one_ (xs := [V.str "normal", V.str "normal", V.str "reverse", V.str "alternate", V.str "alternate reverse"]) (Same.src e9 sC) (.inr (SqT.tr t9)) (by decide) (by decide) fun vw HD mv sD fD => ?_
  obtain ⟨wy, rfl⟩ := wy_mem mv
  have FCD : Frm a HC HD := (Frm.of e9).trans fD
  have hdD := Frm.sqT FCD sC hdC
  have hbD := Frm.sqT FCD sC hbC
  have hfD := Frm.sqT FCD sC hfC
  have hTD := hTC.tp (Tp.frm FCD sC)
  have hLD := hL.tp (Tp.frm FCD sC)
  have FD := FC'.trans FCD
  clear mv n9 e9 t9 fD FCD FC' hdC hbC hfC hTC hL
  walk_at "gn"
  refine ⟨a, rfl, sD, fun pc c HE hc okc sE fE => ?_⟩
  have hdE := Frm.sqT fE sD hdD
  have hbE := Frm.sqT fE sD hbD
  have hfE := Frm.sqT fE sD hfD
  obtain ⟨tmv, hTE, nT, bT⟩ := hTD.tp (Tp.frm fE sD)
  obtain ⟨lov, hLE, nL, bL⟩ := hLD.tp (Tp.frm fE sD)
  have FE := FD.trans fE
  clear hdD hbD hfD hTD hLD FD fE
  walk_at "gn"
  rename_i pz HF nF eF tF
  exact q pz ⟨dl, bh, fi, qf, tmv, lov, wy, c⟩ HF (It.tmC (SqT.tr tF) (Same.sqT eF hdE) (Same.sqT eF hbE) (Same.sqT eF hfE) (hTE.same eF) (hLE.same eF) (hc.same eF)) ⟨bd, bb, hf0, bf, nT, bT, nL, bL, okc⟩ (Same.src eF sE) (FE.trans (Frm.of eF))

theorem ok_curve_value (T : Txt K mg) : Good P w K mg base "curve_value" 6 ["curve", "x", "before"] (spCval K) := by
  have G__line_value := ok__line_value (P := P) (w := w) (base := base) T
  have G__cubic_value := ok__cubic_value (P := P) (w := w) (base := base) T
  have G__step_value := ok__step_value (P := P) (w := w) (base := base) T
  obtain ⟨gM, fd, F⟩ := dk_curve_value T
  have z0 : ∀ H, SqT K H (He.ga K "ZERO") (fr 0) := T.zero
  have z1 : ∀ H, SqT K H (He.ga K "ONE") (fr 1) := T.one
  refine ⟨gM, F.kp, fd, F.bindsN (fun _ _ _ _ _ _ us hl => match us, hl with | [_, _, _], _ => rfl), F.ok sc_curve_value ?_ (fun cdv A outer s H vs Q E hr h => ⟨_, PSs.nox (pss_cons (ps_if (pt_cmpR op_eq (pe_ix ix_tup (pv 0) pe_int (fun _ _ => rfl)) pe_str (nomark _)) (pss_one (ps_ret (pe_good G__line_value (hr.mono (by decide)) (pa_cons (pe_ix ix_tup (pv 0) pe_int (fun _ _ => rfl)) (pa_cons (pv 1) pa_nil))))) pss_nil)
    (pss_cons (ps_if (pt_cmpR op_eq (pe_ix ix_tup (pv 0) pe_int (fun _ _ => rfl)) pe_str (nomark _)) (pss_one (ps_ret (pe_good G__cubic_value (hr.mono (by decide)) (pa_cons (pe_ix ix_tup (pv 0) pe_int (fun _ _ => rfl)) (pa_cons (pe_ix ix_tup (pv 0) pe_int (fun _ _ => rfl)) (pa_cons (pv 1) pa_nil)))))) pss_nil)
    (pss_one (ps_ret (pe_good G__step_value (hr.mono (by decide)) (pa_cons (pe_ix ix_tup (pv 0) pe_int (fun _ _ => rfl)) (pa_cons (pe_ix ix_tup (pv 0) pe_int (fun _ _ => rfl)) (pa_cons (pv 1) (pa_cons (pv 2) pa_nil))))))))), ?_⟩)⟩
  · rintro vs H Q E ⟨_, _, _, _, _, rfl, _⟩; rfl
  obtain ⟨v, x, e, c, y, rfl, hv, ok, hx, by_, k⟩ := h
  cases c with
  | lin P =>
    obtain ⟨p, t, rfl, hp, ht⟩ := It.linI hv
    rw [st_curve_value]; try dsimp only [L2.cxOf]
    walk_at "go"
    exact ⟨.ref t, x, P, y, rfl, ht, ok, hx, by_, k⟩
  | cub a b =>
    obtain ⟨p, pa, pb, rfl, hp, ha, hb⟩ := It.cubI hv
    rw [st_curve_value]; try dsimp only [L2.cxOf]
    walk_at "go"
    exact ⟨pa, pb, x, a, b, y, rfl, ha, hb, hx, ok.1, ok.2, by_, k⟩
  | stp n w =>
    obtain ⟨p, rfl, hp⟩ := It.stpI hv
    rw [st_curve_value]; try dsimp only [L2.cxOf]
    walk_at "go"
    exact ⟨n, w, x, e, y, rfl, ok, hx, by_, k⟩

local macro_rules | `(tactic| walk_at "it") => `(tactic| first
  | assumption
  | exact It.duS
  | (with_reducible apply It.du0; walk_at "sq")
  | (with_reducible apply It.fr; walk_at "sq")
  | (with_reducible apply It.same; assumption; walk_at "it"))
local macro_rules | `(tactic| walk_at "lk") => `(tactic| first
  | assumption
  | exact lk_same
  | (apply lk_ne; decide +kernel; walk_at "lk"))
theorem ok_Spans_init (T : Txt K mg) : GoodMk P w K mg base "Spans" 4 ["self", "timing", "length"] (spSpansInit K) := by
  have G_repeated := ok_repeated (P := P) (w := w) (base := base) T
  have G_joined := ok_joined (P := P) (w := w) (base := base) T
  have G_greater := ok_greater (P := P) (w := w) (base := base) T
  have G_lesser := ok_lesser (P := P) (w := w) (base := base) T
  have z0 : ∀ H, SqT K H (He.ga K "ZERO") (fr 0) := T.zero
  have z1 : ∀ H, SqT K H (He.ga K "ONE") (fr 1) := T.one
  obtain ⟨fd, F⟩ := T.iSpans
  refine ⟨T.gSpans, T.mSpans, fd, F.bindsN (fun _ _ _ _ _ _ us hl => match us, hl with | [_, _, _], _ => rfl), F.ok sc_Spans_init ?_ (fun cdv A outer s H vs Q E hr h => ⟨_, PSs.nox (pss_cons (ps_set (i := 3) sc_Spans_init.nd rfl (Or.inl rfl) (pe_ix ix_tup (pv 1) pe_int (fun _ _ => rfl)))
    (pss_cons (ps_fld (pv 0) (pv 2) rfl)
    (pss_cons (ps_fld (pv 0) (pe_good G_repeated (hr.mono (by decide)) (pa_cons (pv 2) (pa_cons (pe_ix ix_tup (pv 1) pe_int (fun _ _ => rfl)) pa_nil))) rfl)
    (pss_cons (ps_set (i := 4) sc_Spans_init.nd rfl (Or.inl rfl) (pe_good G_joined (hr.mono (by decide)) (pa_cons (pv 3) (pa_cons (pe_fld (pv 0) rfl) pa_nil))))
    (pss_cons (ps_fld (pv 0) (pe_good G_greater (hr.mono (by decide)) (pa_cons (pe_good G_joined (hr.mono (by decide)) (pa_cons (pv 4) (pa_cons (pe_ix ix_tup (pv 1) pe_int (fun _ _ => rfl)) pa_nil))) (pa_cons (pe_glob (v := .ref (He.ga K "ZERO")) rfl T.gZ rfl) pa_nil))) rfl)
    (pss_cons (ps_fld (pv 0) (pe_good G_greater (hr.mono (by decide)) (pa_cons (pe_good G_lesser (hr.mono (by decide)) (pa_cons (pv 3) (pa_cons (pe_fld (pv 0) rfl) pa_nil))) (pa_cons (pe_glob (v := .ref (He.ga K "ZERO")) rfl T.gZ rfl) pa_nil))) rfl)
    (pss_one (ps_fld (pv 0) (pe_good G_greater (hr.mono (by decide)) (pa_cons (pe_good G_lesser (hr.mono (by decide)) (pa_cons (pv 4) (pa_cons (pe_fld (pv 0) rfl) pa_nil))) (pa_cons (pe_glob (v := .ref (He.ga K "ZERO")) rfl T.gZ rfl) pa_nil))) rfl)))))))), ?_⟩)⟩
  · rintro vs H Q E ⟨_, _, _, _, _, _, _, rfl, _⟩; rfl
  obtain ⟨p, dx, v, u, t, n, m, rfl, hp, hv, hu, ok, m1, sz, k⟩ := h
  obtain ⟨pt, pd, pb, pf, ut, ul, uc, rfl, hpt, hd, hb, hf, ht, hl, hc⟩ := It.tmI hv
  have bA := ok.actB m1
  have bO := ok.overB m1
  have bF := ok.finB m1
  have bD : Bo n (some t.delay) := Bo.some ok.delay
  have bB : Bo n (some t.behind) := Bo.some ok.behind
  have bZ : Bo 1 (some (0 : Rat)) := Bo.some Bd.q0
  have b1 := Bo.jn bO bB
  have b2 := Bo.lsr bD bF
  have b3 := Bo.lsr bO bF
  clear hv hl hc hf
  rw [st_Spans_init]; try dsimp only [L2.cxOf]
  walk_at "gn"
  refine sfldW_ hp T.cSpans T.nSpans_length (by decide) fun H1 h1 p1 f1 => ?_
  have hpt1 := p1 _ _ hpt
  have hd1 := p1 _ _ hd
  have hb1 := p1 _ _ hb
  have ht1 := ht.st p1
  have hu1 := hu.st p1
  walk_at "gn"
  refine du2_ hu1 ht1 ((ok.lenB m1).pro ok.times (by omega)) fun va H2 e2 ha => ?_
  walk_at "gn"
  refine sfldW_ (e2 _ _ h1) T.cSpans T.nSpans_active (by exact Nat.lt_of_le_of_lt putF_len (by decide)) fun H3 h3 p3 f3 => ?_
  have q13 : Tp K H1 H3 := (Tp.same e2).trans p3
  have hpt3 := q13 _ _ hpt1
  have hd3 := q13 _ _ hd1
  have hb3 := q13 _ _ hb1
  have hu3 := hu1.st q13
  have ha3 := ha.st p3
  walk_at "gn"
  refine fld_ h3 T.cSpans T.nSpans_active (by walk_at "lk") ?_
  walk_at "gn"
  refine du2_ (a := some t.delay) (It.fr hd3) ha3 (bD.pro bA (by omega)) fun vo H4 e4 ho => ?_
  have ho' : It K H4 vo (duD t.over) := ho
  walk_at "gn"
  have hpt4 := Same.sqT e4 hpt3
  have hb4 := Same.sqT e4 hb3
  walk_at "gn"
  refine du2_ (b := some t.behind) ho' (It.fr hb4) (bO.pro bB (by omega)) fun vj H5 e5 hj => ?_
  walk_at "gn"
  refine du2_ (b := some 0) hj (It.fr (z0 _)) (b1.pro bZ (by omega)) fun ve H6 e6 he => ?_
  walk_at "gn"
  have h6 := e6 _ _ (e5 _ _ (e4 _ _ h3))
  refine sfldW_ h6 T.cSpans T.nSpans_end (by exact Nat.lt_of_le_of_lt putF_len (by have := putF_len (f := ("active" : Str)) (y := va) (fs := putF ("length" : Str) u []); have z := putF_len (f := ("length" : Str)) (y := u) (fs := []); simp only [List.length_nil] at z; omega)) fun H7 h7 p7 f7 => ?_
  have q37 : Tp K H3 H7 := (((Tp.same e4).trans (Tp.same e5)).trans (Tp.same e6)).trans p7
  have hd7 := q37 _ _ hd3
  have hu7 := hu3.st q37
  have ha7 := ha3.st q37
  have ho7 := ho'.st (((Tp.same e5).trans (Tp.same e6)).trans p7)
  have he7 : It K H7 ve (duD t.fin) := he.st p7
  walk_at "gn"
  refine fld_ h7 T.cSpans T.nSpans_end (by walk_at "lk") ?_
  walk_at "gn"
  refine du2_ (a := some t.delay) (It.fr hd7) he7 (bD.pro bF (by omega)) fun vm H8 e8 hm => ?_
  walk_at "gn"
  refine du2_ (b := some 0) hm (It.fr (z0 _)) (b2.pro bZ (by omega)) fun vf H9 e9 hfe => ?_
  walk_at "gn"
  have h9 := e9 _ _ (e8 _ _ h7)
  have l7 : (putF ("end" : Str) ve (putF ("active" : Str) va (putF ("length" : Str) u []))).length < 990 := by
    have a1 := putF_len (f := ("active" : Str)) (y := va) (fs := putF ("length" : Str) u [])
    have a2 := putF_len (f := ("end" : Str)) (y := ve) (fs := putF ("active" : Str) va (putF ("length" : Str) u []))
    have z := putF_len (f := ("length" : Str)) (y := u) (fs := [])
    simp only [List.length_nil] at z
    omega
  refine sfldW_ h9 T.cSpans T.nSpans_first_edge (by omega) fun H10 h10 p10 f10 => ?_
  have q7A : Tp K H7 H10 := ((Tp.same e8).trans (Tp.same e9)).trans p10
  have hu10 := hu7.st q7A
  have ha10 := ha7.st q7A
  have ho10 := ho7.st q7A
  have he10 := he7.st q7A
  have hfe10 : It K H10 vf (duD t.fe) := hfe.st p10
  walk_at "gn"
  refine fld_ h10 T.cSpans T.nSpans_end (by walk_at "lk") ?_
  walk_at "gn"
  refine du2_ ho10 he10 (bO.pro bF (by omega)) fun vn H11 e11 hn => ?_
  walk_at "gn"
  refine du2_ (b := some 0) hn (It.fr (z0 _)) (b3.pro bZ (by omega)) fun vs H12 e12 hse => ?_
  walk_at "gn"
  have h12 := e12 _ _ (e11 _ _ h10)
  refine sfldW_ h12 T.cSpans T.nSpans_second_edge (by have := putF_len (f := ("first_edge" : Str)) (y := vf) (fs := putF ("end" : Str) ve (putF ("active" : Str) va (putF ("length" : Str) u []))); omega) fun H13 h13 p13 f13 => ?_
  have qAD : Tp K H10 H13 := ((Tp.same e11).trans (Tp.same e12)).trans p13
  have q0D : Tp K H H13 := p1.trans (q13.trans (q37.trans (q7A.trans qAD)))
  refine k H13 ⟨dx, _, u, va, ve, vf, vs, h13, by walk_at "lk", hu10.st qAD, by walk_at "lk", ha10.st qAD, by walk_at "lk", he10.st qAD, by walk_at "lk", hfe10.st qAD, by walk_at "lk", hse.st p13⟩ q0D ?_
  intro b o nb hb'
  exact f13 b o nb (e12 _ _ (e11 _ _ (f10 b o nb (e9 _ _ (e8 _ _ (f7 b o nb (e6 _ _ (e5 _ _ (e4 _ _ (f3 b o nb (e2 _ _ (f1 b o nb hb'))))))))))))
theorem ok__own_spans (T : Txt K mg) : Good P w K mg base "_own_spans" 6 ["timing"] (spOwnSpans K) := by
  have G_Spans_init := ok_Spans_init (P := P) (w := w) (base := base) T
  obtain ⟨gM, fd, F⟩ := dk__own_spans T
  have z0 : ∀ H, SqT K H (He.ga K "ZERO") (fr 0) := T.zero
  have z1 : ∀ H, SqT K H (He.ga K "ONE") (fr 1) := T.one
  refine ⟨gM, F.kp, fd, F.bindsN (fun _ _ _ _ _ _ us hl => match us, hl with | [_], _ => rfl), F.ok sc__own_spans ?_ (fun cdv A outer s H vs Q E hr h => ⟨_, PSs.nox (pss_one (ps_ret (pe_gmk G_Spans_init (hr.mono (by decide)) (pa_cons (pv 0) (pa_cons (pe_ifExp (pt_cmp (pc_isN (pe_ix ix_tup (pv 0) pe_int (fun _ _ => rfl))) rfl) (pe_glob (v := .ref (He.ga K "ZERO")) rfl T.gZ rfl) (pe_ix ix_tup (pv 0) pe_int (fun _ _ => rfl))) pa_nil))))), ?_⟩)⟩
  · rintro vs H Q E ⟨_, _, _, _, rfl, _⟩; rfl
  obtain ⟨v, t, n, m, rfl, hv, ok, m1, sz, k⟩ := h
  obtain ⟨pt, pd, pb, pf, ut, ul, uc, rfl, hpt, hd, hb, hf, ht, hl, hc⟩ := It.tmI hv
  have fin : ∀ (u : V) (H0 : Hp), Same H H0 → It K H0 u (duD t.len) → MkP (He.ga K "Spans") (spSpansInit K) E0 Q [.ref pt, u] H0 := fun u H0 e0 hu => mk_ fun x dx H1 nx e1 h1 => ⟨x, dx, .ref pt, u, t, n, m, rfl, h1, hv.same (e0.trans e1), hu.same e1, ok, m1, sz, fun H2 s2 p2 f2 => ⟨rfl, k x H2 (Same.none e0 nx) (fun b o hb => f2 b o (ne_of_none (e0 _ _ hb) nx) (e1 _ _ (e0 _ _ hb))) s2⟩⟩
  cases el : t.length with
  | none =>
    rw [el] at hl
    obtain rfl := It.loN hl
    have elen : t.len = some 0 := by unfold Tm.len; rw [el] <;> rfl
    rw [st__own_spans]; try dsimp only [L2.cxOf]
    walk_at "gn"
    exact fin _ _ (Same.refl _) (by rw [elen]; exact It.du0 (z0 _))
  | some d =>
    rw [el] at hl
    have elen : t.len = d := by unfold Tm.len; rw [el] <;> rfl
    have ne : ¬ ul = .non := by
      intro z
      subst z
      cases d with
      | none => have := It.duE hl; cases this
      | some q => obtain ⟨_, e, _⟩ := It.duF hl; cases e
    rw [st__own_spans]; try dsimp only [L2.cxOf]
    walk_at "gn"
    exact fin _ _ (Same.refl _) (by rw [elen]; exact hl)

local macro_rules | `(tactic| walk_at "it") => `(tactic| first
  | assumption
  | exact It.duS
  | (with_reducible apply It.du0; walk_at "sq")
  | (with_reducible apply It.fr; walk_at "sq")
  | (with_reducible apply It.same; assumption; walk_at "it"))
theorem bk_in (f : Fi) : inV (.str f.s) ((["backwards", "both"] : List Str).map V.str) = f.bk := by cases f <;> decide +kernel
theorem fw_in (f : Fi) : inV (.str f.s) ((["forwards", "both"] : List Str).map V.str) = f.fw := by cases f <;> decide +kernel
def Ph.aa : Ph → Bool
  | .act => true | .aft => true | _ => false
theorem aa_in (p : Ph) : inV (.str p.s) ((["active", "after"] : List Str).map V.str) = p.aa := by cases p <;> decide +kernel
theorem aa_iff {p : Ph} : p.aa = true ↔ (p = .act ∨ p = .aft) := by cases p <;> decide
theorem neInt_ {K : PySem.W.Frag} {H : Hp} {Q : VK} {i : Int} (q : Q (.bl false) H) : rEqD K (.int i) (.str "endless") H Q :=
  eqI_ (d := .int i) (e := duD none) (.int i) It.duS ((OkD.int (n := 1) i).sh (by decide)) (sh_du none) q
theorem blq_ {H : Hp} {Q : VK} {b c : Bool} (q : Q (.bl (b == c)) H) : rEq (.bl b) (.bl c) H Q := ⟨rfl, by rw [dec_bl]; exact q⟩
theorem ph_bef {p : Ph} : p.s = ("before" : Str) ↔ p = .bef := by cases p <;> decide +kernel
theorem ph_aft {p : Ph} : p.s = ("after" : Str) ↔ p = .aft := by cases p <;> decide +kernel
theorem ok_whole (T : Txt K mg) : Good P w K mg base "whole" 1 ["a"] (spWholeQ K) := by
  obtain ⟨gM, fd, F⟩ := dk_whole T
  have z0 : ∀ H, SqT K H (He.ga K "ZERO") (fr 0) := T.zero
  have z1 : ∀ H, SqT K H (He.ga K "ONE") (fr 1) := T.one
  refine ⟨gM, F.kp, fd, F.bindsN (fun _ _ _ _ _ _ us hl => match us, hl with | [_], _ => rfl), F.ok sc_whole ?_ (fun cdv A outer s H vs Q E hr h => ⟨_, PSs.nox (pss_one (ps_ret (pe_op op_fdivW (pe_ix ix_tup (pv 0) pe_int (fun _ _ => rfl)) (pe_ix ix_tup (pv 0) pe_int (fun _ _ => rfl))))), ?_⟩)⟩
  · rintro vs H Q E ⟨_, _, rfl, _⟩; rfl
  obtain ⟨a, q, rfl, ha, hb, k⟩ := h
  have hq : (0 : Int) < q.den := by have := den_pos q; omega
  rw [st_whole]; try dsimp only [L2.cxOf]
  walk_at "gn"
  refine ndiv_ (den_divn _ hb) ?_
  exact k
theorem ok_rest (T : Txt K mg) : Good P w K mg base "rest" 1 ["a"] (spRestQ K) := by
  obtain ⟨gM, fd, F⟩ := dk_rest T
  have z0 : ∀ H, SqT K H (He.ga K "ZERO") (fr 0) := T.zero
  have z1 : ∀ H, SqT K H (He.ga K "ONE") (fr 1) := T.one
  refine ⟨gM, F.kp, fd, F.bindsN (fun _ _ _ _ _ _ us hl => match us, hl with | [_], _ => rfl), F.ok sc_rest ?_ (fun cdv A outer s H vs Q E hr h => ⟨_, PSs.nox (pss_one (ps_ret (pe_tup (pa_cons (pe_op op_mod (pe_ix ix_tup (pv 0) pe_int (fun _ _ => rfl)) (pe_ix ix_tup (pv 0) pe_int (fun _ _ => rfl))) (pa_cons (pe_ix ix_tup (pv 0) pe_int (fun _ _ => rfl)) pa_nil))))), ?_⟩)⟩
  · rintro vs H Q E ⟨_, _, rfl, _⟩; rfl
  obtain ⟨a, q, rfl, ha, k⟩ := h
  have hq : (0 : Int) < q.den := by have := den_pos q; omega
  rw [st_rest]; try dsimp only [L2.cxOf]
  walk_at "gn"
  refine nmod_ hq ?_
  walk_at "gn"
  exact k _ _ (by walk_at "same") (by rw [fr_frac]; walk_at "sq")
theorem ok_phase_at (T : Txt K mg) : Good P w K mg base "phase_at" 3 ["spans", "time", "sign"] (spPhase K) := by
  have G_less := ok_less (P := P) (w := w) (base := base) T
  have G_below := ok_below (P := P) (w := w) (base := base) T
  obtain ⟨gM, fd, F⟩ := dk_phase_at T
  have z0 : ∀ H, SqT K H (He.ga K "ZERO") (fr 0) := T.zero
  have z1 : ∀ H, SqT K H (He.ga K "ONE") (fr 1) := T.one
  refine ⟨gM, F.kp, fd, F.bindsN (fun _ _ _ _ _ _ us hl => match us, hl with | [_, _, _], _ => rfl), F.ok sc_phase_at ?_ (fun cdv A outer s H vs Q E hr h => ⟨_, PSs.nox (pss_cons (ps_if (pt_cmp (pc_isN (pv 1)) rfl) (pss_one (ps_ret pe_str)) pss_nil)
    (pss_cons (ps_if (PW.pt (pw_or (pt_val (pe_good G_less (hr.mono (by decide)) (pa_cons (pv 1) (pa_cons (pe_fld (pv 0) rfl) pa_nil)))) (pw_or1 (PW.pt (pw_and (pt_cmpR op_eq (pv 2) (pe_un un_neg pe_int) (nomark _)) (pw_and1 (pt_cmpR (op_eqD hr.units) (pv 1) (pe_fld (pv 0) rfl) (nomark _)))))))) (pss_one (ps_ret pe_str)) pss_nil)
    (pss_cons (ps_if (PW.pt (pw_or (pt_val (pe_good G_below (hr.mono (by decide)) (pa_cons (pe_fld (pv 0) rfl) (pa_cons (pv 1) pa_nil)))) (pw_or1 (PW.pt (pw_and (pt_cmpR op_eq (pv 2) pe_int (nomark _)) (pw_and1 (pt_cmpR (op_eqD hr.units) (pv 1) (pe_fld (pv 0) rfl) (nomark _)))))))) (pss_one (ps_ret pe_str)) pss_nil)
    (pss_one (ps_ret pe_str))))), ?_⟩)⟩
  · rintro vs H Q E ⟨_, _, _, _, _, _, rfl, _⟩; rfl
  obtain ⟨p, v, t, x, s, d, rfl, hs, hv, k⟩ := h
  obtain ⟨dx, fs, vl, va, ve, vf, vs, h1, l1, i1, l2, i2, l3, i3, l4, i4, l5, i5⟩ := hs
  rcases It.xI hv with ⟨rfl, rfl⟩ | ⟨q, pq, rfl, rfl, hq⟩
  · rw [st_phase_at]; try dsimp only [L2.cxOf]
    walk_at "gn"
    exact k
  · obtain ⟨f, hf⟩ := fe_some t
    have i4' : It K H vf (duD t.fe) := i4
    rw [hf] at i4'
    obtain ⟨pf, rfl, hpf⟩ := It.duF i4'
    have bx := (d.hx q rfl).1
    have bf : Bd (2 * d.n + 2 * 31 + 3) f := d.ok.feB (by decide) f hf
    have bs := d.ok.seB (m := 31) (by decide)
    have hN := d.hN
    have hn := d.hn
    have pr : Pr q f := Pr.bd bx bf (by omega)
    have pr2 : Pro t.se (some q) := bs.pro (Bo.some bx) (by omega)
    rw [st_phase_at]; try dsimp only [L2.cxOf]
    walk_at "gn"
    refine orj (c1 := decide (q < f)) (c2 := decide (s = -1) && decide (some q = some f)) (fun P z => ?_) (fun P z => ?_) ?_
    · walk_at "gn"
      refine fld_ h1 T.cSpans T.nSpans_first_edge l4 ?_
      walk_at "gn"
      exact z
    · refine andj (fun P z => ?_) (fun P z => ?_) z
      · walk_at "gn"
        exact z
      · walk_at "gn"
        refine fld_ h1 T.cSpans T.nSpans_first_edge l4 ?_
        walk_at "gn"
        exact eqDu_ (a := some q) (b := some f) hv i4' (xbl z)
    cases c1 : (decide (q < f) || (decide (s = -1) && decide (some q = some f))) with
    | true =>
      have e : t.ph (some q) s = .bef := by
        unfold Tm.ph
        dsimp only
        rw [hf]
        exact if_pos c1
      rw [e] at k
      walk_at "gn"
      exact k
    | false =>
      walk_at "gn"
      refine orj (c1 := blw t.se (some q)) (c2 := decide (s = 1) && decide (some q = t.se)) (fun P z => ?_) (fun P z => ?_) ?_
      · walk_at "gn"
        refine fld_ h1 T.cSpans T.nSpans_second_edge l5 ?_
        walk_at "gn"
        exact blw_ (b := some q) i5 hv pr2 (xbl z)
      · refine andj (fun P z => ?_) (fun P z => ?_) z
        · walk_at "gn"
          exact z
        · walk_at "gn"
          refine fld_ h1 T.cSpans T.nSpans_second_edge l5 ?_
          walk_at "gn"
          exact eqDu_ (a := some q) (b := t.se) hv i5 (xbl z)
      cases c2 : (blw t.se (some q) || (decide (s = 1) && decide (some q = t.se))) with
      | true =>
        have e : t.ph (some q) s = .aft := by
          unfold Tm.ph
          dsimp only
          rw [hf]
          refine (if_neg (fun z => ?_)).trans (if_pos c2)
          have z' : (decide (q < f) || (decide (s = -1) && decide (some q = some f))) = true := z
          rw [c1] at z'
          cases z'
        rw [e] at k
        walk_at "gn"
        exact k
      | false =>
        have e : t.ph (some q) s = .act := by
          unfold Tm.ph
          dsimp only
          rw [hf]
          refine (if_neg (fun z => ?_)).trans (if_neg (fun z => ?_))
          · have z' : (decide (q < f) || (decide (s = -1) && decide (some q = some f))) = true := z
            rw [c1] at z'
            cases z'
          · rw [c2] at z
            cases z
        rw [e] at k
        walk_at "gn"
        exact k
theorem ok_active_time (T : Txt K mg) : Good P w K mg base "active_time" 4 ["delay", "spans", "fill", "phase", "time"] (spActive K) := by
  have G_minus := ok_minus (P := P) (w := w) (base := base) T
  have G_greater := ok_greater (P := P) (w := w) (base := base) T
  have G_lesser := ok_lesser (P := P) (w := w) (base := base) T
  obtain ⟨gM, fd, F⟩ := dk_active_time T
  have z0 : ∀ H, SqT K H (He.ga K "ZERO") (fr 0) := T.zero
  have z1 : ∀ H, SqT K H (He.ga K "ONE") (fr 1) := T.one
  refine ⟨gM, F.kp, fd, F.bindsN (fun _ _ _ _ _ _ us hl => match us, hl with | [_, _, _, _, _], _ => rfl), F.ok sc_active_time ?_ (fun cdv A outer s H vs Q E hr h => ⟨_, PSs.nox (pss_cons (ps_if (pt_cmpR op_eq (pv 3) pe_str (nomark _)) (pss_one (ps_ret (pe_good G_minus (hr.mono (by decide)) (pa_cons (pv 4) (pa_cons (pv 0) pa_nil))))) pss_nil)
    (pss_cons (ps_if (PW.pt (pw_and (pt_cmpR op_eq (pv 3) pe_str (nomark _)) (pw_and1 (pt_cmpR op_in_seq (pv 2) (pe_tup (pa_cons pe_str (pa_cons pe_str pa_nil))) rfl)))) (pss_one (ps_ret (pe_good G_greater (hr.mono (by decide)) (pa_cons (pe_good G_minus (hr.mono (by decide)) (pa_cons (pv 4) (pa_cons (pv 0) pa_nil))) (pa_cons (pe_glob (v := .ref (He.ga K "ZERO")) rfl T.gZ rfl) pa_nil))))) pss_nil)
    (pss_cons (ps_if (PW.pt (pw_and (pt_cmpR op_eq (pv 3) pe_str (nomark _)) (pw_and1 (pt_cmpR op_in_seq (pv 2) (pe_tup (pa_cons pe_str (pa_cons pe_str pa_nil))) rfl)))) (pss_one (ps_ret (pe_good G_greater (hr.mono (by decide)) (pa_cons (pe_good G_lesser (hr.mono (by decide)) (pa_cons (pe_good G_minus (hr.mono (by decide)) (pa_cons (pv 4) (pa_cons (pv 0) pa_nil))) (pa_cons (pe_fld (pv 1) rfl) pa_nil))) (pa_cons (pe_glob (v := .ref (He.ga K "ZERO")) rfl T.gZ rfl) pa_nil))))) pss_nil)
    (pss_one (ps_ret pe_non))))), ?_⟩)⟩
  · rintro vs H Q E ⟨_, _, _, _, _, _, _, rfl, _⟩; rfl
  obtain ⟨pd, sp, v, t, x, p, d, rfl, hd, hs, hv, hx, k⟩ := h
  obtain ⟨dx, fs, vl, va, ve, vf, vs, h1, l1, i1, l2, i2, l3, i3, l4, i4, l5, i5⟩ := hs
  rcases It.xI hv with ⟨rfl, rfl⟩ | ⟨q, pq, rfl, rfl, hq⟩
  · obtain rfl := hx rfl
    rw [st_active_time]; try dsimp only [L2.cxOf]
    walk_at "go"
    exact k _ _ (by walk_at "same") .non
  · have bx := (d.hx q rfl).1
    have hN := d.hN
    have hn := d.hn
    have b1 := d.ok.delay
    have b2 := Bd.sub bx b1
    have b3 := d.ok.actB (m := 31) (by decide)
    have pr : Pr q t.delay := Pr.bd bx b1 (by omega)
    have pr2 : Pro (some (q - t.delay)) t.act := (Bo.some b2).pro b3 (by omega)
    have pr3 : Pro (some (lsq (q - t.delay) t.act)) (some 0) := Bo.pro (n := d.N + d.n + 1 + 63) (m := 1) (by rw [← lsq_eq]; exact (Bo.lsr (Bo.some b2) b3).mono (by omega)) (Bo.some Bd.q0) (by omega)
    have pr4 : Pro (some (q - t.delay)) (some 0) := (Bo.some b2).pro (Bo.some Bd.q0) (by omega)
    cases p with
    | idle =>
      rw [st_active_time]; try dsimp only [L2.cxOf]
      walk_at "go"
      exact k _ _ (by walk_at "same") .non
    | act =>
      rw [st_active_time]; try dsimp only [L2.cxOf]
      walk_at "go"
      exact k _ _ (by walk_at "same") (It.fr (q := q - t.delay) (by walk_at "sq"))
    | bef =>
      rw [st_active_time]; try dsimp only [L2.cxOf]
      walk_at "go"
      rename_i p2 H2 n2 e2 t2
      refine inStr (ws := ["backwards", "both"]) (SqT.tr t2) ?_
      rw [show inV (.str t.fill.s) ((["backwards", "both"] : List Str).map V.str) = t.fill.bk from bk_in t.fill]
      cases ef : t.fill.bk with
      | true =>
        have ee : t.elx .bef (some q) = some (mx0 (q - t.delay)) := if_pos ef
        rw [ee] at k
        walk_at "go"
        refine du2_ (a := some (q - t.delay)) (b := some 0) (It.fr (by walk_at "sq")) (It.du0 (z0 _)) pr4 fun z H3 e3 hz => ?_
        rw [mx0_eq] at hz
        exact k _ _ (by walk_at "same") hz
      | false =>
        have ee : t.elx .bef (some q) = none := if_neg (by rw [ef]; decide)
        rw [ee] at k
        walk_at "go"
        exact k _ _ (by walk_at "same") .non
    | aft =>
      rw [st_active_time]; try dsimp only [L2.cxOf]
      walk_at "go"
      rename_i p2 H2 n2 e2 t2
      refine inStr (ws := ["forwards", "both"]) (SqT.tr t2) ?_
      rw [show inV (.str t.fill.s) ((["forwards", "both"] : List Str).map V.str) = t.fill.fw from fw_in t.fill]
      cases ef : t.fill.fw with
      | true =>
        have ee : t.elx .aft (some q) = some (mx0 (lsq (q - t.delay) t.act)) := if_pos ef
        rw [ee] at k
        have hs2 := e2 _ _ h1
        have i22 := i2.same e2
        walk_at "go"
        rename_i c3 H3 e3 t3
        refine fld_ (e3 _ _ hs2) T.cSpans T.nSpans_active l2 ?_
        walk_at "gn"
        refine du2_ (a := some (q - t.delay)) (b := t.act) (It.fr (by walk_at "sq")) (i22.same e3) pr2 fun z H4 e4 hz => ?_
        rw [lsq_eq] at hz
        walk_at "gn"
        refine du2_ (b := some 0) hz (It.du0 (z0 _)) pr3 fun z H5 e5 hz5 => ?_
        rw [mx0_eq] at hz5
        exact k _ _ (by walk_at "same") hz5
      | false =>
        have ee : t.elx .aft (some q) = none := if_neg (by rw [ef]; decide)
        rw [ee] at k
        walk_at "go"
        exact k _ _ (by walk_at "same") .non
theorem ok__overall_progress (T : Txt K mg) : Good P w K mg base "_overall_progress" 4 ["timing", "spans", "phase", "elapsed"] (spOverall K) := by
  have G_joined := ok_joined (P := P) (w := w) (base := base) T
  have G_plus := ok_plus (P := P) (w := w) (base := base) T
  have G_over := ok_over (P := P) (w := w) (base := base) T
  obtain ⟨gM, fd, F⟩ := dk__overall_progress T
  have z0 : ∀ H, SqT K H (He.ga K "ZERO") (fr 0) := T.zero
  have z1 : ∀ H, SqT K H (He.ga K "ONE") (fr 1) := T.one
  refine ⟨gM, F.kp, fd, F.bindsN (fun _ _ _ _ _ _ us hl => match us, hl with | [_, _, _, _], _ => rfl), F.ok sc__overall_progress ?_ (fun cdv A outer s H vs Q E hr h => ⟨_, PSs.nox (pss_cons (ps_set (i := 4) sc__overall_progress.nd rfl (Or.inl rfl) (pe_ix ix_tup (pv 0) pe_int (fun _ _ => rfl)))
    (pss_cons (ps_if (pt_cmpR (op_eqD hr.units) (pe_fld (pv 1) rfl) (pe_glob (v := .str "endless") rfl T.gE.choose_spec ⟨_, rfl⟩) (nomark _)) (pss_one (ps_ret (pv 4))) pss_nil)
    (pss_cons (ps_if (pt_cmpR (op_eqD hr.units) (pe_fld (pv 1) rfl) (pe_glob (v := .ref (He.ga K "ZERO")) rfl T.gZ rfl) (nomark _)) (pss_one (ps_ret (pe_ifExp (pt_cmpR op_eq (pv 2) pe_str (nomark _)) (pv 4) (pe_good G_joined (hr.mono (by decide)) (pa_cons (pv 4) (pa_cons (pe_ix ix_tup (pv 0) pe_int (fun _ _ => rfl)) pa_nil)))))) pss_nil)
    (pss_one (ps_ret (pe_good G_plus (hr.mono (by decide)) (pa_cons (pv 4) (pa_cons (pe_good G_over (hr.mono (by decide)) (pa_cons (pv 3) (pa_cons (pe_fld (pv 1) rfl) pa_nil))) pa_nil)))))))), ?_⟩)⟩
  · rintro vs H Q E ⟨_, _, _, _, _, _, _, _, rfl, _⟩; rfl
  obtain ⟨pt, sp, pe, t, x, p, e, d, rfl, hv, hs, he, hel, k⟩ := h
  obtain ⟨dx, fs, vl, va, ve, vf, vs, h1, l1, i1, l2, i2, l3, i3, l4, i4, l5, i5⟩ := hs
  obtain ⟨_, pd, pb, pf, ut, ul, uc, e0, hpt, hd, hb, hf, ht, hl, hc⟩ := It.tmI hv
  cases e0
  have be := el_bd d hel
  have hN := d.hN
  have hn := d.hn
  have i1' : It K H vl (duD t.len) := i1
  have bl := d.ok.lenB (m := 31) (by decide)
  have nl := d.ok.len0
  cases el : t.len with
  | none =>
    rw [el] at i1'
    have eo : t.ov p e = some t.first := by unfold Tm.ov; rw [el]
    rw [eo] at k
    rw [st__overall_progress]; try dsimp only [L2.cxOf]
    walk_at "gn"
    refine fld_ h1 T.cSpans T.nSpans_length l1 ?_
    walk_at "gn"
    refine eqDu_ (a := none) (b := none) i1' It.duS ?_
    rw [decide_eq_true rfl]
    walk_at "gn"
    exact k _ _ (Same.refl _) (It.fr hf)
  | some l =>
    rw [el] at i1'
    by_cases lz : l = 0
    · subst lz
      rw [st__overall_progress]; try dsimp only [L2.cxOf]
      walk_at "gn"
      refine fld_ h1 T.cSpans T.nSpans_length l1 ?_
      walk_at "gn"
      refine eqDu_ (a := some 0) (b := none) i1' It.duS ?_
      rw [decide_eq_false (by intro z; cases z)]
      walk_at "gn"
      refine fld_ h1 T.cSpans T.nSpans_length l1 ?_
      walk_at "gn"
      refine eqDu_ (a := some 0) (b := some 0) i1' (It.du0 (z0 _)) ?_
      rw [decide_eq_true rfl]
      walk_at "gn"
      have eo : t.ov p e = if p = .bef then some t.first else jn (some t.first) t.times := by unfold Tm.ov; rw [el]; exact if_pos rfl
      refine wD (fun hp => ?_) (fun hp => ?_)
      · rw [eo, if_pos (ph_bef.mp hp)] at k
        walk_at "gn"
        exact k _ _ (Same.refl _) (It.fr hf)
      · rw [eo, if_neg (fun z => hp (ph_bef.mpr z))] at k
        walk_at "gn"
        exact du2_ (a := some t.first) (It.fr hf) ht ((Bo.some d.ok.first).pro d.ok.times (by decide)) fun z H2 e2 hz => k _ _ e2 hz
    · rw [st__overall_progress]; try dsimp only [L2.cxOf]
      walk_at "gn"
      refine fld_ h1 T.cSpans T.nSpans_length l1 ?_
      walk_at "gn"
      refine eqDu_ (a := some l) (b := none) i1' It.duS ?_
      rw [decide_eq_false (by intro z; cases z)]
      walk_at "gn"
      refine fld_ h1 T.cSpans T.nSpans_length l1 ?_
      walk_at "gn"
      refine eqDu_ (a := some l) (b := some 0) i1' (It.du0 (z0 _)) ?_
      rw [decide_eq_false (by intro z; cases z; exact lz rfl)]
      walk_at "gn"
      have eo : t.ov p e = some (t.first + e / l) := by unfold Tm.ov; rw [el]; exact if_neg lz
      rw [eo] at k
      obtain ⟨pl, rfl, hpl⟩ := It.duF i1'
      have bl' := bl l el
      have l0 : 0 < l := by
        have := lt_of_le_ne (nl l el) (fun z => lz z.symm)
        grind
      refine fld_ h1 T.cSpans T.nSpans_length l1 ?_
      walk_at "gn"
      refine overP_ he hpl (Pr.bd be.1 bl' (by omega)) l0 fun c H2 e2 hc2 => ?_
      walk_at "gn"
      refine plusP_ (Same.sqT e2 hf) hc2 (Pr.bd d.ok.first (Bd.quot be.1 bl' l0) (by omega)) fun c3 H3 e3 hc3 => ?_
      exact k _ _ (e2.trans e3) (It.fr hc3)
theorem ok__simple_progress (T : Txt K mg) : Good P w K mg base "_simple_progress" 2 ["timing", "spans", "phase", "elapsed", "overall"] (spSimple K) := by
  have G_rest := ok_rest (P := P) (w := w) (base := base) T
  obtain ⟨gM, fd, F⟩ := dk__simple_progress T
  have z0 : ∀ H, SqT K H (He.ga K "ZERO") (fr 0) := T.zero
  have z1 : ∀ H, SqT K H (He.ga K "ONE") (fr 1) := T.one
  refine ⟨gM, F.kp, fd, F.bindsN (fun _ _ _ _ _ _ us hl => match us, hl with | [_, _, _, _, _], _ => rfl), F.ok sc__simple_progress ?_ (fun cdv A outer s H vs Q E hr h => ⟨_, PSs.nox (pss_cons (ps_set (i := 5) sc__simple_progress.nd rfl (Or.inl rfl) (pe_good G_rest (hr.mono (by decide)) (pa_cons (pe_ifExp (pt_cmpR (op_eqD hr.units) (pv 4) (pe_glob (v := .str "endless") rfl T.gE.choose_spec ⟨_, rfl⟩) (nomark _)) (pe_ix ix_tup (pv 0) pe_int (fun _ _ => rfl)) (pv 4)) pa_nil)))
    (pss_cons (ps_set (i := 6) sc__simple_progress.nd rfl (Or.inl rfl) (pe_and (pe_cmpR op_in_seq (pv 2) (pe_tup (pa_cons pe_str (pa_cons pe_str pa_nil))) rfl) (pe_and (pe_cmpR (op_eqD hr.units) (pv 3) (pe_fld (pv 1) rfl) (nomark _)) (pe_one (pe_cmpR (op_neD hr.units) (pe_ix ix_tup (pv 0) pe_int (fun _ _ => rfl)) (pe_glob (v := .ref (He.ga K "ZERO")) rfl T.gZ rfl) (nomark _))))))
    (pss_one (ps_ret (pe_ifExp (PW.pt (pw_and (pt_val (pv 6)) (pw_and1 (pt_cmpR (op_eqD hr.units) (pv 5) (pe_glob (v := .ref (He.ga K "ZERO")) rfl T.gZ rfl) (nomark _))))) (pe_glob (v := .ref (He.ga K "ONE")) rfl T.gO rfl) (pv 5)))))), ?_⟩)⟩
  · rintro vs H Q E ⟨_, _, _, _, _, _, _, _, rfl, _⟩; rfl
  obtain ⟨pt, sp, pe, z, t, p, e, o, rfl, hv, hs, he, hz, k⟩ := h
  obtain ⟨dx, fs, vl, va, ve, vf, vs, h1, l1, i1, l2, i2, l3, i3, l4, i4, l5, i5⟩ := hs
  obtain ⟨_, pd, pb, pf, ut, ul, uc, e0, hpt, hd, hb, hf, ht, hl, hc⟩ := It.tmI hv
  cases e0
  cases o with
  | none =>
    rw [st__simple_progress]; try dsimp only [L2.cxOf]
    walk_at "gn"
    refine eqDu_ (a := none) (b := none) hz It.duS ?_
    rw [decide_eq_true rfl]
    walk_at "gn"
    refine ⟨pf, t.first, rfl, hf, fun pr H2 e2 hc2 => ?_⟩
    have rS : It K H2 (.ref pr) (duD (some (fracR t.first))) := It.fr hc2
    walk_at "gn"
    rename_i p3 H3 n3 e3 t3
    refine inStr (ws := ["active", "after"]) (SqT.tr t3) ?_
    rw [show inV (.str p.s) ((["active", "after"] : List Str).map V.str) = p.aa from aa_in p]
    have e13 := e2.trans e3
    have h13 := e13 _ _ h1
    have i23 := i2.same e13
    have he3 := Same.sqT e13 he
    have ht3 := ht.same e13
    have hpt3 := Same.sqT e13 hpt
    have rS3 := rS.same e3
    have hc3 := Same.sqT e3 hc2
    cases ea : p.aa with
    | false =>
      have es : t.si p e none = fracR t.first := if_neg (fun z => by have := aa_iff.mpr z.1; rw [ea] at this; cases this)
      rw [es] at k
      walk_at "go"
      exact k _ _ e13 hc3
    | true =>
      walk_at "gn"
      refine fld_ h13 T.cSpans T.nSpans_active l2 ?_
      walk_at "gn"
      refine eqDu_ (a := some e) (b := t.act) (It.fr he3) i23 ?_
      by_cases c1 : some e = t.act
      · rw [decide_eq_true c1]
        walk_at "gn"
        refine neDu_ (b := some 0) ht3 (It.du0 (z0 _)) ?_
        by_cases c2 : t.times = some 0
        · rw [decide_eq_true c2]
          have es : t.si p e none = fracR t.first := if_neg (fun z => z.2.2.1 c2)
          rw [es] at k
          walk_at "go"
          exact k _ _ e13 hc3
        · rw [decide_eq_false c2]
          walk_at "go"
          refine eqDu_ (b := some 0) rS3 (It.du0 (z0 _)) ?_
          by_cases c3 : fracR t.first = 0
          · rw [decide_eq_true (by rw [c3])]
            have es : t.si p e none = 1 := if_pos ⟨aa_iff.mp ea, c1, c2, c3⟩
            rw [es] at k
            walk_at "gn"
            exact k _ _ e13 (z1 _)
          · rw [decide_eq_false (by intro z; exact c3 (Option.some.inj z))]
            have es : t.si p e none = fracR t.first := if_neg (fun z => c3 z.2.2.2)
            rw [es] at k
            walk_at "gn"
            exact k _ _ e13 hc3
      · rw [decide_eq_false c1]
        have es : t.si p e none = fracR t.first := if_neg (fun z => c1 z.2.1)
        rw [es] at k
        walk_at "go"
        exact k _ _ e13 hc3
  | some q =>
    obtain ⟨pq, rfl, hq⟩ := It.duF hz
    rw [st__simple_progress]; try dsimp only [L2.cxOf]
    walk_at "gn"
    refine eqDu_ (a := some q) (b := none) hz It.duS ?_
    rw [decide_eq_false (by intro z; cases z)]
    walk_at "gn"
    refine ⟨pq, q, rfl, hq, fun pr H2 e2 hc2 => ?_⟩
    have rS : It K H2 (.ref pr) (duD (some (fracR q))) := It.fr hc2
    walk_at "gn"
    rename_i p3 H3 n3 e3 t3
    refine inStr (ws := ["active", "after"]) (SqT.tr t3) ?_
    rw [show inV (.str p.s) ((["active", "after"] : List Str).map V.str) = p.aa from aa_in p]
    have e13 := e2.trans e3
    have h13 := e13 _ _ h1
    have i23 := i2.same e13
    have he3 := Same.sqT e13 he
    have ht3 := ht.same e13
    have hpt3 := Same.sqT e13 hpt
    have rS3 := rS.same e3
    have hc3 := Same.sqT e3 hc2
    cases ea : p.aa with
    | false =>
      have es : t.si p e (some q) = fracR q := if_neg (fun z => by have := aa_iff.mpr z.1; rw [ea] at this; cases this)
      rw [es] at k
      walk_at "go"
      exact k _ _ e13 hc3
    | true =>
      walk_at "gn"
      refine fld_ h13 T.cSpans T.nSpans_active l2 ?_
      walk_at "gn"
      refine eqDu_ (a := some e) (b := t.act) (It.fr he3) i23 ?_
      by_cases c1 : some e = t.act
      · rw [decide_eq_true c1]
        walk_at "gn"
        refine neDu_ (b := some 0) ht3 (It.du0 (z0 _)) ?_
        by_cases c2 : t.times = some 0
        · rw [decide_eq_true c2]
          have es : t.si p e (some q) = fracR q := if_neg (fun z => z.2.2.1 c2)
          rw [es] at k
          walk_at "go"
          exact k _ _ e13 hc3
        · rw [decide_eq_false c2]
          walk_at "go"
          refine eqDu_ (b := some 0) rS3 (It.du0 (z0 _)) ?_
          by_cases c3 : fracR q = 0
          · rw [decide_eq_true (by rw [c3])]
            have es : t.si p e (some q) = 1 := if_pos ⟨aa_iff.mp ea, c1, c2, c3⟩
            rw [es] at k
            walk_at "gn"
            exact k _ _ e13 (z1 _)
          · rw [decide_eq_false (by intro z; exact c3 (Option.some.inj z))]
            have es : t.si p e (some q) = fracR q := if_neg (fun z => c3 z.2.2.2)
            rw [es] at k
            walk_at "gn"
            exact k _ _ e13 hc3
      · rw [decide_eq_false c1]
        have es : t.si p e (some q) = fracR q := if_neg (fun z => c1 z.2.1)
        rw [es] at k
        walk_at "go"
        exact k _ _ e13 hc3
theorem ok__iteration (T : Txt K mg) : Good P w K mg base "_iteration" 2 ["timing", "phase", "overall", "simple"] (spIter K) := by
  have G_whole := ok_whole (P := P) (w := w) (base := base) T
  obtain ⟨gM, fd, F⟩ := dk__iteration T
  have z0 : ∀ H, SqT K H (He.ga K "ZERO") (fr 0) := T.zero
  have z1 : ∀ H, SqT K H (He.ga K "ONE") (fr 1) := T.one
  refine ⟨gM, F.kp, fd, F.bindsN (fun _ _ _ _ _ _ us hl => match us, hl with | [_, _, _, _], _ => rfl), F.ok sc__iteration ?_ (fun cdv A outer s H vs Q E hr h => ⟨_, PSs.nox (pss_cons (ps_if (PW.pt (pw_or (pt_cmpR (op_eqD hr.units) (pv 2) (pe_glob (v := .str "endless") rfl T.gE.choose_spec ⟨_, rfl⟩) (nomark _)) (pw_or1 (PW.pt (pw_and (pt_cmpR op_eq (pv 1) pe_str (nomark _)) (pw_and1 (pt_cmpR (op_eqD hr.units) (pe_ix ix_tup (pv 0) pe_int (fun _ _ => rfl)) (pe_glob (v := .str "endless") rfl T.gE.choose_spec ⟨_, rfl⟩) (nomark _)))))))) (pss_one (ps_ret (pe_glob (v := .str "endless") rfl T.gE.choose_spec ⟨_, rfl⟩))) pss_nil)
    (pss_one (ps_ret (pe_ifExp (pt_cmpR (op_eqD hr.units) (pv 3) (pe_glob (v := .ref (He.ga K "ONE")) rfl T.gO rfl) (nomark _)) (pe_op op_sub (pe_good G_whole (hr.mono (by decide)) (pa_cons (pv 2) pa_nil)) pe_int) (pe_good G_whole (hr.mono (by decide)) (pa_cons (pv 2) pa_nil)))))), ?_⟩)⟩
  · rintro vs H Q E ⟨_, _, _, _, _, _, _, rfl, _⟩; rfl
  obtain ⟨pt, ps, z, t, p, o, s, rfl, hv, hs, hz, ho, k⟩ := h
  obtain ⟨_, pd, pb, pf, ut, ul, uc, e0, hpt, hd, hb, hf, ht, hl, hc⟩ := It.tmI hv
  cases e0
  cases o with
  | none =>
    rw [st__iteration]; try dsimp only [L2.cxOf]
    walk_at "gn"
    refine orj (c1 := true) (c2 := decide (p.s = "after") && decide (t.times = none)) (fun P z => ?_) (fun P z => ?_) ?_
    · walk_at "gn"
      exact eqDu_ (a := none) (b := none) hz It.duS (xbl z)
    · refine andj (fun P z => ?_) (fun P z => ?_) z
      · walk_at "gn"
        exact z
      · walk_at "gn"
        exact eqDu_ (b := none) ht It.duS (xbl z)
    · walk_at "gn"
      exact k _ (.str _)
  | some q =>
    have bq := ho q rfl
    obtain ⟨pq, rfl, hq⟩ := It.duF hz
    rw [st__iteration]; try dsimp only [L2.cxOf]
    walk_at "gn"
    refine orj (c1 := false) (c2 := decide (p.s = "after") && decide (t.times = none)) (fun P z => ?_) (fun P z => ?_) ?_
    · walk_at "gn"
      exact eqDu_ (a := some q) (b := none) hz It.duS (xbl z)
    · refine andj (fun P z => ?_) (fun P z => ?_) z
      · walk_at "gn"
        exact z
      · walk_at "gn"
        exact eqDu_ (b := none) ht It.duS (xbl z)
    by_cases c : p = .aft ∧ t.times = none
    · have ei : t.itr p (some q) s = none := if_pos c
      rw [ei] at k
      rw [decide_eq_true (ph_aft.mpr c.1), decide_eq_true c.2]
      walk_at "gn"
      exact k _ (.str _)
    · have ei : t.itr p (some q) s = some (if s = 1 then flo q - 1 else flo q) := if_neg c
      rw [ei] at k
      rw [show (false || (decide (p.s = ("after" : Str)) && decide (t.times = none))) = false from by
        rw [Bool.false_or, ← Bool.decide_and]
        exact decide_eq_false (fun z => c ⟨ph_aft.mp z.1, z.2⟩)]
      walk_at "gn"
      refine eqDu_ (a := some s) (b := some 1) (It.fr hs) (It.fr (q := 1) (z1 _)) ?_
      by_cases c1 : s = 1
      · rw [decide_eq_true (by rw [c1])]
        rw [if_pos c1] at k
        walk_at "gn"
        refine ⟨pq, q, rfl, hq, bq, ?_⟩
        walk_at "gn"
        exact k _ (.int _)
      · rw [decide_eq_false (by intro z; exact c1 (Option.some.inj z))]
        rw [if_neg c1] at k
        walk_at "gn"
        refine ⟨pq, q, rfl, hq, bq, ?_⟩
        walk_at "gn"
        exact k _ (.int _)
theorem ok_direction (T : Txt K mg) : Good P w K mg base "direction" 1 ["timing", "iteration"] (spDir K) := by
  obtain ⟨gM, fd, F⟩ := dk_direction T
  have z0 : ∀ H, SqT K H (He.ga K "ZERO") (fr 0) := T.zero
  have z1 : ∀ H, SqT K H (He.ga K "ONE") (fr 1) := T.one
  refine ⟨gM, F.kp, fd, F.bindsN (fun _ _ _ _ _ _ us hl => match us, hl with | [_, _], _ => rfl), F.ok sc_direction ?_ (fun cdv A outer s H vs Q E hr h => ⟨_, PSs.nox (pss_cons (ps_set (i := 2) sc_direction.nd rfl (Or.inl rfl) (pe_ix ix_tup (pv 0) pe_int (fun _ _ => rfl)))
    (pss_cons (ps_if (pt_cmpR op_eq (pv 2) pe_str (nomark _)) (pss_one (ps_ret pe_int)) pss_nil)
    (pss_cons (ps_if (pt_cmpR op_eq (pv 2) pe_str (nomark _)) (pss_one (ps_ret (pe_un un_neg pe_int))) pss_nil)
    (pss_cons (ps_if (pt_cmpR (op_eqD hr.units) (pv 1) (pe_glob (v := .str "endless") rfl T.gE.choose_spec ⟨_, rfl⟩) (nomark _)) (pss_one (ps_ret pe_int)) pss_nil)
    (pss_cons (ps_set (i := 3) sc_direction.nd rfl (Or.inl rfl) (pe_cmpR op_eq (pe_op op_mod (pv 1) pe_int) pe_int (nomark _)))
    (pss_one (ps_ret (pe_ifExp (pt_cmpR op_eq (pv 3) (pe_cmpR op_eq (pv 2) pe_str (nomark _)) (nomark _)) pe_int (pe_un un_neg pe_int))))))))), ?_⟩)⟩
  · rintro vs H Q E ⟨_, _, _, _, rfl, _⟩; rfl
  obtain ⟨pt, z, t, i, rfl, hv, hz, k⟩ := h
  obtain ⟨_, pd, pb, pf, ut, ul, uc, e0, hpt, hd, hb, hf, ht, hl, hc⟩ := It.tmI hv
  cases e0
  cases ew : t.way with
  | nor =>
    rw [ew] at hpt
    have ed : t.dr i = true := by unfold Tm.dr; rw [ew]
    rw [ed] at k
    rw [st_direction]; try dsimp only [L2.cxOf]
    walk_at "gn"
    exact k
  | rev =>
    rw [ew] at hpt
    have ed : t.dr i = false := by unfold Tm.dr; rw [ew]
    rw [ed] at k
    rw [st_direction]; try dsimp only [L2.cxOf]
    walk_at "gn"
    exact k
  | alt =>
    rw [ew] at hpt
    cases i with
    | none =>
      have ed : t.dr none = true := by unfold Tm.dr; rw [ew]
      rw [ed] at k
      rw [st_direction]; try dsimp only [L2.cxOf]
      walk_at "gn"
      refine eqDu_ (a := none) (b := none) hz It.duS ?_
      rw [decide_eq_true rfl]
      walk_at "gn"
      exact k
    | some i =>
      have ed : t.dr (some i) = decide (i % 2 = 0) := by unfold Tm.dr; rw [ew]
      rw [ed] at k
      cases hz
      rw [st_direction]; try dsimp only [L2.cxOf]
      walk_at "gn"
      refine neInt_ ?_
      walk_at "gn"
      refine nmod_ (by decide) ?_
      walk_at "gn"
      refine blq_ ?_
      by_cases c : i % 2 = 0
      · rw [decide_eq_true c] at *
        walk_at "gn"
        exact k
      · rw [decide_eq_false c] at *
        walk_at "gn"
        refine wF (by decide +kernel) ?_
        walk_at "gn"
        exact k
  | altr =>
    rw [ew] at hpt
    cases i with
    | none =>
      have ed : t.dr none = true := by unfold Tm.dr; rw [ew]
      rw [ed] at k
      rw [st_direction]; try dsimp only [L2.cxOf]
      walk_at "gn"
      refine eqDu_ (a := none) (b := none) hz It.duS ?_
      rw [decide_eq_true rfl]
      walk_at "gn"
      exact k
    | some i =>
      have ed : t.dr (some i) = !decide (i % 2 = 0) := by unfold Tm.dr; rw [ew]
      rw [ed] at k
      cases hz
      rw [st_direction]; try dsimp only [L2.cxOf]
      walk_at "gn"
      refine neInt_ ?_
      walk_at "gn"
      refine nmod_ (by decide) ?_
      walk_at "gn"
      refine blq_ ?_
      by_cases c : i % 2 = 0
      · rw [decide_eq_true c] at *
        walk_at "gn"
        refine wF (by decide +kernel) ?_
        walk_at "gn"
        exact k
      · rw [decide_eq_false c] at *
        walk_at "gn"
        exact k

local macro_rules | `(tactic| walk_at "it") => `(tactic| first
  | assumption
  | exact It.duS
  | (with_reducible apply It.du0; walk_at "sq")
  | (with_reducible apply It.fr; walk_at "sq")
  | (with_reducible apply It.same; assumption; walk_at "it"))
theorem inPM_ {K : PySem.W.Frag} {H : Hp} {Q : VK} {p : Addr} {s : Int} (h : SqT K H p [.int 1, .int (-1)]) (hs : s = 1 ∨ s = -1) (q : Q (.bl false) H) : rIn K true (.int s) (.ref p) H Q := by
  refine ⟨p, _, rfl, .inr h, rfl, rfl, ?_⟩
  show Q (.bl (if true = true then _ else _)) H
  rw [if_pos rfl]
  rcases hs with rfl | rfl
  · rw [show inV (.int 1) [.int 1, .int (-1)] = true by decide +kernel]
    exact q
  · rw [show inV (.int (-1)) [.int 1, .int (-1)] = true by decide +kernel]
    exact q
theorem ok_facts_at (T : Txt K mg) : Good P w K mg base "facts_at" 7 ["timing", "spans", "time", "sign"] (spFacts K) := by
  have G_phase_at := ok_phase_at (P := P) (w := w) (base := base) T
  have G_active_time := ok_active_time (P := P) (w := w) (base := base) T
  have G__overall_progress := ok__overall_progress (P := P) (w := w) (base := base) T
  have G__simple_progress := ok__simple_progress (P := P) (w := w) (base := base) T
  have G__iteration := ok__iteration (P := P) (w := w) (base := base) T
  have G_direction := ok_direction (P := P) (w := w) (base := base) T
  have G_minus := ok_minus (P := P) (w := w) (base := base) T
  have G_curve_value := ok_curve_value (P := P) (w := w) (base := base) T
  obtain ⟨gM, fd, F⟩ := dk_facts_at T
  have z0 : ∀ H, SqT K H (He.ga K "ZERO") (fr 0) := T.zero
  have z1 : ∀ H, SqT K H (He.ga K "ONE") (fr 1) := T.one
  refine ⟨gM, F.kp, fd, F.bindsN (fun _ _ _ _ _ _ us hl => match us, hl with | [_, _, _, _], _ => rfl), F.ok sc_facts_at ?_ (fun cdv A outer s H vs Q E hr h => ⟨_, PSs.nox (pss_cons (ps_set (i := 4) sc_facts_at.nd rfl (Or.inl rfl) (pe_good G_phase_at (hr.mono (by decide)) (pa_cons (pv 1) (pa_cons (pv 2) (pa_cons (pv 3) pa_nil)))))
    (pss_cons (ps_set (i := 5) sc_facts_at.nd rfl (Or.inl rfl) (pe_good G_active_time (hr.mono (by decide)) (pa_cons (pe_ix ix_tup (pv 0) pe_int (fun _ _ => rfl)) (pa_cons (pv 1) (pa_cons (pe_ix ix_tup (pv 0) pe_int (fun _ _ => rfl)) (pa_cons (pv 4) (pa_cons (pv 2) pa_nil)))))))
    (pss_cons (ps_if (pt_cmp (pc_isN (pv 5)) rfl) (pss_one (ps_ret (pe_tup (pa_cons (pv 4) (pa_cons pe_non (pa_cons pe_non (pa_cons pe_non (pa_cons pe_non (pa_cons pe_non (pa_cons pe_non pa_nil)))))))))) pss_nil)
    (pss_cons (ps_set (i := 6) sc_facts_at.nd rfl (Or.inl rfl) (pe_good G__overall_progress (hr.mono (by decide)) (pa_cons (pv 0) (pa_cons (pv 1) (pa_cons (pv 4) (pa_cons (pv 5) pa_nil))))))
    (pss_cons (ps_set (i := 7) sc_facts_at.nd rfl (Or.inl rfl) (pe_good G__simple_progress (hr.mono (by decide)) (pa_cons (pv 0) (pa_cons (pv 1) (pa_cons (pv 4) (pa_cons (pv 5) (pa_cons (pv 6) pa_nil)))))))
    (pss_cons (ps_set (i := 8) sc_facts_at.nd rfl (Or.inl rfl) (pe_good G__iteration (hr.mono (by decide)) (pa_cons (pv 0) (pa_cons (pv 4) (pa_cons (pv 6) (pa_cons (pv 7) pa_nil))))))
    (pss_cons (ps_set (i := 9) sc_facts_at.nd rfl (Or.inl rfl) (pe_good G_direction (hr.mono (by decide)) (pa_cons (pv 0) (pa_cons (pv 8) pa_nil))))
    (pss_cons (ps_set (i := 10) sc_facts_at.nd rfl (Or.inl rfl) (pe_ifExp (pt_cmpR op_eq (pv 9) pe_int (nomark _)) (pv 7) (pe_good G_minus (hr.mono (by decide)) (pa_cons (pe_glob (v := .ref (He.ga K "ONE")) rfl T.gO rfl) (pa_cons (pv 7) pa_nil)))))
    (pss_cons (ps_set (i := 11) sc_facts_at.nd rfl (Or.inl rfl) (pe_or (pe_and (pe_cmpR op_eq (pv 4) pe_str (nomark _)) (pe_one (pe_cmpR op_eq (pv 9) pe_int (nomark _)))) (pe_one (pe_and (pe_cmpR op_eq (pv 4) pe_str (nomark _)) (pe_one (pe_cmpR op_eq (pv 9) (pe_un un_neg pe_int) (nomark _)))))))
    (pss_one (ps_ret (pe_tup (pa_cons (pv 4) (pa_cons (pv 5) (pa_cons (pv 6) (pa_cons (pv 7) (pa_cons (pv 8) (pa_cons (pv 10) (pa_cons (pe_good G_curve_value (hr.mono (by decide)) (pa_cons (pe_ix ix_tup (pv 0) pe_int (fun _ _ => rfl)) (pa_cons (pv 10) (pa_cons (pv 11) pa_nil)))) pa_nil))))))))))))))))))), ?_⟩)⟩
  · rintro vs H Q E ⟨_, _, _, _, _, _, _, rfl, _⟩; rfl
  obtain ⟨pt, sp, v, t, x, s, d, rfl, hv, hs, hx, h11, k⟩ := h
  obtain ⟨_, pd, pb, pf, ut, ul, uc, e0, hpt, hd, hb, hf, ht, hl, hc⟩ := It.tmI hv
  cases e0
  rw [st_facts_at]; try dsimp only [L2.cxOf]
  walk_at "gn"
  refine ⟨sp, v, t, x, s, d, rfl, hs, hx, ?_⟩
  walk_at "gn"
  refine ⟨pd, sp, v, t, x, t.ph x s, d, rfl, hd, hs, hx, (fun z => by subst z; rfl), fun z H2 e2 hz => ?_⟩
  walk_at "gn"
  cases ee : t.elx (t.ph x s) x with
  | none =>
    rw [ee] at hz
    obtain rfl := It.nonI hz
    have et : t.tell x s = tellN (t.ph x s) := by unfold Tm.tell; rw [ee]
    rw [et] at k
    walk_at "gn"
    rename_i p3 H3 n3 e3 t3
    exact k p3 H3 (e2.trans e3) (.tup (SqT.tr t3) (.cons (.str _) (.cons .non (.cons .non (.cons .non (.cons .non (.cons .non (.cons .non .nil))))))))
  | some e =>
    rw [ee] at hz
    have et : t.tell x s = tellE t (t.ph x s) e := by unfold Tm.tell; rw [ee]
    rw [et] at k
    obtain ⟨pe, rfl, he⟩ := It.frI hz
    obtain ⟨q, rfl⟩ : ∃ q, x = some q := by
      cases x with
      | none => cases ee
      | some q => exact ⟨q, rfl⟩
    have hel : t.el (t.ph (some q) s) q = some e := ee
    generalize t.ph (some q) s = p at *
    have hv2 := hv.same e2
    have hs2 := hs.same e2
    walk_at "gn"
    refine ⟨pt, sp, pe, t, q, p, e, d, rfl, hv2, hs2, he, hel, fun zo H3 e3 ho => ?_⟩
    have hv3 := hv2.same e3
    have hs3 := hs2.same e3
    have he3 := Same.sqT e3 he
    walk_at "gn"
    refine ⟨pt, sp, pe, zo, t, p, e, t.ov p e, rfl, hv3, hs3, he3, ho, fun ps H4 e4 hps => ?_⟩
    have hv4 := hv3.same e4
    have ho4 := ho.same e4
    have he4 := Same.sqT e4 he3
    walk_at "gn"
    refine ⟨pt, ps, zo, t, p, t.ov p e, t.si p e (t.ov p e), rfl, hv4, hps, ho4, (fun r hr => (ov_bd d hel r hr).2.mono (by have := d.hD; omega)), fun u hu => ?_⟩
    walk_at "gn"
    refine ⟨pt, u, t, t.itr p (t.ov p e) (t.si p e (t.ov p e)), rfl, hv4, hu, ?_⟩
    walk_at "gn"
    have kk : ∀ p2 H', Same H H' → It K H' (.ref p2) (.tuple [.str p.s, frD e, duD (t.ov p e), frD (t.si p e (t.ov p e)), itD (t.itr p (t.ov p e) (t.si p e (t.ov p e))), frD (dir (t.si p e (t.ov p e)) (t.dr (t.itr p (t.ov p e) (t.si p e (t.ov p e))))), frD (cval t.curve (dir (t.si p e (t.ov p e)) (t.dr (t.itr p (t.ov p e) (t.si p e (t.ov p e))))) (flg p (t.dr (t.itr p (t.ov p e) (t.si p e (t.ov p e))))))]) → Q (.ref p2) H' := k
    have bs := si_bd d hel
    generalize t.itr p (t.ov p e) (t.si p e (t.ov p e)) = it at *
    generalize t.dr it = w at *
    generalize t.si p e (t.ov p e) = si at *
    have hD := d.hD
    have hc4 := hc.same ((e2.trans e3).trans e4)
    have e04 := (e2.trans e3).trans e4
    have hpt4 := Same.sqT e04 hpt
    have bd := dir_bd (w := w) bs
    have okc : CvOk 250 t.curve := d.ok.curve.mono (by decide)
    clear e2 e3 e4 hpt hv hv2 hv3 he he3 k hs hs2 hs3 hc hd hb hf ht hl hx hz ho
    cases w with
    | true =>
      have hc5 := hc4
      have ho5 := ho4
      have hu5 := hu
      have he5 := he4
      have hps5 := hps
      have e05 := e04
      walk_at "gn"
      cases p with
      | idle => cases hel
      | bef =>
        walk_at "gn"
        refine ⟨uc, ps, _, t.curve, dir si true, rfl, hc5, okc, hps5, bd.mono (by omega), fun pc H6 e6 hc6 => ?_⟩
        walk_at "gn"
        rename_i p7 H7 n7 e7 t7
        exact kk p7 H7 ((e05.trans e6).trans e7) (.tup (SqT.tr t7) (.cons (.str _) (.cons (It.fr (Same.sqT (e6.trans e7) he5)) (.cons (ho5.same (e6.trans e7)) (.cons (It.fr (Same.sqT (e6.trans e7) hps5)) (.cons (hu5.same (e6.trans e7)) (.cons (It.fr (Same.sqT (e6.trans e7) hps5)) (.cons (It.fr (Same.sqT e7 hc6)) .nil))))))))
      | act =>
        walk_at "gn"
        refine ⟨uc, ps, _, t.curve, dir si true, rfl, hc5, okc, hps5, bd.mono (by omega), fun pc H6 e6 hc6 => ?_⟩
        walk_at "gn"
        rename_i p7 H7 n7 e7 t7
        exact kk p7 H7 ((e05.trans e6).trans e7) (.tup (SqT.tr t7) (.cons (.str _) (.cons (It.fr (Same.sqT (e6.trans e7) he5)) (.cons (ho5.same (e6.trans e7)) (.cons (It.fr (Same.sqT (e6.trans e7) hps5)) (.cons (hu5.same (e6.trans e7)) (.cons (It.fr (Same.sqT (e6.trans e7) hps5)) (.cons (It.fr (Same.sqT e7 hc6)) .nil))))))))
      | aft =>
        walk_at "gn"
        refine ⟨uc, ps, _, t.curve, dir si true, rfl, hc5, okc, hps5, bd.mono (by omega), fun pc H6 e6 hc6 => ?_⟩
        walk_at "gn"
        rename_i p7 H7 n7 e7 t7
        exact kk p7 H7 ((e05.trans e6).trans e7) (.tup (SqT.tr t7) (.cons (.str _) (.cons (It.fr (Same.sqT (e6.trans e7) he5)) (.cons (ho5.same (e6.trans e7)) (.cons (It.fr (Same.sqT (e6.trans e7) hps5)) (.cons (hu5.same (e6.trans e7)) (.cons (It.fr (Same.sqT (e6.trans e7) hps5)) (.cons (It.fr (Same.sqT e7 hc6)) .nil))))))))
    | false =>
      walk_at "gn"
      have pr : Pr 1 si := Pr.bd Bd.q1 bs (by omega)
      refine minusP_ (p := 1) (z1 _) hps pr fun pd5 H5 e5 hd5 => ?_
      have hc5 := hc4.same e5
      have ho5 := ho4.same e5
      have hu5 := hu.same e5
      have he5 := Same.sqT e5 he4
      have hps5 := Same.sqT e5 hps
      have hpt5 := Same.sqT e5 hpt4
      have e05 := e04.trans e5
      clear e5 hc4 ho4 hu he4 hps hpt4 e04
      walk_at "gn"
      cases p with
      | idle => cases hel
      | bef =>
        walk_at "gn"
        refine ⟨uc, pd5, _, t.curve, dir si false, rfl, hc5, okc, hd5, bd.mono (by omega), fun pc H6 e6 hc6 => ?_⟩
        walk_at "gn"
        rename_i p7 H7 n7 e7 t7
        exact kk p7 H7 ((e05.trans e6).trans e7) (.tup (SqT.tr t7) (.cons (.str _) (.cons (It.fr (Same.sqT (e6.trans e7) he5)) (.cons (ho5.same (e6.trans e7)) (.cons (It.fr (Same.sqT (e6.trans e7) hps5)) (.cons (hu5.same (e6.trans e7)) (.cons (It.fr (Same.sqT (e6.trans e7) hd5)) (.cons (It.fr (Same.sqT e7 hc6)) .nil))))))))
      | act =>
        walk_at "gn"
        refine ⟨uc, pd5, _, t.curve, dir si false, rfl, hc5, okc, hd5, bd.mono (by omega), fun pc H6 e6 hc6 => ?_⟩
        walk_at "gn"
        rename_i p7 H7 n7 e7 t7
        exact kk p7 H7 ((e05.trans e6).trans e7) (.tup (SqT.tr t7) (.cons (.str _) (.cons (It.fr (Same.sqT (e6.trans e7) he5)) (.cons (ho5.same (e6.trans e7)) (.cons (It.fr (Same.sqT (e6.trans e7) hps5)) (.cons (hu5.same (e6.trans e7)) (.cons (It.fr (Same.sqT (e6.trans e7) hd5)) (.cons (It.fr (Same.sqT e7 hc6)) .nil))))))))
      | aft =>
        walk_at "gn"
        refine ⟨uc, pd5, _, t.curve, dir si false, rfl, hc5, okc, hd5, bd.mono (by omega), fun pc H6 e6 hc6 => ?_⟩
        walk_at "gn"
        rename_i p7 H7 n7 e7 t7
        exact kk p7 H7 ((e05.trans e6).trans e7) (.tup (SqT.tr t7) (.cons (.str _) (.cons (It.fr (Same.sqT (e6.trans e7) he5)) (.cons (ho5.same (e6.trans e7)) (.cons (It.fr (Same.sqT (e6.trans e7) hps5)) (.cons (hu5.same (e6.trans e7)) (.cons (It.fr (Same.sqT (e6.trans e7) hd5)) (.cons (It.fr (Same.sqT e7 hc6)) .nil))))))))

/-! ### what the program takes for a timing -/
def wordB (ws : List Str) : OV → Bool
  | .str s => inV (.str s) (ws.map V.str)
  | _ => false
def OV.nnB : OV → Bool
  | .tup (.int i :: _) => decide (0 ≤ i)
  | _ => false
def OV.amB (d : OV) : Bool := d.ratB && d.nnB
def OV.spB (d : OV) : Bool := wordB ["endless"] d || d.amB
abbrev fillW : List Str := ["none", "forwards", "backwards", "both"]
abbrev wayW : List Str := ["normal", "reverse", "alternate", "alternate reverse"]
def partB : Nat → OV → Bool
  | 0, d => d.ratB
  | 1, d => d.ratB
  | 2, d => wordB fillW d
  | 3, d => d.amB
  | 4, d => d.spB
  | 5, d => d.isN || d.spB
  | 6, d => wordB wayW d
  | _, d => d.cvB
def tmL : List OV → Bool
  | [a, b, f, g, t, l, w, c] => partB 0 a && (partB 1 b && (partB 2 f && (partB 3 g && (partB 4 t && (partB 5 l && (partB 6 w && partB 7 c))))))
  | _ => false
def OV.tmB : OV → Bool
  | .tup l => tmL l
  | _ => false
theorem rat_two {d : OV} (h : d.ratB = true) : ∃ i j, d = .tup [.int i, .int j] := by
  cases d with
  | tup l =>
    match l, h with
    | [a, b], h =>
      have h : ratC a b = true := h
      cases a <;> cases b <;> first | exact ⟨_, _, rfl⟩ | cases h
    | [], h => cases h
    | [_], h => cases h
    | _ :: _ :: _ :: _, h => cases h
  | _ => cases h
theorem tmL_len {l : List OV} (h : ¬ l.length = 8) : tmL l = false := by
  unfold tmL
  split
  · exact absurd rfl h
  · rfl
def spWordO (K : PySem.W.Frag) : Sp := fun vs H Q _ => ∃ (v : V) (p : Addr) (ws : List Str) (d : OV), vs = [v, .ref p] ∧ Od K H v d ∧ SqT K H p (ws.map V.str) ∧ ∀ H', Same H H' → Q (.bl (wordB ws d)) H'
theorem wordO_ {K : PySem.W.Frag} {H : Hp} {Q : VK} {E : XK} {v : V} {p : Addr} {d : OV} (ws : List Str) (h : Od K H v d) (hp : SqT K H p (ws.map V.str)) (k : ∀ H', Same H H' → Q (.bl (wordB ws d)) H') : spWordO K [v, .ref p] H Q E := ⟨v, p, ws, d, rfl, h, hp, k⟩
theorem ok_is_word (T : Txt K mg) : Good P w K mg base "is_word" 1 ["thing", "words"] (spWordO K) := by
  obtain ⟨gM, fd, F⟩ := dk_is_word T
  have z0 : ∀ H, SqT K H (He.ga K "ZERO") (fr 0) := T.zero
  have z1 : ∀ H, SqT K H (He.ga K "ONE") (fr 1) := T.one
  refine ⟨gM, F.kp, fd, F.bindsN (fun _ _ _ _ _ _ us hl => match us, hl with | [_, _], _ => rfl), F.ok sc_is_word ?_ (fun cdv A outer s H vs Q E hr h => ⟨_, PSs.nox (pss_one (ps_ret (pe_and (pe_callB call_isi (by rfl) (m_isinstance T) bt_isinstance (pa_cons (pv 0) (pa_cons (pe_bltn (v := .ty "str") (by rfl) (m_str T) bt_str rfl) pa_nil))) (pe_one (pe_cmpR op_in_seq (pv 0) (pv 1) rfl))))), ?_⟩)⟩
  · rintro vs H Q E ⟨_, _, _, _, rfl, _⟩; rfl
  obtain ⟨v, p, ws, d, rfl, hv, hp, k⟩ := h
  rw [st_is_word]; try dsimp only [L2.cxOf]
  walk_at "gn"
  refine hv.isS ?_
  cases a : d.isS with
  | false =>
    rw [show wordB ws d = false by cases d <;> first | rfl | (simp [OV.isS] at a)] at k
    walk_at "gn"
    exact k _ (Same.refl _)
  | true =>
    obtain ⟨w, rfl⟩ : ∃ w, d = .str w := by
      cases d <;> first | exact ⟨_, rfl⟩ | (simp [OV.isS] at a)
    cases hv
    walk_at "gn"
    exact inStr hp (k _ (Same.refl _))
theorem ok_is_amount (T : Txt K mg) : Good P w K mg base "is_amount" 2 ["thing"] (spOd K OV.amB) := by
  have G_is_ratio := ok_is_ratio (P := P) (w := w) (base := base) T
  obtain ⟨gM, fd, F⟩ := dk_is_amount T
  have z0 : ∀ H, SqT K H (He.ga K "ZERO") (fr 0) := T.zero
  have z1 : ∀ H, SqT K H (He.ga K "ONE") (fr 1) := T.one
  refine ⟨gM, F.kp, fd, F.bindsN (fun _ _ _ _ _ _ us hl => match us, hl with | [_], _ => rfl), F.ok sc_is_amount ?_ (fun cdv A outer s H vs Q E hr h => ⟨_, PSs.nox (pss_one (ps_ret (pe_and (pe_good G_is_ratio (hr.mono (by decide)) (pa_cons (pv 0) pa_nil)) (pe_one (pe_cmpR op_ge (pe_ix ix_tup (pv 0) pe_int (fun _ _ => rfl)) pe_int (nomark _)))))), ?_⟩)⟩
  · rintro vs H Q E ⟨_, _, rfl, _⟩; rfl
  obtain ⟨v, d, rfl, hv, k⟩ := h
  rw [st_is_amount]; try dsimp only [L2.cxOf]
  walk_at "gn"
  refine od_ hv fun H1 e1 => ?_
  cases c : d.ratB with
  | false =>
    rw [show d.amB = false by unfold OV.amB; rw [c]; rfl] at k
    walk_at "gn"
    exact k _ e1
  | true =>
    obtain ⟨i, j, rfl⟩ := rat_two c
    rw [show OV.amB (.tup [.int i, .int j]) = decide (0 ≤ i) by unfold OV.amB; rw [c]; rfl] at k
    cases hv with
    | tup ht al => cases al with
      | cons ha al => cases al with
        | cons hb al =>
          cases al
          cases ha
          cases hb
          have ht1 := Same.sqT e1 ht
          walk_at "gn"
          exact k _ e1
theorem ok__is_span (T : Txt K mg) : Good P w K mg base "_is_span" 3 ["thing"] (spOd K OV.spB) := by
  have G_is_amount := ok_is_amount (P := P) (w := w) (base := base) T
  have G_is_word := ok_is_word (P := P) (w := w) (base := base) T
  obtain ⟨gM, fd, F⟩ := dk__is_span T
  have z0 : ∀ H, SqT K H (He.ga K "ZERO") (fr 0) := T.zero
  have z1 : ∀ H, SqT K H (He.ga K "ONE") (fr 1) := T.one
  refine ⟨gM, F.kp, fd, F.bindsN (fun _ _ _ _ _ _ us hl => match us, hl with | [_], _ => rfl), F.ok sc__is_span ?_ (fun cdv A outer s H vs Q E hr h => ⟨_, PSs.nox (pss_one (ps_ret (pe_or (pe_good G_is_word (hr.mono (by decide)) (pa_cons (pv 0) (pa_cons (pe_tup (pa_cons (pe_glob (v := .str "endless") rfl T.gE.choose_spec ⟨_, rfl⟩) pa_nil)) pa_nil))) (pe_one (pe_good G_is_amount (hr.mono (by decide)) (pa_cons (pv 0) pa_nil)))))), ?_⟩)⟩
  · rintro vs H Q E ⟨_, _, rfl, _⟩; rfl
  obtain ⟨v, d, rfl, hv, k⟩ := h
  rw [st__is_span]; try dsimp only [L2.cxOf]
  walk_at "gn"
  rename_i p H1 n1 e1 t1
  refine wordO_ ["endless"] (Od.same e1 _ _ hv) (SqT.tr t1) fun H2 e2 => ?_
  have e12 := e1.trans e2
  cases c : wordB ["endless"] d with
  | true =>
    rw [show d.spB = true by unfold OV.spB; rw [c]; rfl] at k
    walk_at "gn"
    exact k _ e12
  | false =>
    rw [show d.spB = d.amB by unfold OV.spB; rw [c]; rfl] at k
    walk_at "gn"
    exact od_ (Od.same e12 _ _ hv) fun H3 e3 => k _ (e12.trans e3)
theorem ok_is_timing (T : Txt K mg) : GoodC P w K mg base "is_timing" 4 ["thing"] (spOd K OV.tmB) := by
  have G_is_ratio := ok_is_ratio (P := P) (w := w) (base := base) T
  have G_is_word := ok_is_word (P := P) (w := w) (base := base) T
  have G__is_span := ok__is_span (P := P) (w := w) (base := base) T
  have G_is_amount := ok_is_amount (P := P) (w := w) (base := base) T
  have G_is_curve := ok_is_curve (P := P) (w := w) (base := base) T
  obtain ⟨gM, fd, F⟩ := dk_is_timing T
  have z0 : ∀ H, SqT K H (He.ga K "ZERO") (fr 0) := T.zero
  have z1 : ∀ H, SqT K H (He.ga K "ONE") (fr 1) := T.one
  suffices FO : FnOk P w K mg base CX0 4 (He.ga K "is_timing") fd ["thing"] (spOd K OV.tmB) from ⟨⟨gM, F.kp, fd, F.bindsN (fun _ _ _ _ _ _ us hl => match us, hl with | [_], _ => rfl), FO⟩, fd, kbindsP F (fun _ _ _ _ _ _ ws hl => match ws, hl with | [_], _ => rfl), FO⟩
  refine F.ok sc_is_timing ?_ (fun cdv A outer s H vs Q E hr h => ⟨_, PSs.nox (pss_cons (ps_if (PW.pt (pw_or (pt_not (pt_val (pe_callB call_isi (by rfl) (m_isinstance T) bt_isinstance (pa_cons (pv 0) (pa_cons (pe_bltn (v := .ty "tuple") (by rfl) (m_tuple T) bt_tuple rfl) pa_nil))))) (pw_or1 (pt_cmpR op_ne (pe_callB cr_len (by rfl) (m_len T) PySem.boot_len (pa_cons (pv 0) pa_nil)) pe_int (nomark _))))) (pss_one (ps_ret pe_bl)) pss_nil)
    (pss_cons (ps_asg (pv 0) (pg_tup rfl (pgs_cons (pg_name (i := 1) sc_is_timing.nd rfl (Or.inl rfl)) (pgs_cons (pg_name (i := 2) sc_is_timing.nd rfl (Or.inl rfl)) (pgs_cons (pg_name (i := 3) sc_is_timing.nd rfl (Or.inl rfl)) (pgs_cons (pg_name (i := 4) sc_is_timing.nd rfl (Or.inl rfl)) (pgs_cons (pg_name (i := 5) sc_is_timing.nd rfl (Or.inl rfl)) (pgs_cons (pg_name (i := 6) sc_is_timing.nd rfl (Or.inl rfl)) (pgs_cons (pg_name (i := 7) sc_is_timing.nd rfl (Or.inl rfl)) (pgs_cons (pg_name (i := 8) sc_is_timing.nd rfl (Or.inl rfl)) pgs_nil))))))))))
    (pss_cons (ps_if (PW.pt (pw_or (pt_not (pt_val (pe_good G_is_ratio (hr.mono (by decide)) (pa_cons (pv 1) pa_nil)))) (pw_or1 (pt_not (pt_val (pe_good G_is_ratio (hr.mono (by decide)) (pa_cons (pv 2) pa_nil))))))) (pss_one (ps_ret pe_bl)) pss_nil)
    (pss_cons (ps_if (pt_not (pt_val (pe_good G_is_word (hr.mono (by decide)) (pa_cons (pv 3) (pa_cons (pe_tup (pa_cons pe_str (pa_cons pe_str (pa_cons pe_str (pa_cons pe_str pa_nil))))) pa_nil))))) (pss_one (ps_ret pe_bl)) pss_nil)
    (pss_cons (ps_if (PW.pt (pw_or (pt_not (pt_val (pe_good G_is_amount (hr.mono (by decide)) (pa_cons (pv 4) pa_nil)))) (pw_or (pt_not (pt_val (pe_good G__is_span (hr.mono (by decide)) (pa_cons (pv 5) pa_nil)))) (pw_or1 (pt_not (PW.pt (pw_or (pt_cmp (pc_isN (pv 6)) rfl) (pw_or1 (pt_val (pe_good G__is_span (hr.mono (by decide)) (pa_cons (pv 6) pa_nil))))))))))) (pss_one (ps_ret pe_bl)) pss_nil)
    (pss_one (ps_ret (pe_and (pe_good G_is_word (hr.mono (by decide)) (pa_cons (pv 7) (pa_cons (pe_tup (pa_cons pe_str (pa_cons pe_str (pa_cons pe_str (pa_cons pe_str pa_nil))))) pa_nil))) (pe_one (pe_good G_is_curve (hr.mono (by decide)) (pa_cons (pv 8) pa_nil))))))))))), ?_⟩)
  · rintro vs H Q E ⟨_, _, rfl, _⟩; rfl
  obtain ⟨v, d, rfl, hv, k⟩ := h
  rw [st_is_timing]; try dsimp only [L2.cxOf]
  walk_at "gn"
  refine xor ?_
  walk_at "gn"
  refine hv.isT ?_
  cases a : d.isT with
  | false =>
    rw [show d.tmB = false by cases d <;> first | rfl | (simp [OV.isT] at a)] at k
    walk_at "gn"
    exact k _ (Same.refl _)
  | true =>
    cases hv with
    | tup ht al =>
      rename_i p xs ds
      have l := al.len
      walk_at "gn"
      by_cases c : ds.length = 8
      · obtain ⟨d0, d1, d2, d3, d4, d5, d6, d7, rfl⟩ : ∃ d0 d1 d2 d3 d4 d5 d6 d7, ds = [d0, d1, d2, d3, d4, d5, d6, d7] := by
          match ds, c with
          | [d0, d1, d2, d3, d4, d5, d6, d7], _ => exact ⟨_, _, _, _, _, _, _, _, rfl⟩
        cases al with
        | cons h0 al => cases al with
          | cons h1 al => cases al with
            | cons h2 al => cases al with
              | cons h3 al => cases al with
                | cons h4 al => cases al with
                  | cons h5 al => cases al with
                    | cons h6 al => cases al with
                      | cons h7 al =>
                        cases al
                        have eT : OV.tmB (.tup [d0, d1, d2, d3, d4, d5, d6, d7]) = (d0.ratB && (d1.ratB && (wordB fillW d2 && (d3.amB && (d4.spB && ((d5.isN || d5.spB) && (wordB wayW d6 && d7.cvB))))))) := rfl
                        rw [eT] at k
                        walk_at "gn"
                        refine xor ?_
                        walk_at "gn"
                        refine od_ h0 fun H1 e1 => ?_
                        cases b0 : d0.ratB with
                        | false =>
                          rw [b0] at k
                          walk_at "gn"
                          exact k _ e1
                        | true =>
                          rw [b0, Bool.true_and] at k
                          walk_at "gn"
                          refine od_ (Od.same e1 _ _ h1) fun H2 e2 => ?_
                          have f2 := e1.trans e2
                          cases b1 : d1.ratB with
                          | false =>
                            rw [b1] at k
                            walk_at "gn"
                            exact k _ f2
                          | true =>
                            rw [b1, Bool.true_and] at k
                            walk_at "gn"
                            rename_i q3 H3 n3 e3 t3
                            have f3 := f2.trans e3
                            refine wordO_ fillW (Od.same f3 _ _ h2) (SqT.tr t3) fun H4 e4 => ?_
                            have f4 := f3.trans e4
                            cases b2 : wordB fillW d2 with
                            | false =>
                              rw [b2] at k
                              walk_at "gn"
                              exact k _ f4
                            | true =>
                              rw [b2, Bool.true_and] at k
                              walk_at "gn"
                              refine xor ?_
                              walk_at "gn"
                              refine od_ (Od.same f4 _ _ h3) fun H5 e5 => ?_
                              have f5 := f4.trans e5
                              cases b3 : d3.amB with
                              | false =>
                                rw [b3] at k
                                walk_at "gn"
                                exact k _ f5
                              | true =>
                                rw [b3, Bool.true_and] at k
                                walk_at "gn"
                                refine xor ?_
                                walk_at "gn"
                                refine od_ (Od.same f5 _ _ h4) fun H6 e6 => ?_
                                have f6 := f5.trans e6
                                cases b4 : d4.spB with
                                | false =>
                                  rw [b4] at k
                                  walk_at "gn"
                                  exact k _ f6
                                | true =>
                                  rw [b4, Bool.true_and] at k
                                  walk_at "gn"
                                  refine xor ?_
                                  have g5 := Od.same f6 _ _ h5
                                  cases cn : d5.isN with
                                  | true =>
                                    obtain rfl : d5 = .non := by cases d5 <;> first | rfl | (simp [OV.isN] at cn)
                                    cases g5
                                    rw [cn, Bool.true_or, Bool.true_and] at k
                                    walk_at "gn"
                                    rename_i q7 H7 n7 e7 t7
                                    have f7 := f6.trans e7
                                    refine wordO_ wayW (Od.same f7 _ _ h6) (SqT.tr t7) fun H8 e8 => ?_
                                    have f8 := f7.trans e8
                                    cases b6 : wordB wayW d6 with
                                    | false =>
                                      rw [b6] at k
                                      walk_at "gn"
                                      exact k _ f8
                                    | true =>
                                      rw [b6, Bool.true_and] at k
                                      walk_at "gn"
                                      exact od_ (Od.same f8 _ _ h7) fun H9 e9 => k _ (f8.trans e9)
                                  | false =>
                                    have nv : ∀ {v : V}, Od K H6 v d5 → ¬ v = .non := fun h e => by
                                      subst e
                                      cases h
                                      cases cn
                                    have nv5 := nv g5
                                    rw [cn, Bool.false_or] at k
                                    walk_at "gn"
                                    refine od_ g5 fun H7 e7 => ?_
                                    have f7 := f6.trans e7
                                    cases b5 : d5.spB with
                                    | false =>
                                      rw [b5] at k
                                      walk_at "gn"
                                      exact k _ f7
                                    | true =>
                                      rw [b5, Bool.true_and] at k
                                      walk_at "gn"
                                      rename_i q8 H8 n8 e8 t8
                                      have f8 := f7.trans e8
                                      refine wordO_ wayW (Od.same f8 _ _ h6) (SqT.tr t8) fun H9 e9 => ?_
                                      have f9 := f8.trans e9
                                      cases b6 : wordB wayW d6 with
                                      | false =>
                                        rw [b6] at k
                                        walk_at "gn"
                                        exact k _ f9
                                      | true =>
                                        rw [b6, Bool.true_and] at k
                                        walk_at "gn"
                                        exact od_ (Od.same f9 _ _ h7) fun HA eA => k _ (f9.trans eA)
      · rw [show OV.tmB (.tup ds) = false from tmL_len c] at k
        walk_at "gn"
        exact k _ (Same.refl _)
    | _ => cases a

/-! ### right timings are timings -/
theorem amB_fr {q : Rat} (h : 0 ≤ q) : (OV.of (frD q)).amB = true := by
  have e : (OV.of (frD q)).nnB = decide (0 ≤ q.num) := rfl
  unfold OV.amB
  rw [ratB_fr, e, decide_eq_true (Rat.num_nonneg.mpr h)] <;> rfl
theorem spB_du {d : Option Rat} (h : Nn d) : (OV.of (duD d)).spB = true := by
  cases d with
  | none =>
    have e : wordB ["endless"] (OV.of (duD none)) = true := en_in
    unfold OV.spB
    rw [e] <;> rfl
  | some q =>
    have e : (OV.of (duD (some q))).amB = true := amB_fr (h q rfl)
    unfold OV.spB
    rw [e, Bool.or_true]
theorem tmB_of {n m : Nat} {t : Tm} (ok : TmOk n m t) : (OV.of (tmD t)).tmB = true := by
  have e : (OV.of (tmD t)).tmB = ((OV.of (frD t.delay)).ratB && ((OV.of (frD t.behind)).ratB && (wordB fillW (.str t.fill.s) && ((OV.of (frD t.first)).amB && ((OV.of (duD t.times)).spB && (((OV.of (loD t.length)).isN || (OV.of (loD t.length)).spB) && (wordB wayW (.str t.way.s) && (OV.of (cvD t.curve)).cvB))))))) := rfl
  have e2 : wordB fillW (.str t.fill.s) = true := fi_in t.fill
  have e6 : wordB wayW (.str t.way.s) = true := wy_in t.way
  have e5 : ((OV.of (loD t.length)).isN || (OV.of (loD t.length)).spB) = true := by
    cases z : t.length with
    | none => rfl
    | some d =>
      have y : (OV.of (loD (some d))).spB = true := spB_du (ok.length0 d z)
      rw [y, Bool.or_true]
  rw [e, ratB_fr, ratB_fr, e2, amB_fr ok.first0, spB_du ok.times0, e5, e6, cvB_of ok.curve] <;> rfl
theorem It.tmO {K : PySem.W.Frag} {H : Hp} {v : V} {n m : Nat} {t : Tm} (h : It K H v (tmD t)) (ok : TmOk n m t) : ∃ d, Od K H v d ∧ d.tmB = true := ⟨_, It.od _ _ h, tmB_of ok⟩
/-! ### the defs that refuse -/
theorem Od.frQ {K : PySem.W.Frag} {H : Hp} {x : Addr} {y : Rat} (h : SqT K H x (FC.fr y)) : ∃ d, Od K H (.ref x) d ∧ d.ratB = true := ⟨_, It.od _ _ (It.fr h), ratB_fr y⟩
def spEdX (K : PySem.W.Frag) : Sp := fun vs H Q E => ∃ v : V, vs = [v] ∧ ((∃ (t : Tm) (n m : Nat), It K H v (tmD t) ∧ TmOk n m t ∧ 1 ≤ m ∧ 4 * n + 4 * m + 10 ≤ 8900 ∧ ∀ p H', Same H H' → It K H' (.ref p) (.tuple [duD t.fe, duD t.se, duD t.fin]) → Q (.ref p) H') ∨
  (∃ d : OV, Od K H v d ∧ d.tmB = false ∧ ∀ H', Same H H' → E (.ref (He.ga K "NoTiming")) none H'))
def OV.sgB : OV → Bool
  | .int i => decide (i = 1) || decide (i = -1)
  | _ => false
def spTellX (K : PySem.W.Frag) : Sp := fun vs H Q E => ∃ u v z : V, vs = [u, v, z] ∧
  ((∃ (t : Tm) (x : Option Rat) (s : Int) (d : TdOk t x), z = .int s ∧ It K H u (tmD t) ∧ It K H v (xD x) ∧ (s = 1 ∨ s = -1) ∧ ∀ p H', Same H H' → It K H' (.ref p) (t.tell x s) → Q (.ref p) H') ∨
  (∃ d : OV, Od K H u d ∧ d.tmB = false ∧ ∀ H', Same H H' → E (.ref (He.ga K "NoTiming")) none H') ∨
  (∃ d b : OV, Od K H u d ∧ d.tmB = true ∧ Od K H v b ∧ b.isN = false ∧ b.ratB = false ∧ ∀ H', Same H H' → E (.ref (He.ga K "NoNumber")) none H') ∨
  (∃ d b g : OV, Od K H u d ∧ d.tmB = true ∧ Od K H v b ∧ (b.isN || b.ratB) = true ∧ Od K H z g ∧ g.sgB = false ∧ ∀ H', Same H H' → E (.ref (He.ga K "NoSign")) none H'))
theorem ok_edges (T : Txt K mg) : GoodXK P w K mg base "edges" 7 ["timing"] ["timing"] (fun _ ws => ws) (fun _ zs => zs) (spEdX K) := by
  have GC_is_timing := ok_is_timing (P := P) (w := w) (base := base) T
  have G_is_timing := GC_is_timing.good
  have G__own_spans := ok__own_spans (P := P) (w := w) (base := base) T
  obtain ⟨gM, fd, F⟩ := dk_edges T
  have z0 : ∀ H, SqT K H (He.ga K "ZERO") (fr 0) := T.zero
  have z1 : ∀ H, SqT K H (He.ga K "ONE") (fr 1) := T.one
  have C_NoTiming : ExCls K mg "NoTiming" := T.ex.cls _ (by decide)
  have C_NoNumber : ExCls K mg "NoNumber" := T.ex.cls _ (by decide)
  have C_NoSign : ExCls K mg "NoSign" := T.ex.cls _ (by decide)
  have C_CueError : ExCls K mg "CueError" := T.ex.cls _ (by decide)
  suffices FO : FnOk P w K mg base (L2.CX P w) 7 (He.ga K "edges") fd ["timing"] (spEdX K) from ⟨⟨gM, F.kp, fd, F.bindsN (fun _ _ _ _ _ _ us hl => match us, hl with | [_], _ => rfl), FO⟩, fd, kbindsP F (fun _ _ _ _ _ _ ws hl => match ws, hl with | [_], _ => rfl), FO⟩
  refine F.ok sc_edges ?_ (fun cdv A outer s H vs Q E hr h => ⟨_, (pss_cons (ps_if (pt_not (pt_val (pe_good G_is_timing (hr.mono (by decide)) (pa_cons (pv 0) pa_nil)))) (pss_one (ps_rz C_NoTiming)) pss_nil)
    (pss_cons (ps_set (i := 1) sc_edges.nd rfl (Or.inl rfl) (pe_good G__own_spans (hr.mono (by decide)) (pa_cons (pv 0) pa_nil)))
    (pss_one (ps_ret (pe_tup (pa_cons (pe_fld (pv 1) rfl) (pa_cons (pe_fld (pv 1) rfl) (pa_cons (pe_fld (pv 1) rfl) pa_nil)))))))), ?_⟩)
  · rintro vs H Q E ⟨_, rfl, _⟩; rfl
  obtain ⟨v, rfl, h⟩ := h
  rcases h with ⟨t, n, m, hv, ok, m1, sz, k⟩ | ⟨d, hd, hc, k⟩
  · obtain ⟨d, hd, hc⟩ := It.tmO hv ok
    rw [st_edges]; try dsimp only [L2.cxOf]
    walk_at "gn"
    refine od_ hd fun H1 e1 => ?_
    rw [hc]
    walk_at "gn"
    refine ⟨v, t, n, m, rfl, hv.same e1, ok, m1, sz, fun p H2 n2 e2 s2 => ?_⟩
    obtain ⟨dx, fs, vl, va, ve, vf, vs, h1, l1, i1, l2, i2, l3, i3, l4, i4, l5, i5⟩ := s2
    walk_at "gn"
    refine fld_ h1 T.cSpans T.nSpans_first_edge l4 ?_
    walk_at "gn"
    refine fld_ h1 T.cSpans T.nSpans_second_edge l5 ?_
    walk_at "gn"
    refine fld_ h1 T.cSpans T.nSpans_end l3 ?_
    walk_at "gn"
    rename_i p3 H3 n3 e3 t3
    exact k p3 H3 ((e1.trans e2).trans e3) (.tup (SqT.tr t3) (.cons (i4.same e3) (.cons (i5.same e3) (.cons (i3.same e3) .nil))))
  · rw [st_edges]; try dsimp only [L2.cxOf]
    walk_at "gn"
    refine od_ hd fun H1 e1 => ?_
    rw [hc]
    walk_at "go"
    exact k H1 e1

theorem inPMn_ {K : PySem.W.Frag} {H : Hp} {Q : VK} {p : Addr} {s : Int} (h : SqT K H p [.int 1, .int (-1)]) (hs : (OV.int s).sgB = false) (q : Q (.bl true) H) : rIn K true (.int s) (.ref p) H Q := by
  refine ⟨p, _, rfl, .inr h, rfl, rfl, ?_⟩
  show Q (.bl (if true = true then _ else _)) H
  rw [if_pos rfl]
  have hs : (decide (s = 1) || decide (s = -1)) = false := hs
  rw [Bool.or_eq_false_iff] at hs
  have n1 : ¬ s = 1 := of_decide_eq_false hs.1
  have n2 : ¬ s = -1 := of_decide_eq_false hs.2
  have z : inV (.int s) [.int 1, .int (-1)] = false := by
    show (((1 : Int) == s) || (((-1 : Int) == s) || false)) = false
    rw [beq_eq_false_iff_ne.mpr (fun e => n1 e.symm), beq_eq_false_iff_ne.mpr (fun e => n2 e.symm)] <;> rfl
  rw [z]
  exact q
theorem ok_told_at (T : Txt K mg) : GoodXK P w K mg base "told_at" 8 ["timing", "time", "sign"] ["sign", "time", "timing"] (fun _ ws => rev3 ws) (fun _ zs => rev3 zs) (spTellX K) := by
  have GC_is_timing := ok_is_timing (P := P) (w := w) (base := base) T
  have G_is_timing := GC_is_timing.good
  have G_is_ratio := ok_is_ratio (P := P) (w := w) (base := base) T
  have G_is_whole := ok_is_whole (P := P) (w := w) (base := base) T
  have G_facts_at := ok_facts_at (P := P) (w := w) (base := base) T
  have G__own_spans := ok__own_spans (P := P) (w := w) (base := base) T
  obtain ⟨gM, fd, F⟩ := dk_told_at T
  have z0 : ∀ H, SqT K H (He.ga K "ZERO") (fr 0) := T.zero
  have z1 : ∀ H, SqT K H (He.ga K "ONE") (fr 1) := T.one
  have C_NoTiming : ExCls K mg "NoTiming" := T.ex.cls _ (by decide)
  have C_NoNumber : ExCls K mg "NoNumber" := T.ex.cls _ (by decide)
  have C_NoSign : ExCls K mg "NoSign" := T.ex.cls _ (by decide)
  have C_CueError : ExCls K mg "CueError" := T.ex.cls _ (by decide)
  suffices FO : FnOk P w K mg base (L2.CX P w) 8 (He.ga K "told_at") fd ["timing", "time", "sign"] (spTellX K) from ⟨⟨gM, F.kp, fd, F.bindsN (fun _ _ _ _ _ _ us hl => match us, hl with | [_, _, _], _ => rfl), FO⟩, fd, kbindsQ F ["sign", "time", "timing"] (fun _ _ _ _ _ _ ws hl => match ws, hl with | [_, _, _], _ => rfl), FO⟩
  refine F.ok sc_told_at ?_ (fun cdv A outer s H vs Q E hr h => ⟨_, (pss_cons (ps_if (pt_not (pt_val (pe_good G_is_timing (hr.mono (by decide)) (pa_cons (pv 0) pa_nil)))) (pss_one (ps_rz C_NoTiming)) pss_nil)
    (pss_cons (ps_if (PW.pt (pw_and (pt_cmp (pc_notN (pv 1)) rfl) (pw_and1 (pt_not (pt_val (pe_good G_is_ratio (hr.mono (by decide)) (pa_cons (pv 1) pa_nil))))))) (pss_one (ps_rz C_NoNumber)) pss_nil)
    (pss_cons (ps_if (PW.pt (pw_or (pt_not (pt_val (pe_good G_is_whole (hr.mono (by decide)) (pa_cons (pv 2) pa_nil)))) (pw_or1 (pt_cmpR op_notIn_seq (pv 2) (pe_tup (pa_cons pe_int (pa_cons (pe_un un_neg pe_int) pa_nil))) rfl)))) (pss_one (ps_rz C_NoSign)) pss_nil)
    (pss_one (ps_ret (pe_good G_facts_at (hr.mono (by decide)) (pa_cons (pv 0) (pa_cons (pe_good G__own_spans (hr.mono (by decide)) (pa_cons (pv 0) pa_nil)) (pa_cons (pv 1) (pa_cons (pv 2) pa_nil)))))))))), ?_⟩)
  · rintro vs H Q E ⟨_, _, _, rfl, _⟩; rfl
  obtain ⟨u, v, z, rfl, h⟩ := h
  rw [st_told_at]; try dsimp only [L2.cxOf]
  rcases h with ⟨t, x, s, d, rfl, hv, hx, h11, k⟩ | ⟨d, hd, hc, k⟩ | ⟨d, b, hd, hc, hb, nb, hr_, k⟩ | ⟨d, b, g, hd, hc, hb, hr_, hg, hf, k⟩
  · obtain ⟨dd, hd, hc⟩ := It.tmO hv d.ok
    walk_at "gn"
    refine od_ hd fun H1 e1 => ?_
    rw [hc]
    have hv1 := hv.same e1
    have hx1 := hx.same e1
    walk_at "gn"
    rcases It.xI hx1 with ⟨rfl, rfl⟩ | ⟨q, pq, rfl, rfl, hq⟩
    · walk_at "go"
      refine od_ (.int s) fun H0 e0 => ?_
      rw [show OV.whB (.int s) = true from rfl]
      walk_at "go"
      rename_i p2 H2 n2 e2 t2
      refine inPM_ (SqT.tr t2) h11 ?_
      walk_at "gn"
      have e02 := e0.trans e2
      refine ⟨u, t, _, _, rfl, hv1.same e02, d.ok, by decide, by have := d.hn; omega, fun p3 H3 n3 e3 s3 => ?_⟩
      walk_at "gn"
      have e23 := e02.trans e3
      obtain ⟨pt, pd, pb, pf, ut, ul, uc, z0, hpt, _, hb, hf, ht, hl, hcc⟩ := It.tmI hv1
      subst z0
      exact ⟨pt, p3, _, t, _, s, d, rfl, hv1.same e23, s3, hx1.same e23, h11, fun p4 H4 e4 h4 => k p4 H4 ((e1.trans e23).trans e4) h4⟩
    · obtain ⟨b, hb, hr_⟩ := Od.frQ hq
      walk_at "go"
      refine od_ hb fun H0 e0 => ?_
      rw [hr_]
      walk_at "go"
      refine od_ (.int s) fun H0' e0' => ?_
      rw [show OV.whB (.int s) = true from rfl]
      walk_at "go"
      rename_i p2 H2 n2 e2 t2
      refine inPM_ (SqT.tr t2) h11 ?_
      walk_at "gn"
      have e02 := (e0.trans e0').trans e2
      refine ⟨u, t, _, _, rfl, hv1.same e02, d.ok, by decide, by have := d.hn; omega, fun p3 H3 n3 e3 s3 => ?_⟩
      walk_at "gn"
      have e23 := e02.trans e3
      obtain ⟨pt, pd, pb, pf, ut, ul, uc, z0, hpt, _, hb, hf, ht, hl, hcc⟩ := It.tmI hv1
      subst z0
      exact ⟨pt, p3, _, t, _, s, d, rfl, hv1.same e23, s3, hx1.same e23, h11, fun p4 H4 e4 h4 => k p4 H4 ((e1.trans e23).trans e4) h4⟩
  · walk_at "gn"
    refine od_ hd fun H1 e1 => ?_
    rw [hc]
    walk_at "go"
    exact k H1 e1
  · walk_at "gn"
    refine od_ hd fun H1 e1 => ?_
    rw [hc]
    have hb1 := Od.same e1 _ _ hb
    have nv : ¬ v = .non := fun e => by
      subst e
      cases hb
      cases nb
    walk_at "go"
    refine od_ hb1 fun H2 e2 => ?_
    rw [hr_]
    walk_at "go"
    exact k H2 (e1.trans e2)
  · walk_at "gn"
    refine od_ hd fun H1 e1 => ?_
    rw [hc]
    have hb1 := Od.same e1 _ _ hb
    cases cn : b.isN with
    | true =>
      obtain rfl : b = .non := by cases b <;> first | rfl | (simp [OV.isN] at cn)
      cases hb
      walk_at "go"
      refine od_ (Od.same e1 _ _ hg) fun H2 e2 => ?_
      cases cw : g.whB with
      | false =>
        walk_at "gn"
        exact k H2 (e1.trans e2)
      | true =>
        obtain ⟨i, rfl⟩ : ∃ i, g = .int i := by
          cases g <;> first | exact ⟨_, rfl⟩ | (simp [OV.whB] at cw)
        cases hg
        walk_at "gn"
        rename_i p3 H3 n3 e3 t3
        refine inPMn_ (SqT.tr t3) hf ?_
        walk_at "gn"
        exact k H3 ((e1.trans e2).trans e3)
    | false =>
      have nv : ¬ v = .non := fun e => by
        subst e
        cases hb
        cases cn
      rw [cn, Bool.false_or] at hr_
      walk_at "go"
      refine od_ hb1 fun H0 e0 => ?_
      rw [hr_]
      have e10 := e1.trans e0
      walk_at "gn"
      refine xor ?_
      walk_at "gn"
      refine od_ (Od.same e10 _ _ hg) fun H2 e2 => ?_
      cases cw : g.whB with
      | false =>
        walk_at "gn"
        exact k H2 (e10.trans e2)
      | true =>
        obtain ⟨i, rfl⟩ : ∃ i, g = .int i := by
          cases g <;> first | exact ⟨_, rfl⟩ | (simp [OV.whB] at cw)
        cases hg
        walk_at "gn"
        rename_i p3 H3 n3 e3 t3
        refine inPMn_ (SqT.tr t3) hf ?_
        walk_at "gn"
        exact k H3 ((e10.trans e2).trans e3)

/-! ### what a lambda's refusal is called -/
def saidPr : List (Str × Str) := [("NoTiming", "timing"), ("NoNumber", "number"), ("NoSign", "sign")]
/-- what may be let out, and what is told of it -/
def saidE (K : PySem.W.Frag) (Q : VK) : XK := fun cls _ H => ∃ p ∈ saidPr, cls = .ref (He.ga K p.1) ∧ Q (.str p.2) H
/-- what is known of a lambda's body -/
def Runs (P : Program) (w : World) (K : PySem.W.Frag) (mg : Str → Option Value) (base : Heap) (N : List Str) (k : Nat) (L : Lm) (dfl : List V) (t : XK → TE) : Prop :=
  LamW N L.scope ∧ Bds L dfl ∧ ∀ (f c' : Addr) (clo : List (Str × Addr)) (A : Around) (outer : List Env) (s : Shared) (H : Hp) (E : XK), Room k (A.deeper (lamE L s.heap.objs.size f c' clo)) → PE (lamC P w K mg base N A outer s H E L f c' clo) L.body (t E)
theorem said_core (T : Txt K mg) {X : Cx} {pins : List (Addr × Obj)} {σ σm : L2.St} {H : Hp} {s : Shared} {Q : VK} {N : List Str} {k : Nat} {L : Lm} {dfl : List V} {t : XK → TE} {f : Addr} {clo : List (Str × Addr)}
    (hP : X.prog = P) (hw : X.w = w) (hK : X.K = K) (hm : X.mg = mg) (hB : X.base = base) (I : Inv X pins σ H s) (hr : Room (k + 2) X.A) (R : Runs P w K mg base N k L dfl t) (fo : FnO H f L clo dfl) (C : CapOk N σm L.scope clo H s.heap) (len : σm.length = N.length)
    (q : t (saidE K Q) σm H fun _ H' => Q .non H') : wpAny (model X.prog X.w) X.A (call (.ref (He.ga K "_law_said")) [.ref f]) (EP X pins σ Q) X.xe s := by
  subst hP hw hK hm hB
  obtain ⟨gM, fd, F⟩ := dk__law_said T
  have hb := F.bindsN (ps := ["_law_ask"]) (fun _ _ _ _ _ _ us hl => match us, hl with | [_], _ => rfl)
  obtain ⟨oc, od, dV, kV, doc, pm, an, cdv, ct, osl, rfl, lk, hcd, _, _⟩ := F.ex
  have C_NoTiming : ExCls X.K X.mg "NoTiming" := T.ex.cls _ (by decide)
  have C_NoNumber : ExCls X.K X.mg "NoNumber" := T.ex.cls _ (by decide)
  have C_NoSign : ExCls X.K X.mg "NoSign" := T.ex.cls _ (by decide)
  have C_CueError : ExCls X.K X.mg "CueError" := T.ex.cls _ (by decide)
  obtain ⟨LW, B, hbody⟩ := R
  have bt := hb s [.ref f] I.kIn rfl
  rw [List.append_nil] at bt
  have rc : codeAny (model X.prog X.w) X.A (.call (.ref (He.ga X.K "_law_said")) ⟨[.ref f], []⟩) (CR CX0 X.stack X.prog X.w H s Q E0) s := by
    refine LamX.run_ofS (N := n__law_said) (ps := ["_law_ask"]) (us := [.ref f]) (vs := [.ref f]) lk hcd sc__law_said hr I.env0 bt (.cons rfl .nil) rfl fun hr' => ?_
    refine ⟨_, PSs.nox (pss_cons (ps_try_many (Wout := fun _ _ _ _ => False) (tb := fun W D σZ HZ => ∃ E : XK, (∀ cls d σ' H', E cls d H' → W cls d σ' H') ∧ σZ[0]? = some (some (.ref f)) ∧ FnO HZ f L clo dfl ∧ t E σm HZ fun _ H' => D.nx σZ H') rfl rfl L2.takes0 (fun W pn xe tk own => ⟨fun pins' s' σZ HZ D IZ h => ?_⟩)
      (.cons (c := .ref (He.ga X.K "NoTiming")) ⟨rfl, by decide, .inl C_NoTiming.g⟩ (fun a oe cls d pn _ _ => pss_one (ps_ret pe_str)) (.cons (c := .ref (He.ga X.K "NoNumber")) ⟨rfl, by decide, .inl C_NoNumber.g⟩ (fun a oe cls d pn _ _ => pss_one (ps_ret pe_str))
        (.cons (c := .ref (He.ga X.K "NoSign")) ⟨rfl, by decide, .inl C_NoSign.g⟩ (fun a oe cls d pn _ _ => pss_one (ps_ret pe_str)) (.cons (c := .ref (He.ga X.K "CueError")) ⟨rfl, by decide, .inl C_CueError.g⟩ (fun a oe cls d pn _ _ => pss_one (ps_ret pe_str)) .nil)))))
      (pss_one (ps_ret pe_non))), ?_⟩
    · obtain ⟨E, hW, h1, h2, h3⟩ := h
      exact (pss_one (ps_expr (pe_actF (Z := _) (i := 0) (a := "_law_ask") (f := f) (k := k) (E := E) (tb := t E) LW rfl C len B tk hW hr' (fun A outer s H c' hr2 => hbody f c' clo A outer s H E hr2) rfl (.inl rfl)))).run pins' s' σZ HZ D IZ ⟨h1, h2, h3⟩
    · have exm : ∀ {x y : Str} {b : Bool}, x ∈ (["NoTiming", "NoNumber", "NoSign", "CueError"] : List Str) → y ∈ (["NoTiming", "NoNumber", "NoSign", "CueError"] : List Str) → (decide (x = y) || decide (y = "CueError")) = b → PySem.W.exmOne X.K (.ref (He.ga X.K x)) (.ref (He.ga X.K y)) = some b := fun hx hy e => by
        rw [T.ex.exm _ hx _ hy, e]
      refine ⟨saidE X.K Q, fun cls d σ' H' ⟨p, hp, e, z⟩ => ?_, rfl, fo, q⟩
      subst e
      rcases List.mem_cons.mp hp with rfl | hp
      · exact ⟨true, exm (by decide) (by decide) (by decide), fun _ a _ => z, fun h => Bool.noConfusion h⟩
      rcases List.mem_cons.mp hp with rfl | hp
      · exact ⟨false, exm (by decide) (by decide) (by decide), fun h => Bool.noConfusion h, fun _ => ⟨true, exm (by decide) (by decide) (by decide), fun _ a _ => z, fun h => Bool.noConfusion h⟩⟩
      rcases List.mem_cons.mp hp with rfl | hp
      · exact ⟨false, exm (by decide) (by decide) (by decide), fun h => Bool.noConfusion h, fun _ => ⟨false, exm (by decide) (by decide) (by decide), fun h => Bool.noConfusion h, fun _ => ⟨true, exm (by decide) (by decide) (by decide), fun _ a _ => z, fun h => Bool.noConfusion h⟩⟩⟩
      cases hp
  refine wpAny_call (codeAny_mono rc fun r s' hq => ?_)
  cases r with
  | error e => exact hq.elim
  | ok fl =>
    cases fl with
    | ret u => exact I.after hq
    | next => exact False.elim hq
    | brk => exact False.elim hq
    | cont => exact False.elim hq
/-- what the tables are to be, and what the lambda's reading is to be, behind its making -/
def tSaid (K : PySem.W.Frag) (Tb : List (Addr × Str)) (t : XK → TE) : TE := fun σ H Q => LamX.Tabs Tb H ∧ ∀ H1, LamX.ExtN H H1 → LamX.Tabs Tb H1 → t (saidE K Q) σ H1 fun _ H' => Q .non H'
/-- _law_said(lambda: ..) -/
theorem pe_saidL (T : Txt K mg) {X : Cx} {Tb : List (Addr × Str)} {c Pt : Addr} {k : Nat} {params : Arguments} {body : Expr} {scope : Scope} {t : XK → TE} {p lpos pos : Pos} (hP : X.prog = P) (hw : X.w = w) (hK : X.K = K) (hm : X.mg = mg) (hB : X.base = base)
    (hg : Gl X "_law_said") (TB : LamX.TabB X.base X.mg c Pt) (hcode : X.env.code = .ref c) (hmT : (Pt, X.env.qual ++ "<lambda>") ∈ Tb) (hu : ∀ p ∈ Tb, p.1 = Pt → p.2 = X.env.qual ++ "<lambda>") (hr : Room (k + 2) X.A) (hdef : defaultsOf params X.env = ([], []))
    (hun : ∀ y ∈ scope.names, scope.names.lookup y.1 = some y.2) (hfr : ∀ y ∈ scope.names, y.2 = .free → X.env.scope.names.lookup y.1 = some .cell ∨ X.env.scope.names.lookup y.1 = some .free) (hne : ∃ y ∈ scope.names, y.2 = .free)
    (R : Runs P w K mg base X.N k ⟨X.env.qual ++ "<lambda>", params, body, scope⟩ [] t) : PE X (.Call (.Name "_law_said" p) [.Lambda params body scope lpos] [] pos) (tSaid K Tb t) := by
  refine ⟨fun pins s σ H Q I h => ?_⟩
  obtain ⟨hT, h⟩ := h
  obtain ⟨gM, fd, F⟩ := dk__law_said T
  have gX : X.mg "_law_said" = some (.ref (He.ga K "_law_said")) := by
    rw [hm]
    exact gM
  have kX : PySem.W.keepIn X.K (.ref (He.ga K "_law_said")) = true := by
    rw [hK]
    exact F.kp
  refine wpAny_Call_Name_kw (ld_glob I hg gX ?_ (by decide))
  refine PySem.W.callWith_K (h₀ := X.base) I.ok.mod.kin kX ?_ (by rfl) (by rfl)
  show wpAny _ _ (PySem.spliced ((false, eval (.Lambda params body scope lpos) X.env) :: backTo pos (starEach [] X.env))) _ _ s
  have hf : ∀ y ∈ scope.names, y.2 = .free → ∃ c, X.env.cells.lookup y.1 = some c := fun y hy e => (hfr y hy e).elim (fun k => I.ok.has _ (.inl k)) (fun k => I.ok.has _ (.inr k))
  refine PySem.Calls.spliced_cons (lam_ev0 I TB hcode hmT hu hT hdef hf hne fun f H1 s' I1 eN T1 fo => ?_)
  refine PySem.Calls.spliced_nil ⟨I1.kIn, ?_⟩
  exact said_core T hP hw hK hm hB I1 hr R fo (CapOk.of I1 hun hfr) I1.len (h H1 eN T1)

/-! ### lambdas asked one by one -/
theorem Runs.mono {N : List Str} {k k' : Nat} {L : Lm} {dfl : List V} {t : XK → TE} (R : Runs P w K mg base N k L dfl t) (h : k ≤ k') : Runs P w K mg base N k' L dfl t := ⟨R.1, R.2.1, fun f c' clo A outer s H E hr => R.2.2 f c' clo A outer s H E (hr.mono h)⟩
/-- what is known of each -/
abbrev AskR (P : Program) (w : World) (K : PySem.W.Frag) (mg : Str → Option Value) (base : Heap) (N : List Str) (k : Nat) (sc : Scope) : Lm → List V → (XK → TE) → Prop := fun L dfl t => Runs P w K mg base N k L dfl t ∧ Capt sc L
def tAsk (R : Lm → List V → (XK → TE) → Prop) (K : PySem.W.Frag) (cells : List (Str × Addr)) (j : Nat) (σm : L2.St) : TE := fun σ H Q => ∃ (f : Addr) (L : Lm) (dfl : List V) (t : XK → TE), σ[j]? = some (some (.ref f)) ∧ FnO H f L (cloFrom cells L.scope.names []) dfl ∧ R L dfl t ∧ t (saidE K Q) σm H fun _ H' => Q .non H'
/-- _law_said(x) in a block, where x holds a lambda of the maker's -/
theorem pe_saidN (T : Txt K mg) {X : Cx} {ps : List (Addr × Obj)} {σ : L2.St} {z : Shared} {G : Hp} {C : Addr} {cl : List (Str × Addr)} {fp : List Addr} {scope : Scope} {k i : Nat} {a : Str} {p1 p2 pos : Pos} (hP : X.prog = P) (hw : X.w = w) (hK : X.K = K) (hm : X.mg = mg) (hB : X.base = base) (I : Inv X ps σ G z) (hf : ∀ b ∈ fp, FpOk X ps G b) (hr : Room (k + 2) X.A)
    (hi : X.N[i]? = some a) (hv : Vis (compEnvC scope cl C X.env).scope a) (hg : Gl (X.blk z G scope (compEnvC scope cl C X.env) fp) "_law_said") (hd : (a == ("__debug__" : Str)) = false := by decide) (hcd : (a == ("__classdict__" : Str)) = false := by decide) :
    PE (X.blk z G scope (compEnvC scope cl C X.env) fp) (.Call (.Name "_law_said" p1) [.Name a p2] [] pos) (tAsk (AskR P w K mg base X.N k X.env.scope) K X.env.cells i σ) := by
  refine ⟨fun pins s σ' H Q J h => ?_⟩
  obtain ⟨f, L, dfl, t, hs, fo, ⟨R, un, fr⟩, q⟩ := h
  obtain ⟨gM, fd, F⟩ := dk__law_said T
  have gX : X.mg "_law_said" = some (.ref (He.ga K "_law_said")) := by
    rw [hm]
    exact gM
  have kX : PySem.W.keepIn X.K (.ref (He.ga K "_law_said")) = true := by
    rw [hK]
    exact F.kp
  refine wpAny_Call_Name_kw (ld_glob J hg gX ?_ (by decide))
  refine PySem.W.callWith_K (h₀ := X.base) J.ok.mod.kin kX ?_ (by rfl) (by rfl)
  show wpAny _ _ (PySem.spliced ((false, eval (.Name a p2) (compEnvC scope cl C X.env)) :: backTo pos (starEach [] (compEnvC scope cl C X.env)))) _ _ s
  refine PySem.Calls.spliced_cons (thn ((pe_var (X := X.blk z G scope (compEnvC scope cl C X.env) fp) (pos := p2) (i := i) hi hv hd hcd).run pins s σ' H (fun v H1 => v = .ref f ∧ H1 = H) J ⟨.ref f, hs, rfl, rfl⟩) fun u s1 ⟨v, H1, I1, r1, q1⟩ => ?_)
  obtain ⟨ev, eH⟩ := q1
  subst ev
  rw [eH] at I1
  obtain rfl : u = Value.ref f := r1
  refine PySem.Calls.spliced_nil ⟨I1.kIn, ?_⟩
  have hc : ∀ y ∈ L.scope.names, y.2 = .free → ∃ c, X.env.cells.lookup y.1 = some c := fun y hy e => (fr y hy e).elim (fun k => I.ok.has _ (.inl k)) (fun k => I.ok.has _ (.inr k))
  have CA : CapOk X.N σ L.scope (cloFrom X.env.cells L.scope.names []) H s1.heap := (CapOk.of I un fr).keep I1.base fun y c e m => (hf c m).2.2.2.2.1 y c (clo_of hc e) rfl
  exact said_core T (X := X.blk z G scope (compEnvC scope cl C X.env) fp) hP hw hK hm hB I1 hr R fo CA I.len q
/-- a list of lambdas, asked: each says the same -/
theorem lcAsk {R : Lm → List V → (XK → TE) → Prop} {cells : List (Str × Addr)} {σ : L2.St} {H : Hp} {Q : VK} {i p : Nat} {fs : List V} {o : V} (hi : i < σ.length) (h : SqL K H p fs) (hn : fs.length ≤ 1000)
    (al : ∀ x ∈ fs, ∃ f L dfl t, x = .ref f ∧ FnO H f L (cloFrom cells L.scope.names []) dfl ∧ R L dfl t ∧ ∀ H1 (Q' : VK), Same H H1 → (∀ H2, Same H1 H2 → Q' o H2) → t (saidE K Q') σ H1 fun _ H' => Q' .non H')
    (k : ∀ D H', H D = none → Same H H' → H' D = some (.lst (List.replicate fs.length o)) → Q (.ref D) H') : LcL K (gName i) tYes (tAsk R K cells i σ) [i] σ Q (.ref p) H := by
  refine LcL.of h (lcJS (K := K) walk_list (fun _ y _ => y = o) (fun i y H H' h t => h) (fun H' e => Same.seq e h) (by omega) ?_ ?_)
  · rintro n x H1 H' Q' hn' e ⟨rfl, hx⟩ hq
    obtain ⟨f, L, dfl, t, rfl, fo, r, run⟩ := al x (List.mem_of_getElem? hx)
    refine ⟨?_, f, L, dfl, t, ?_, fo.ext (LamX.ExtN.of e), r, run _ _ e fun H2 e2 => hq _ _ e2 rfl⟩
    · show (((σ.set i none).set i (some (.ref f))).set i none) = σ.set i none
      rw [List.set_set, List.set_set]
    · show ((σ.set i none).set i (some (.ref f)))[i]? = _
      rw [List.set_set, List.getElem?_set_self hi]
  · intro D ys H' n1 e1 t1 l1 av
    have e : ys = List.replicate fs.length o := List.eq_replicate_iff.mpr ⟨l1, fun y hy => by
      obtain ⟨j, hj⟩ := List.getElem?_of_mem hy
      exact av j y hj⟩
    rw [e] at t1
    exact k D H' n1 e1 t1
/-! ### what the lambdas do -/
/-- lambda: x(..), where x may raise -/
theorem runsG {N : List Str} {k k' : Nat} {q x : Str} {ps : List Str} {sp : Sp} {dfl : List V} {params : Arguments} {scope : Scope} {e1 : Expr} {es : List Expr} {t : TA} {p pos : Pos} (G : GoodX P w K mg base x k ps sp) (hk : k ≤ k') (hW : LamW N scope) (hB : Bds ⟨q, params, .Call (.Name x p) (e1 :: es) [] pos, scope⟩ dfl) (hg : scope.names.lookup x = some .globalImplicit) (hdb : (x == ("__debug__" : Str)) = false)
    (ha : ∀ (f c' : Addr) (clo : List (Str × Addr)) (A : Around) (outer : List Env) (s : Shared) (H : Hp) (E : XK), Room k' (A.deeper (lamE ⟨q, params, .Call (.Name x p) (e1 :: es) [] pos, scope⟩ s.heap.objs.size f c' clo)) → PA (lamC P w K mg base N A outer s H E ⟨q, params, .Call (.Name x p) (e1 :: es) [] pos, scope⟩ f c' clo) (e1 :: es) t)
    (h1 : ∀ env, starEach (e1 :: es) env = (false, eval e1 env) :: starEach es env := by intro _; rfl) (h2 : ∀ env, (backTo pos (starEach es env)).any (·.1) = false := by intro _; rfl) :
    Runs P w K mg base N k' ⟨q, params, .Call (.Name x p) (e1 :: es) [] pos, scope⟩ dfl (fun E => tCallS sp (WE fun cls d _ H => E cls d H) t) := by
  refine ⟨hW, hB, fun f c' clo A outer s H E hr => ?_⟩
  exact pe_goodX (X := lamC P w K mg base N A outer s H E _ f c' clo) G (hr.mono hk) (takes_of rfl rfl rfl rfl) (ha f c' clo A outer s H E hr) hg hdb (h1 _) (h2 _)
def lamUB (scope : Scope) : Bool := scope.names.all fun y => decide (scope.names.lookup y.1 = some y.2)
theorem capt_by {sc scope : Scope} {q : Str} {params : Arguments} {body : Expr} (h1 : lamUB scope = true) (h2 : lamFB sc scope = true) : Capt sc ⟨q, params, body, scope⟩ := ⟨fun y hy => of_decide_eq_true (List.all_eq_true.mp h1 y hy), lamF_by sc h2⟩
/-! ### where the program refuses nothing -/
theorem calmE (K : PySem.W.Frag) : ∀ vs H Q (E : XK), spEdges K vs H Q E → spEdX K vs H Q (fun _ _ _ => False) := fun vs H Q E ⟨v, t, n, m, ev, h1, h2, h3, h4, k⟩ => ⟨v, ev, .inl ⟨t, n, m, h1, h2, h3, h4, k⟩⟩
theorem calmT (K : PySem.W.Frag) : ∀ vs H Q (E : XK), spTellAt K vs H Q E → spTellX K vs H Q (fun _ _ _ => False) := fun vs H Q E ⟨u, v, t, x, s, d, ev, h1, h2, h3, k⟩ => ⟨u, v, .int s, ev, .inl ⟨t, x, s, d, rfl, h1, h2, h3, k⟩⟩
theorem edges_calm (T : Txt K mg) : Good P w K mg base "edges" 7 ["timing"] (spEdges K) := (ok_edges T).good.calm (calmE K)
theorem told_at_calm (T : Txt K mg) : Good P w K mg base "told_at" 8 ["timing", "time", "sign"] (spTellAt K) := (ok_told_at T).good.calm (calmT K)
/-- the defs that make lambdas: their code objects and tables -/
structure TxtL (K : PySem.W.Frag) (mg : Str → Option Value) (base : Heap) (Tb : List (Addr × Str)) : Prop where
  at_ : ∀ d ∈ [d__law_are_refused, d__law_right], ∃ c Pt : Addr, (∃ fd, FunD K d.name d.qual d.params d.body d.scope (d.dvs K) (d.kws K) (He.ga K d.name) fd ∧ fd.code = .ref c) ∧ LamX.TabB base mg c Pt ∧ (Pt, d.qual ++ ".<locals>." ++ "<lambda>") ∈ Tb ∧ ∀ p ∈ Tb, p.1 = Pt → p.2 = d.qual ++ ".<locals>." ++ "<lambda>"

/-! ### odd parts -/
theorem newK_ {σ : L2.St} {H : Hp} {Q : VK} (k : ∀ p H', H p = none → Same H H' → H' p = some (.dK []) → Q (.ref p) H') : tDNewK σ H Q := fun p hp => k p _ hp (fun b o e => by
  rw [upd_ne (ne_of_none e hp)]
  exact e) upd_same
theorem odApp {K : PySem.W.Frag} {H : Hp} : ∀ {us : List V} {as : List OV} {vs : List V} {bs : List OV}, OdAll K H us as → OdAll K H vs bs → OdAll K H (us ++ vs) (as ++ bs)
  | [], [], _, _, _, h2 => h2
  | _ :: _, _ :: _, _, _, .cons a b, h2 => .cons a (odApp b h2)
theorem catO_ {K : PySem.W.Frag} {F l : Addr} {xs ys : List V} {ds es : List OV} {H1 : Hp} {Q : VK} (tF : H1 F = some (.lst xs)) (q : OdAll K H1 xs ds) (tN : H1 l = some (.lst ys)) (qn : OdAll K H1 ys es) (hn : ds.length + es.length ≤ 10000)
    (k : ∀ D H2, H1 D = none → Same H1 H2 → H2 D = some (.lst (xs ++ ys)) → OdAll K H2 (xs ++ ys) (ds ++ es) → Q (.ref D) H2) : rCat (.ref F) (.ref l) H1 Q := by
  have l1 := q.len
  have l2 := qn.len
  exact cat_ tF tN (by omega) fun D H2 n2 e2 t2 => k D H2 n2 e2 t2 (OdAll.same e2 _ _ (odApp q qn))
theorem Od.dctS {K : PySem.W.Frag} {H H' : Hp} {p : Addr} {kvs : List (L2.Key × V)} (h : H p = some (.dK kvs)) (e : Same H H') : Od K H' (.ref p) .dct := .dct (e _ _ h)
local macro_rules | `(tactic| walk_at "odt") => `(tactic| first
  | exact Od.dct (by assumption) | exact Od.dctS (by assumption) (by walk_at "same") | exact Od.non | exact Od.int _ | exact Od.bl _ | exact Od.str _ | exact OdAll.nil
  | (with_reducible apply OdAll.cons; walk_at "odt"; walk_at "odt")
  | (with_reducible apply Od.tup; walk_at "sq"; walk_at "odt")
  | (with_reducible apply Od.lst; walk_at "sl"; walk_at "odt"))
theorem allP {k : Nat} {ds : List OV} (h : ds.all (fun d => !partB k d) = true) : ∀ d ∈ ds, partB k d = false := fun d hd => by
  have z := List.all_eq_true.mp h d hd
  cases q : partB k d with
  | false => rfl
  | true =>
    rw [q] at z
    cases z
def numsO : List OV := [.int 0, .bl true, .tup [.int 2, .int 4], .tup [.int 1, .int 0], .tup [.int 1, .int (-1)], .lst [.int 0, .int 1], .tup [.int 1], .dct, .str "none", .tup [.non, .int 1]]
def spOddP (K : PySem.W.Frag) : Sp := fun vs H Q _ => ∃ k : Int, vs = [.int k] ∧ (0 ≤ k ∧ k < 8) ∧ ∀ p xs ds H', Same H H' → H' p = some (.lst xs) → OdAll K H' xs ds → (∀ d ∈ ds, partB k.toNat d = false) → Q (.ref p) H'
theorem ok__law_odd_parts (T : Txt K mg) : Good P w K mg base "_law_odd_parts" 1 ["_law_k"] (spOddP K) := by
  obtain ⟨gM, fd, F⟩ := dk__law_odd_parts T
  have z0 : ∀ H, SqT K H (He.ga K "ZERO") (fr 0) := T.zero
  have z1 : ∀ H, SqT K H (He.ga K "ONE") (fr 1) := T.one
  refine ⟨gM, F.kp, fd, F.bindsN (fun _ _ _ _ _ _ us hl => match us, hl with | [_], _ => rfl), F.ok sc__law_odd_parts ?_ (fun cdv A outer s H vs Q E hr h => ⟨_, PSs.nox (pss_cons (ps_set (i := 1) sc__law_odd_parts.nd rfl (Or.inl rfl) (pe_lst (pa_cons pe_int (pa_cons pe_bl (pa_cons (pe_tup (pa_cons pe_int (pa_cons pe_int pa_nil))) (pa_cons (pe_tup (pa_cons pe_int (pa_cons pe_int pa_nil))) (pa_cons (pe_tup (pa_cons pe_int (pa_cons (pe_un un_neg pe_int) pa_nil))) (pa_cons (pe_lst (pa_cons pe_int (pa_cons pe_int pa_nil))) (pa_cons (pe_tup (pa_cons pe_int pa_nil)) (pa_cons pe_dnewK (pa_cons pe_str (pa_cons (pe_tup (pa_cons pe_non (pa_cons pe_int pa_nil))) pa_nil))))))))))))
    (pss_cons (ps_if (pt_cmpR op_lt (pv 0) pe_int (nomark _)) (pss_one (ps_ret (pe_op op_cat (pv 1) (pe_lst (pa_cons pe_non (pa_cons pe_str pa_nil)))))) pss_nil)
    (pss_cons (ps_if (pt_cmpR op_eq (pv 0) pe_int (nomark _)) (pss_one (ps_ret (pe_lst (pa_cons pe_non (pa_cons pe_int (pa_cons pe_str (pa_cons pe_str (pa_cons pe_str (pa_cons (pe_lst (pa_cons pe_str pa_nil)) (pa_cons (pe_tup (pa_cons pe_str pa_nil)) (pa_cons pe_bl (pa_cons (pe_tup (pa_cons pe_int (pa_cons pe_int pa_nil))) pa_nil)))))))))))) pss_nil)
    (pss_cons (ps_if (pt_cmpR op_eq (pv 0) pe_int (nomark _)) (pss_one (ps_ret (pe_op op_cat (pv 1) (pe_lst (pa_cons pe_non (pa_cons pe_str (pa_cons (pe_tup (pa_cons (pe_un un_neg pe_int) (pa_cons pe_int pa_nil))) pa_nil))))))) pss_nil)
    (pss_cons (ps_if (pt_cmpR op_eq (pv 0) pe_int (nomark _)) (pss_one (ps_ret (pe_op op_cat (pv 1) (pe_lst (pa_cons pe_non (pa_cons (pe_tup (pa_cons (pe_un un_neg pe_int) (pa_cons pe_int pa_nil))) (pa_cons pe_str (pa_cons (pe_lst (pa_cons pe_str pa_nil)) pa_nil)))))))) pss_nil)
    (pss_cons (ps_if (pt_cmpR op_eq (pv 0) pe_int (nomark _)) (pss_one (ps_ret (pe_op op_cat (pv 1) (pe_lst (pa_cons (pe_tup (pa_cons (pe_un un_neg pe_int) (pa_cons pe_int pa_nil))) (pa_cons pe_str (pa_cons (pe_lst (pa_cons pe_str pa_nil)) (pa_cons pe_bl pa_nil)))))))) pss_nil)
    (pss_cons (ps_if (pt_cmpR op_eq (pv 0) pe_int (nomark _)) (pss_one (ps_ret (pe_lst (pa_cons pe_non (pa_cons pe_int (pa_cons pe_str (pa_cons pe_str (pa_cons pe_str (pa_cons (pe_lst (pa_cons pe_str pa_nil)) (pa_cons (pe_tup (pa_cons pe_str pa_nil)) (pa_cons (pe_tup (pa_cons pe_int (pa_cons pe_int pa_nil))) (pa_cons pe_bl pa_nil)))))))))))) pss_nil)
    (pss_one (ps_ret (pe_lst (pa_cons pe_non (pa_cons pe_str (pa_cons (pe_tup (pa_cons pe_str (pa_cons (pe_tup pa_nil) pa_nil))) (pa_cons (pe_lst (pa_cons pe_str (pa_cons (pe_tup (pa_cons (pe_tup (pa_cons (pe_tup (pa_cons pe_int (pa_cons pe_int pa_nil))) (pa_cons (pe_tup (pa_cons pe_int (pa_cons pe_int pa_nil))) pa_nil))) pa_nil)) pa_nil))) (pa_cons (pe_tup (pa_cons pe_str (pa_cons pe_int (pa_cons pe_str pa_nil)))) (pa_cons pe_int (pa_cons (pe_tup pa_nil) (pa_cons pe_bl pa_nil)))))))))))))))))), ?_⟩)⟩
  · rintro vs H Q E ⟨_, rfl, _⟩; rfl
  obtain ⟨k, rfl, hk, q⟩ := h
  rw [st__law_odd_parts]; try dsimp only [L2.cxOf]
  walk_at "go"
  refine newK_ fun pd Hd nd ed td => ?_
  walk_at "go"
  rename_i a1 A1 m1 s1 u1 a2 A2 m2 s2 u2 a3 A3 m3 s3 u3 a4 A4 m4 s4 u4 a5 A5 m5 s5 u5 a6 A6 m6 s6 u6 pl Hl nl el tl
  have qn : OdAll K Hl [.int 0, .bl true, .ref a1, .ref a2, .ref a3, .ref a4, .ref a5, .ref pd, .str "none", .ref a6] numsO := by
    unfold numsO
    walk_at "odt"
  have e0 : Same H Hl := by walk_at "same"
  clear u1 u2 u3 u4 u5 u6 s1 s2 s3 s4 s5 s6 m1 m2 m3 m4 m5 m6 nd ed td nl el
  rcases (by omega : k = 0 ∨ k = 1 ∨ k = 2 ∨ k = 3 ∨ k = 4 ∨ k = 5 ∨ k = 6 ∨ k = 7) with rfl | rfl | rfl | rfl | rfl | rfl | rfl | rfl
  · walk_at "gn"
    rename_i p2 H2 n2 e2 t2
    refine catO_ (K := K) (es := [.non, .str "endless"]) ((show Same Hl H2 by walk_at "same") _ _ tl) (OdAll.same (show Same Hl H2 by walk_at "same") _ _ qn) t2 (by walk_at "odt") (by decide) fun D H3 n3 e3 t3 al => ?_
    exact q D _ _ H3 ((e0.trans (show Same Hl H2 by walk_at "same")).trans e3) t3 al (allP (by decide +kernel))
  · walk_at "gn"
    rename_i p2 H2 n2 e2 t2
    refine catO_ (K := K) (es := [.non, .str "endless"]) ((show Same Hl H2 by walk_at "same") _ _ tl) (OdAll.same (show Same Hl H2 by walk_at "same") _ _ qn) t2 (by walk_at "odt") (by decide) fun D H3 n3 e3 t3 al => ?_
    exact q D _ _ H3 ((e0.trans (show Same Hl H2 by walk_at "same")).trans e3) t3 al (allP (by decide +kernel))
  · walk_at "gn"
    rename_i p2 H2 n2 e2 t2
    exact q p2 _ [.non, .int 0, .str "", .str "Both", .str "none ", .lst [.str "none"], .tup [.str "none"], .bl true, .tup [.int 0, .int 1]] H2 (e0.trans (show Same Hl H2 by walk_at "same")) t2 (by walk_at "odt") (allP (by decide +kernel))
  · walk_at "gn"
    rename_i p2 H2 n2 e2 t2
    refine catO_ (K := K) (es := [.non, .str "endless", .tup [.int (-1), .int 1]]) ((show Same Hl H2 by walk_at "same") _ _ tl) (OdAll.same (show Same Hl H2 by walk_at "same") _ _ qn) t2 (by walk_at "odt") (by decide) fun D H3 n3 e3 t3 al => ?_
    exact q D _ _ H3 ((e0.trans (show Same Hl H2 by walk_at "same")).trans e3) t3 al (allP (by decide +kernel))
  · walk_at "gn"
    rename_i p2 H2 n2 e2 t2
    refine catO_ (K := K) (es := [.non, .tup [.int (-1), .int 2], .str "Endless", .lst [.str "endless"]]) ((show Same Hl H2 by walk_at "same") _ _ tl) (OdAll.same (show Same Hl H2 by walk_at "same") _ _ qn) t2 (by walk_at "odt") (by decide) fun D H3 n3 e3 t3 al => ?_
    exact q D _ _ H3 ((e0.trans (show Same Hl H2 by walk_at "same")).trans e3) t3 al (allP (by decide +kernel))
  · walk_at "gn"
    rename_i p2 H2 n2 e2 t2
    refine catO_ (K := K) (es := [.tup [.int (-1), .int 2], .str "Endless", .lst [.str "endless"], .bl false]) ((show Same Hl H2 by walk_at "same") _ _ tl) (OdAll.same (show Same Hl H2 by walk_at "same") _ _ qn) t2 (by walk_at "odt") (by decide) fun D H3 n3 e3 t3 al => ?_
    exact q D _ _ H3 ((e0.trans (show Same Hl H2 by walk_at "same")).trans e3) t3 al (allP (by decide +kernel))
  · walk_at "gn"
    rename_i p2 H2 n2 e2 t2
    exact q p2 _ [.non, .int 1, .str "", .str "alternate-reverse", .str "Normal", .lst [.str "normal"], .tup [.str "normal"], .tup [.int 0, .int 1], .bl false] H2 (e0.trans (show Same Hl H2 by walk_at "same")) t2 (by walk_at "odt") (allP (by decide +kernel))
  · walk_at "gn"
    rename_i p2 H2 n2 e2 t2
    exact q p2 _ [.non, .str "linear", .tup [.str "linear", .tup []], .lst [.str "linear", .tup [.tup [.tup [.int 0, .int 1], .tup [.int 0, .int 1]]]], .tup [.str "steps", .int 0, .str "end"], .int 5, .tup [], .bl true] H2 (e0.trans (show Same Hl H2 by walk_at "same")) t2 (by walk_at "odt") (allP (by decide +kernel))

/-! ### a thing that is no timing is refused -/
theorem repLs_ {H : Hp} {Q : VK} {l : Addr} {k : Int} {xs : List V} (h : H l = some (.lst xs)) (h0 : 0 ≤ k) (h1 : k ≤ 1000) (hl : xs.length ≤ 1000) (q : ∀ p H', H p = none → Same H H' → H' p = some (.lst (List.replicate k.toNat xs).flatten) → Q (.ref p) H') : rRep (.ref l) (.int k) H Q :=
  ⟨l, k, xs, rfl, rfl, h, by omega, by omega, by
    have : xs.length * k.toNat ≤ 1000 * 1000 := Nat.mul_le_mul hl (by omega)
    exact Nat.le_trans this (by decide), fun p hp => q p _ hp (same_upd hp) upd_same⟩
theorem itRep {K : PySem.W.Frag} {H : Hp} {v : V} {d : PyData} (h : It K H v d) : ∀ n : Nat, ItAll K H (List.replicate n v) (List.replicate n d)
  | 0 => .nil
  | n + 1 => .cons h (itRep h n)
theorem dpR {K : PySem.W.Frag} {H : Hp} {v : V} {d : PyData} {a : Addr} {n : Nat} (h : It K H v d) (s : SqL K H a (List.replicate n v)) : Dp K H (.ref a) (.list (List.replicate n d)) := .lst s (It.dpAll _ _ (itRep h n))
theorem okR {d : PyData} (o : OkD 1 d) (n : Nat) : OkA 1 (List.replicate n d) := OkA.of fun x hx => by
  rw [List.eq_of_mem_replicate hx]
  exact o
theorem ib_ {b : Bool} {H : Hp} {Q : VK} (q : Q (.bl true) H) : rIsB (.bl b) (.bl b) H Q := ⟨b, b, rfl, rfl, by
  rw [decide_eq_true rfl]
  exact q⟩
theorem nb_ {b : Bool} {H : Hp} {Q : VK} (q : Q (.bl false) H) : rNotB (.bl b) (.bl b) H Q := ⟨b, b, rfl, rfl, by
  rw [decide_eq_true rfl]
  exact q⟩
def spRefT (K : PySem.W.Frag) (Tb : List (Addr × Str)) : Sp := fun vs H Q _ => ∃ (v : V) (d : OV), vs = [v] ∧ Od K H v d ∧ d.tmB = false ∧ LamX.Tabs Tb H ∧ ∀ H', LamX.ExtN H H' → LamX.Tabs Tb H' → Q (.bl true) H'
theorem ok__law_are_refused (T : Txt K mg) {Tb : List (Addr × Str)} (TL : TxtL K mg base Tb) : Good P w K mg base "_law_are_refused" 11 ["_law_odd"] (spRefT K Tb) := by
  have GC_is_timing := ok_is_timing (P := P) (w := w) (base := base) T
  have G_is_timing := GC_is_timing.good
  obtain ⟨c, Pt, ⟨fd, F, hcd⟩, TB, hmT, hu⟩ := TL.at_ d__law_are_refused (by simp)
  have z0 : ∀ H, SqT K H (He.ga K "ZERO") (fr 0) := T.zero
  have z1 : ∀ H, SqT K H (He.ga K "ONE") (fr 1) := T.one
  refine ⟨(dk__law_are_refused T).1, F.kp, fd, F.bindsN (fun _ _ _ _ _ _ us hl => match us, hl with | [_], _ => rfl), funD_okC F hcd sc__law_are_refused ?_ (fun A outer s H vs Q E hr h => ⟨_, PSs.nox (pss_cons (ps_set (i := 1) sc__law_are_refused.nd rfl (Or.inl rfl) (pe_lst (pa_cons (pe_lam0R (R := AskR P w K mg base n__law_are_refused 8 (defScope s__law_are_refused)) TB rfl hmT hu rfl (lamF_by (defScope s__law_are_refused) (by decide +kernel)) (by decide +kernel) ⟨(runsG (k' := 8) (ok_edges T).good (by decide) ⟨rfl, rfl, rfl, by decide +kernel, lamL_by n__law_are_refused (by decide +kernel)⟩ (bds0 (fun _ _ _ _ => rfl)) rfl (by decide) (fun _ _ _ _ _ _ _ _ hr => (pa_cons (pe_var (i := 0) rfl (.inr (.inr rfl))) pa_nil))), capt_by (by decide +kernel) (by decide +kernel)⟩) (pa_cons (pe_lam1R (R := AskR P w K mg base n__law_are_refused 8 (defScope s__law_are_refused)) TB rfl hmT hu rfl (lamF_by (defScope s__law_are_refused) (by decide +kernel)) (by decide +kernel) ⟨(runsG (k' := 8) (ok_told_at T).good (by decide) ⟨rfl, rfl, rfl, by decide +kernel, lamL_by n__law_are_refused (by decide +kernel)⟩ (bds1 (x := "_law_of") (n := 0) rfl (fun _ _ _ _ _ _ => ⟨_, rfl, rfl⟩)) rfl (by decide) (fun _ _ _ _ _ _ _ _ hr => (pa_cons (pe_var (i := 0) rfl (.inr (.inr rfl))) (pa_cons pe_int (pa_cons pe_int pa_nil))))), capt_by (by decide +kernel) (by decide +kernel)⟩) pa_nil))))
    (pss_one (ps_ret (pe_and (pe_cmpR op_isBl (pe_good G_is_timing (hr.mono (by decide)) (pa_cons (pv 0) pa_nil)) pe_bl (nomark _)) (pe_one (pe_cmpR (op_eqD hr.units) (pe_lcS (own := [("_law_ask", 2)]) (g := gName 2) rfl sc__law_are_refused.nd (pi_list (pv 1)) (blkOk_by (N := n__law_are_refused) (sc := defScope s__law_are_refused) (by decide +kernel)) (fun _ _ _ _ _ => (pg_name (i := 2) sc__law_are_refused.nd rfl (Or.inl rfl))) (fun _ _ _ _ _ _ _ I hf => pe_saidN T (k := 8) (i := 2) rfl rfl rfl rfl rfl I hf (hr.mono (by decide)) rfl (.inl rfl) rfl)) (pe_op op_rep (pe_lst (pa_cons pe_str pa_nil)) pe_int) (nomark _))))))), ?_⟩)⟩
  · rintro vs H Q E ⟨_, _, rfl, _⟩; rfl
  obtain ⟨v, d, rfl, hd, hc, hT, k⟩ := h
  rw [st__law_are_refused]; try dsimp only [L2.cxOf]
  walk_at "gn"
  refine lmR_ hT fun g0 G1 L0 d0 y1 T1 w0 r0 => ?_
  walk_at "gn"
  refine lmR_ T1 fun g1 G2 L1 d1 y2 T2 w1 r1 => ?_
  walk_at "gn"
  rename_i pl G4 n4 s4 t4
  have e4 : LamX.ExtN H G4 := (y1.trans y2).trans (LamX.ExtN.of s4)
  have ob4 := Od.ext e4 _ _ hd
  refine od_ ob4 fun G5 s5 => ?_
  rw [hc]
  walk_at "gn"
  refine ib_ ?_
  walk_at "gn"
  refine xlcS ?_
  walk_at "gn"
  have t5 := s5 _ _ t4
  refine lcAsk (o := .str "timing") (by simp only [List.length_cons, List.length_nil]; omega) (SqL.tr t5) (by simp only [List.length_cons, List.length_nil]; omega) ?_ fun D9 G9 n9 s9 t9 => ?_
  · intro x hx
    simp only [List.mem_cons, List.not_mem_nil, or_false] at hx
    rcases hx with rfl | rfl
    · refine ⟨g0, L0, d0, _, rfl, w0.ext (y2.trans (LamX.ExtN.of (s4.trans s5))), r0, fun G Q' eG hq => ?_⟩
      try dsimp only
      refine tcS_ ?_
      walk_at "gn"
      exact ⟨_, rfl, .inr ⟨d, Od.same (s5.trans eG) _ _ ob4, hc, fun F g => ⟨("NoTiming", "timing"), by simp [saidPr], rfl, hq _ g⟩⟩⟩
    · refine ⟨g1, L1, d1, _, rfl, w1.ext (LamX.ExtN.of (s4.trans s5)), r1, fun G Q' eG hq => ?_⟩
      try dsimp only
      refine tcS_ ?_
      walk_at "gn"
      exact ⟨_, _, _, rfl, .inr (.inl ⟨d, Od.same (s5.trans eG) _ _ ob4, hc, fun F g => ⟨("NoTiming", "timing"), by simp [saidPr], rfl, hq _ g⟩⟩)⟩
  walk_at "gn"
  rename_i bl G10 n10 s10 t10
  refine repLs_ t10 (by decide) (by decide) (by simp) fun r G11 n11 s11 t11 => ?_
  refine eqLL_ (n := 2) (dpR (d := .str "timing") (n := 2) (.str _) (SqL.tr ((s10.trans s11) _ _ t9))) (dpR (d := .str "timing") (n := 2) (.str _) (SqL.tr t11)) (OkD.lst (okR (OkD.str (by decide +kernel)) 2)) (by decide) ?_
  have s4B := (((s4.trans s5).trans s9).trans s10).trans s11
  exact k _ ((y1.trans y2).trans (LamX.ExtN.of s4B)) (T2.ext s4B)

/-! ### right timings, and what is made of their parts -/
theorem tabsF {Tb : List (Addr × Str)} {a : Addr} {H H1 : Hp} (s : Src H a) (f : Frm a H H1) (T : LamX.Tabs Tb H) : LamX.Tabs Tb H1 := fun p hp => by
  obtain ⟨i, j, k, h⟩ := s
  obtain ⟨ps, h1, h2, h3⟩ := T p hp
  refine ⟨ps, f _ _ (fun z => ?_) h1, h2, fun pos cv hcv => ?_⟩
  · rw [z, h] at h1
    cases h1
  · obtain ⟨c, e, hc⟩ := h3 pos cv hcv
    refine ⟨c, e, f _ _ (fun z => ?_) hc⟩
    rw [z, h] at hc
    cases hc
theorem listT_ {K : PySem.W.Frag} {p : Addr} {xs : List V} {H : Hp} {Q : VK} (h : SqT K H p xs) (q : ∀ l H', H l = none → Same H H' → H' l = some (.lst xs) → Q (.ref l) H') : rListX K [.ref p] H Q := ⟨p, xs, rfl, .inr h, fun l hl => q l _ hl (same_upd hl) upd_same⟩
theorem catA_ {K : PySem.W.Frag} {a b : Addr} {xs ys : List V} {H : Hp} {Q : VK} (h1 : SqT K H a xs) (h2 : SqT K H b ys) (l : xs.length + ys.length ≤ 10000) (q : ∀ r H', Same H H' → SqT K H' r (xs ++ ys) → Q (.ref r) H') : rCatA K (.ref a) (.ref b) H Q := by
  refine ⟨a, b, xs, ys, rfl, rfl, h1, h2, szN l, fun e => ?_, fun _ e => ?_, fun _ _ p hp => q p _ (same_upd hp) (SqT.tr upd_same)⟩
  · subst e
    exact q b H (Same.refl _) h2
  · subst e
    exact q a H (Same.refl _) (by rw [List.append_nil]; exact h1)
theorem odTake {K : PySem.W.Frag} {H : Hp} : ∀ {n : Nat} {xs : List V} {ds : List OV}, OdAll K H xs ds → OdAll K H (xs.take n) (ds.take n)
  | 0, _, _, _ => by simp only [List.take_zero]; exact .nil
  | _ + 1, [], [], h => h
  | _ + 1, _ :: _, _ :: _, .cons a b => .cons a (odTake b)
theorem odDropN {K : PySem.W.Frag} {H : Hp} : ∀ {n : Nat} {xs : List V} {ds : List OV}, OdAll K H xs ds → OdAll K H (xs.drop n) (ds.drop n)
  | 0, _, _, h => h
  | _ + 1, [], [], h => h
  | _ + 1, _ :: _, _ :: _, .cons _ b => by
    rw [List.drop_succ_cons, List.drop_succ_cons]
    exact odDropN b
theorem odRev {K : PySem.W.Frag} {H : Hp} : ∀ {xs : List V} {ds : List OV}, OdAll K H xs ds → OdAll K H xs.reverse ds.reverse
  | [], [], h => h
  | _ :: _, _ :: _, .cons a b => by
    rw [List.reverse_cons, List.reverse_cons]
    exact odApp (odRev b) (.cons a .nil)
theorem cutK {xs : List V} {i : Nat} (h : xs.length = 8) (hi : i < 8) : cutV xs none (some (0 + (i : Int))) = xs.take i ∧ cutV xs (some (0 + (i : Int) + 1)) none = xs.drop (i + 1) ∧ ¬ (HT.sIx xs.length 0 none = 0 ∧ HT.sIx xs.length xs.length (some (0 + (i : Int))) = xs.length) ∧ ¬ (HT.sIx xs.length 0 (some (0 + (i : Int) + 1)) = 0 ∧ HT.sIx xs.length xs.length none = xs.length) := by
  have e1 : (0 + (i : Int)) = ((i : Nat) : Int) := by omega
  have e2 : (0 + (i : Int) + 1) = ((i + 1 : Nat) : Int) := by omega
  rw [e1]
  have e3 : ((i : Nat) : Int) + 1 = ((i + 1 : Nat) : Int) := by omega
  rw [e3]
  refine ⟨?_, ?_, ?_, ?_⟩
  · unfold cutV
    rw [HT.sIx_nat, HT.sIx_none, h, List.drop_zero, Nat.sub_zero, Nat.min_eq_left (by omega)]
  · unfold cutV
    rw [HT.sIx_nat, HT.sIx_none, h, Nat.min_eq_left (by omega), List.take_of_length_le (by rw [List.length_drop]; omega)]
  · rw [HT.sIx_nat, HT.sIx_none, h]
    omega
  · rw [HT.sIx_nat, HT.sIx_none, h]
    omega
theorem cv_norat {d : OV} (h : d.cvB = true) : d.ratB = false := by
  cases d with
  | tup l =>
    match l, h with
    | [], h => cases h
    | a :: r, h =>
      have h : cvK a r = true := h
      cases a with
      | str s =>
        match r with
        | [] => rfl
        | [_] => rfl
        | _ :: _ :: _ => rfl
      | _ => cases h
  | _ => cases h
/-- a timing's items, one of them exchanged, one left out, one more, all from behind -/
theorem tm_parts {ds : List OV} (h : (OV.tup ds).tmB = true) : ds.length = 8 ∧ (∀ i b, i < 8 → partB i b = false → (OV.tup (ds.take i ++ [b] ++ ds.drop (i + 1))).tmB = false) ∧ (OV.tup ds.reverse).tmB = false := by
  have hl : ds.length = 8 := by
    by_cases c : ds.length = 8
    · exact c
    · have z : (OV.tup ds).tmB = false := tmL_len c
      rw [z] at h
      cases h
  refine ⟨hl, ?_, ?_⟩
  · intro i b hi hb
    match ds, hl with
    | [d0, d1, d2, d3, d4, d5, d6, d7], _ =>
      rcases (by omega : i = 0 ∨ i = 1 ∨ i = 2 ∨ i = 3 ∨ i = 4 ∨ i = 5 ∨ i = 6 ∨ i = 7) with rfl | rfl | rfl | rfl | rfl | rfl | rfl | rfl
      · show (partB 0 b && _) = false
        rw [hb] <;> rfl
      · show (partB 0 d0 && (partB 1 b && _)) = false
        rw [hb, Bool.false_and, Bool.and_false]
      · show (partB 0 d0 && (partB 1 d1 && (partB 2 b && _))) = false
        rw [hb, Bool.false_and, Bool.and_false, Bool.and_false]
      · show (partB 0 d0 && (partB 1 d1 && (partB 2 d2 && (partB 3 b && _)))) = false
        rw [hb, Bool.false_and, Bool.and_false, Bool.and_false, Bool.and_false]
      · show (partB 0 d0 && (partB 1 d1 && (partB 2 d2 && (partB 3 d3 && (partB 4 b && _))))) = false
        rw [hb, Bool.false_and, Bool.and_false, Bool.and_false, Bool.and_false, Bool.and_false]
      · show (partB 0 d0 && (partB 1 d1 && (partB 2 d2 && (partB 3 d3 && (partB 4 d4 && (partB 5 b && _)))))) = false
        rw [hb, Bool.false_and, Bool.and_false, Bool.and_false, Bool.and_false, Bool.and_false, Bool.and_false]
      · show (partB 0 d0 && (partB 1 d1 && (partB 2 d2 && (partB 3 d3 && (partB 4 d4 && (partB 5 d5 && (partB 6 b && _))))))) = false
        rw [hb, Bool.false_and, Bool.and_false, Bool.and_false, Bool.and_false, Bool.and_false, Bool.and_false, Bool.and_false]
      · show (partB 0 d0 && (partB 1 d1 && (partB 2 d2 && (partB 3 d3 && (partB 4 d4 && (partB 5 d5 && (partB 6 d6 && partB 7 b))))))) = false
        rw [hb, Bool.and_false, Bool.and_false, Bool.and_false, Bool.and_false, Bool.and_false, Bool.and_false, Bool.and_false]
  · match ds, hl with
    | [d0, d1, d2, d3, d4, d5, d6, d7], _ =>
      have h : (partB 0 d0 && (partB 1 d1 && (partB 2 d2 && (partB 3 d3 && (partB 4 d4 && (partB 5 d5 && (partB 6 d6 && d7.cvB))))))) = true := h
      have c7 : d7.cvB = true := by
        simp only [Bool.and_eq_true] at h
        exact h.2.2.2.2.2.2.2
      show (d7.ratB && _) = false
      rw [cv_norat c7] <;> rfl
def odN : List OV := [.int 0, .bl true, .str "endless", .tup [.int 2, .int 4], .lst [.int 0, .int 1], .tup [.int 1, .int 0], .dct, .tup [.int 1, .int (-2)], .tup [.bl true, .int 1]]
theorem odN_no : ∀ d ∈ odN, d.isN = false ∧ d.ratB = false := by
  have h : odN.all (fun d => !d.isN && !d.ratB) = true := by decide +kernel
  intro d hd
  have z := List.all_eq_true.mp h d hd
  simpa using z
def odS : List OV := [.non, .int 0, .int 2, .bl true, .str "1", .lst [.int 1], .tup [.int 1, .int 1], .dct, .int (-2)]
theorem odS_no : ∀ d ∈ odS, d.sgB = false := by
  have h : odS.all (fun d => !d.sgB) = true := by decide +kernel
  intro d hd
  have z := List.all_eq_true.mp h d hd
  simpa using z
theorem neS_ {x : Str} {H : Hp} {Q : VK} (q : Q (.bl false) H) : rNe (.str x) (.str x) H Q := ⟨rfl, by
  rw [decide_eq_true rfl]
  exact q⟩
local macro_rules | `(tactic| walk_at "odt") => `(tactic| first
  | exact Od.dct (by assumption) | exact Od.dctS (by assumption) (by walk_at "same") | exact Od.non | exact Od.int _ | exact Od.bl _ | exact Od.str _ | exact OdAll.nil
  | (with_reducible apply OdAll.cons; walk_at "odt"; walk_at "odt")
  | (with_reducible apply Od.tup; walk_at "sq"; walk_at "odt")
  | (with_reducible apply Od.lst; walk_at "sl"; walk_at "odt"))
def ovT (t : Tm) : List OV := OV.ofs [frD t.delay, frD t.behind, .str t.fill.s, frD t.first, duD t.times, loD t.length, .str t.way.s, cvD t.curve]
theorem It.tmS {K : PySem.W.Frag} {H : Hp} {p : Addr} {t : Tm} (h : It K H (.ref p) (tmD t)) : ∃ ms, SqT K H p ms ∧ OdAll K H ms (ovT t) := by
  cases h with
  | tup s a => exact ⟨_, s, It.ods _ _ a⟩
theorem extFtp {K : PySem.W.Frag} {a : Addr} {H H' : Hp} (s : Src H a) (e : ExtF a H H') : Tp K H H' := fun b xs h => by
  obtain ⟨i, j, k, hs⟩ := s
  rcases h with (h | ⟨o, h⟩) | h
  · exact .inl (.inl (e _ _ (fun z => by rw [z, hs] at h; cases h) h fun _ z => by cases z))
  · exact .inl (.inr ⟨o, e _ _ (fun z => by rw [z, hs] at h; cases h) h fun _ z => by cases z⟩)
  · exact .inr h
def RevP (K : PySem.W.Frag) (Q : VK) : VK := fun x H1 => ∃ a xs, x = .ref a ∧ SqT K H1 a xs ∧ ∀ p, H1 p = none → Q (.ref p) (upd H1 p (.tup xs.reverse))
theorem xrevP {K : PySem.W.Frag} {te : TE} {σ : L2.St} {H : Hp} {Q : VK} (q : te σ H (RevP K Q)) : tRevT K te σ H Q := q
theorem revT_ {K : PySem.W.Frag} {p : Addr} {xs : List V} {H : Hp} {Q : VK} (h : SqT K H p xs) (q : ∀ c H', H c = none → Same H H' → H' c = some (.tup xs.reverse) → Q (.ref c) H') : RevP K Q (.ref p) H := ⟨p, xs, rfl, h, fun c hc => q c _ hc (same_upd hc) upd_same⟩
def spRightT (K : PySem.W.Frag) (Tb : List (Addr × Str)) : Sp := fun vs H Q _ => ∃ a : Addr, vs = [.ref a] ∧ Src H a ∧ LamX.Tabs Tb H ∧ ∀ H', ExtF a H H' → Src H' a → LamX.Tabs Tb H' → Q (.bl true) H'
theorem ok__law_right (T : Txt K mg) {Tb : List (Addr × Str)} (TL : TxtL K mg base Tb) : Good P w K mg base "_law_right" 14 ["_law_source_here"] (spRightT K Tb) := by
  have G__law_timing := ok__law_timing (P := P) (w := w) (base := base) T
  have G_edges := edges_calm (P := P) (w := w) (base := base) T
  have GC_is_timing := ok_is_timing (P := P) (w := w) (base := base) T
  have G_is_timing := GC_is_timing.good
  have G__law_one := ok__law_one (P := P) (w := w) (base := base) T
  have G__law_odd_parts := ok__law_odd_parts (P := P) (w := w) (base := base) T
  have G__law_are_refused := ok__law_are_refused (P := P) (w := w) (base := base) T TL
  have G__law_any_part := ok__law_any_part (P := P) (w := w) (base := base) T
  have G_told_at := told_at_calm (P := P) (w := w) (base := base) T
  obtain ⟨c, Pt, ⟨fd, F, hcd⟩, TB, hmT, hu⟩ := TL.at_ d__law_right (by simp)
  have z0 : ∀ H, SqT K H (He.ga K "ZERO") (fr 0) := T.zero
  have z1 : ∀ H, SqT K H (He.ga K "ONE") (fr 1) := T.one
  refine ⟨(dk__law_right T).1, F.kp, fd, F.bindsN (fun _ _ _ _ _ _ us hl => match us, hl with | [_], _ => rfl), funD_okC F hcd sc__law_right ?_ (fun A outer s H vs Q E hr h => ⟨_, PSs.nox (pss_cons (ps_set (i := 1) sc__law_right.nd rfl (Or.inr rfl) (pe_good G__law_timing (hr.mono (by decide)) (pa_cons (pv 0) pa_nil)))
    (pss_cons (ps_if (PW.pt (pw_or (pt_cmpR op_notBl (pe_good G_is_timing (hr.mono (by decide)) (pa_cons (pv 1) pa_nil)) pe_bl (nomark _)) (pw_or (pt_cmpR op_notBl (pe_goodC GC_is_timing (hr.mono (by decide)) (pk_cons (pv 1) pk_nil)) pe_bl (nomark _)) (pw_or1 (pt_not (pt_val (pe_callB call_isi (by rfl) (m_isinstance T) bt_isinstance (pa_cons (pe_good G_edges (hr.mono (by decide)) (pa_cons (pv 1) pa_nil)) (pa_cons (pe_bltn (v := .ty "tuple") (by rfl) (m_tuple T) bt_tuple rfl) pa_nil))))))))) (pss_one (ps_ret pe_bl)) pss_nil)
    (pss_cons (ps_for PassesOwn.never rfl (pi_list (pe_lst (pa_cons pe_int (pa_cons pe_bl (pa_cons pe_str (pa_cons (pe_tup (pa_cons pe_int (pa_cons pe_int pa_nil))) (pa_cons (pe_lst (pa_cons pe_int (pa_cons pe_int pa_nil))) (pa_cons (pe_tup (pa_cons pe_int (pa_cons pe_int pa_nil))) (pa_cons pe_dnewK (pa_cons (pe_tup (pa_cons pe_int (pa_cons (pe_un un_neg pe_int) pa_nil))) (pa_cons (pe_tup (pa_cons pe_bl (pa_cons pe_int pa_nil))) pa_nil))))))))))) (pg_name (i := 2) sc__law_right.nd rfl (Or.inr rfl))
      (pss_one (ps_if (pt_cmpR op_ne (pe_saidL T rfl rfl rfl rfl rfl rfl TB rfl hmT hu (hr.mono (by decide)) rfl (by decide +kernel) (lamF_by (defScope s__law_right) (by decide +kernel)) (by decide +kernel) (runsG (k' := 8) (ok_told_at T).good (by decide) ⟨rfl, rfl, rfl, by decide +kernel, lamL_by n__law_right (by decide +kernel)⟩ (bds0 (fun _ _ _ _ => rfl)) rfl (by decide) (fun _ _ _ _ _ _ _ _ hr => (pa_cons (pe_var (i := 1) rfl (.inr (.inr rfl))) (pa_cons (pe_var (i := 2) rfl (.inr (.inr rfl))) (pa_cons pe_int pa_nil)))))) pe_str (nomark _)) (pss_one (ps_ret pe_bl)) pss_nil)))
    (pss_cons (ps_for PassesOwn.never rfl (pi_list (pe_lst (pa_cons pe_non (pa_cons pe_int (pa_cons pe_int (pa_cons pe_bl (pa_cons pe_str (pa_cons (pe_lst (pa_cons pe_int pa_nil)) (pa_cons (pe_tup (pa_cons pe_int (pa_cons pe_int pa_nil))) (pa_cons pe_dnewK (pa_cons (pe_un un_neg pe_int) pa_nil))))))))))) (pg_name (i := 2) sc__law_right.nd rfl (Or.inr rfl))
      (pss_one (ps_if (pt_cmpR op_ne (pe_saidL T rfl rfl rfl rfl rfl rfl TB rfl hmT hu (hr.mono (by decide)) rfl (by decide +kernel) (lamF_by (defScope s__law_right) (by decide +kernel)) (by decide +kernel) (runsG (k' := 8) (ok_told_at T).good (by decide) ⟨rfl, rfl, rfl, by decide +kernel, lamL_by n__law_right (by decide +kernel)⟩ (bds0 (fun _ _ _ _ => rfl)) rfl (by decide) (fun _ _ _ _ _ _ _ _ hr => (pa_cons (pe_var (i := 1) rfl (.inr (.inr rfl))) (pa_cons (pe_good G__law_one (hr.mono (by decide)) (pa_cons (pe_var (i := 0) rfl (.inr (.inr rfl))) (pa_cons (pe_tup (pa_cons pe_non (pa_cons (pe_tup (pa_cons pe_int (pa_cons pe_int pa_nil))) (pa_cons (pe_tup (pa_cons (pe_un un_neg pe_int) (pa_cons pe_int pa_nil))) pa_nil)))) pa_nil))) (pa_cons (pe_var (i := 2) rfl (.inr (.inr rfl))) pa_nil)))))) pe_str (nomark _)) (pss_one (ps_ret pe_bl)) pss_nil)))
    (pss_cons (ps_for PassesOwn.never rfl (pi_range1 rfl (m_range T) (pa_cons pe_int pa_nil)) (pg_name (i := 3) sc__law_right.nd rfl (Or.inl rfl))
      (pss_cons (ps_for PassesOwn.never rfl (pi_list (pe_good G__law_odd_parts (hr.mono (by decide)) (pa_cons (pv 3) pa_nil))) (pg_name (i := 2) sc__law_right.nd rfl (Or.inr rfl))
      (pss_one (ps_if (pt_not (pt_val (pe_good G__law_are_refused (hr.mono (by decide)) (pa_cons (pe_op op_catA (pe_op op_catA (pe_slice sl_tup (pv 1) po_none (po_some (pv 3))) (pe_tup (pa_cons (pv 2) pa_nil))) (pe_slice sl_tup (pv 1) (po_some (pe_op op_add (pv 3) pe_int)) po_none)) pa_nil)))) (pss_one (ps_ret pe_bl)) pss_nil)))
    (pss_one (ps_if (pt_not (pt_val (pe_good G__law_are_refused (hr.mono (by decide)) (pa_cons (pe_op op_catA (pe_slice sl_tup (pv 1) po_none (po_some (pv 3))) (pe_slice sl_tup (pv 1) (po_some (pe_op op_add (pv 3) pe_int)) po_none)) pa_nil)))) (pss_one (ps_ret pe_bl)) pss_nil))))
    (pss_cons (ps_for PassesOwn.never rfl (pi_list (pe_lst (pa_cons (pe_callTy cr_list (by rfl) (m_list T) bt_list (pa_cons (pv 1) pa_nil)) (pa_cons (pe_op op_catT (pv 1) (pe_tup (pa_cons pe_non pa_nil))) (pa_cons (pe_tup (pa_cons (pv 1) pa_nil)) (pa_cons (pe_revT (pv 1)) pa_nil)))))) (pg_name (i := 2) sc__law_right.nd rfl (Or.inr rfl))
      (pss_one (ps_if (pt_not (pt_val (pe_good G__law_are_refused (hr.mono (by decide)) (pa_cons (pv 2) pa_nil)))) (pss_one (ps_ret pe_bl)) pss_nil)))
    (pss_cons (ps_set (i := 4) sc__law_right.nd rfl (Or.inl rfl) (pe_good G__law_any_part (hr.mono (by decide)) (pa_cons (pv 0) pa_nil)))
    (pss_one (ps_ret (pe_and (pe_cmpR (op_eqD hr.units) (pe_goodXK (ok_edges T) (calmE K) (hr.mono (by decide)) (pk_cons (pv 1) pk_nil)) (pe_good G_edges (hr.mono (by decide)) (pa_cons (pv 1) pa_nil)) (nomark _)) (pe_one (pe_cmpR (op_eqD hr.units) (pe_goodXK (ok_told_at T) (calmT K) (hr.mono (by decide)) (pk_cons (pe_un un_neg pe_int) (pk_cons (pv 4) (pk_cons (pv 1) pk_nil)))) (pe_good G_told_at (hr.mono (by decide)) (pa_cons (pv 1) (pa_cons (pv 4) (pa_cons (pe_un un_neg pe_int) pa_nil)))) (nomark _))))))))))))), ?_⟩)⟩
  · rintro vs H Q E ⟨_, rfl, _⟩; rfl
  obtain ⟨a, rfl, hs, hT, k⟩ := h
  rw [st__law_right]; try dsimp only [L2.cxOf]
  walk_at "gn"
  refine ⟨a, rfl, hs, fun pm t H1 hm ok s1 f1' => ?_⟩
  have T1 := tabsF hs f1' hT
  have hc : (OV.of (tmD t)).tmB = true := tmB_of ok
  have hd : Od K H1 (.ref pm) (OV.of (tmD t)) := It.od _ _ hm
  obtain ⟨hl, hput, hrev⟩ := tm_parts (ds := ovT t) hc
  walk_at "gn"
  refine xor ?_
  walk_at "gn"
  refine od_ hd fun H2 e2 => ?_
  rw [hc]
  walk_at "gn"
  refine nb_ ?_
  refine ⟨_, rfl, ?_⟩
  walk_at "gn"
  refine xor ?_
  walk_at "gn"
  refine xkwC ?_
  walk_at "gn"
  refine kwC1_ ?_
  refine od_ (Od.same e2 _ _ hd) fun H3 e3 => ?_
  rw [hc]
  walk_at "gn"
  refine nb_ ?_
  refine ⟨_, rfl, ?_⟩
  have e13 := e2.trans e3
  walk_at "gn"
  refine edges_ 31 31 (hm.same e13) ok (by decide) (by decide) fun pe H4 e4 he => ?_
  obtain ⟨_, xe, ze, hxe, _⟩ := It.tupI he
  cases ze
  walk_at "gn"
  refine newK_ fun pd H5 n5 e5 t5 => ?_
  walk_at "gn"
  rename_i q1 A1 m1 r1 u1 q2 A2 m2 r2 u2 q3 A3 m3 r3 u3 q4 A4 m4 r4 u4 q5 A5 m5 r5 u5 pl Hl ml rl ul
  have odN0 : OdAll K Hl [.int 0, .bl true, .str "endless", .ref q1, .ref q2, .ref q3, .ref pd, .ref q4, .ref q5] odN := by
    unfold odN
    walk_at "odt"
  have c4 : Same H4 Hl := by walk_at "same"
  have e1l : Same H1 Hl := (e13.trans e4).trans c4
  have Tl := T1.ext e1l
  clear c4 m1 r1 u1 m2 r2 u2 m3 r3 u3 m4 r4 u4 m5 r5 u5 ml rl n5 e5 t5 he hxe e4 e13 e2 e3
  refine forL_ (SqL.tr ul) (fun i σ' H' => (∃ o, σ' = [some (.ref a), some (.ref pm), o, none, none]) ∧ LamX.ExtN Hl H' ∧ LamX.Tabs Tb H') ⟨⟨_, rfl⟩, LamX.ExtN.refl _, Tl⟩ (fun i σ' H' _ z => extL z.2.1 (SqL.tr ul)) ?_ ?_
  · rintro i x σ' H' hx ⟨⟨o, rfl⟩, e, TH⟩
    obtain ⟨b, mb, ob⟩ := OdAll.mem odN0 hx
    obtain ⟨nb, rb⟩ := odN_no b mb
    walk_at "gn"
    refine ⟨TH, fun G2 g2 T2 => tcS_ ?_⟩
    have e02 := e.trans g2
    walk_at "gn"
    refine ⟨_, _, _, rfl, .inr (.inr (.inl ⟨_, b, Od.ext ((LamX.ExtN.of e1l).trans e02) _ _ hd, hc, Od.ext e02 _ _ ob, nb, rb, fun G3 g3 => ⟨("NoNumber", "number"), by simp [saidPr], rfl, ?_⟩⟩))⟩
    refine neS_ ?_
    walk_at "gn"
    exact ⟨⟨_, rfl⟩, e02.trans (LamX.ExtN.of g3), T2.ext g3⟩
  rintro σ' H' ⟨⟨o, rfl⟩, e, TH⟩
  have e1a : LamX.ExtN H1 H' := (LamX.ExtN.of e1l).trans e
  have sa := extSrc s1 e1a
  have hma := hm.st (Tp.ext (K := K) e1a)
  clear odN0 ul Tl
  walk_at "gn"
  refine newK_ fun pd2 B5 n5 e5 t5 => ?_
  walk_at "gn"
  rename_i w1 B1 m1 r1 u1 w2 B2 m2 r2 u2 pl2 Bl ml rl ul
  have c2 : Same B2 Bl := e5.trans rl
  have c1 : Same B1 Bl := r2.trans c2
  have cB : Same H' Bl := r1.trans c1
  have c5 : Same B5 Bl := rl
  have na1 : w1 ≠ a := sa.ne m1
  have na2 : pd2 ≠ a := (Same.src (r1.trans r2) sa).ne n5
  have na3 : pl2 ≠ a := (Same.src ((r1.trans r2).trans e5) sa).ne ml
  have hx2 : ∀ G, ExtF a Bl G → OdAll K G [.non, .int 0, .int 2, .bl true, .str "1", .ref w1, .ref w2, .ref pd2, .int (-2)] odS := fun G x =>
    .cons .non (.cons (.int _) (.cons (.int _) (.cons (.bl _) (.cons (.str _) (.cons (.lst (SqL.tr (x _ _ na1 (c1 _ _ u1) fun _ z => by cases z)) (.cons (.int _) .nil)) (.cons (.tup (extFtp (Same.src cB sa) x _ _ (SqT.tr (c2 _ _ u2))) (.cons (.int _) (.cons (.int _) .nil))) (.cons (.dct (x _ _ na2 (c5 _ _ t5) fun _ z => by cases z)) (.cons (.int _) .nil))))))))
  have sB := Same.src cB sa
  have TB' := TH.ext cB
  have hmB := hma.same cB
  clear c1 c2 c5 m1 r1 u1 m2 r2 u2 n5 e5 t5 ml rl na1 na2
  refine forL_ (SqL.tr ul) (fun i σ' G => (∃ o, σ' = [some (.ref a), some (.ref pm), o, none, none]) ∧ ExtF a Bl G ∧ Src G a ∧ LamX.Tabs Tb G) ⟨⟨_, rfl⟩, ExtF.refl, sB, TB'⟩ (fun i σ' G _ z => SqL.tr (z.2.1 _ _ na3 ul fun _ z => by cases z)) ?_ ?_
  · rintro i x σ' G0 hx ⟨⟨o, rfl⟩, xB, sG, TG⟩
    walk_at "gn"
    refine ⟨TG, fun G2 g2 T2 => tcS_ ?_⟩
    walk_at "gn"
    rename_i c1 C1 m1 r1 u1 c2 C2 m2 r2 u2 c3 C3 m3 r3 u3
    have sC : Src C3 a := Same.src ((r1.trans r2).trans r3) (extSrc sG g2)
    have TC := ((T2.ext r1).ext r2).ext r3
    have xC : ExtF a Bl C3 := (xB.trans (ExtF.ext g2)).trans (ExtF.same ((r1.trans r2).trans r3))
    have y1 : SqT K C3 c1 [.int 1, .int 3] := SqT.tr ((r2.trans r3) _ _ u1)
    have y2 : SqT K C3 c2 [.int (-5), .int 1] := SqT.tr (r3 _ _ u2)
    clear m1 r1 u1 m2 r2 u2 m3 r3 T2 g2 TG
    refine one_ (xs := [.non, .ref c1, .ref c2]) sC (.inr (SqT.tr u3)) (by simp) (by simp) fun v D mv sD fD => ?_
    have xD : ExtF a Bl D := xC.trans (ExtF.frm fD)
    have TD := tabsF sC fD TC
    have hmD := hmB.st (extFtp (K := K) sB xD)
    have hdD : Od K D (.ref pm) (OV.of (tmD t)) := It.od _ _ hmD
    obtain ⟨tb, hbt, rbt⟩ : ∃ tb : OV, Od K D v tb ∧ (tb.isN || tb.ratB) = true := mem3' (P := fun v => ∃ tb : OV, Od K D v tb ∧ (tb.isN || tb.ratB) = true) mv ⟨.non, .non, rfl⟩ ⟨.tup [.int 1, .int 3], .tup (Frm.sqT fD sC y1) (.cons (.int _) (.cons (.int _) .nil)), by decide +kernel⟩ ⟨.tup [.int (-5), .int 1], .tup (Frm.sqT fD sC y2) (.cons (.int _) (.cons (.int _) .nil)), by decide +kernel⟩
    obtain ⟨b, mb, ob⟩ := OdAll.mem (hx2 D xD) hx
    have sb := odS_no b mb
    walk_at "gn"
    refine ⟨_, _, _, rfl, .inr (.inr (.inr ⟨_, tb, b, hdD, hc, hbt, rbt, ob, sb, fun F g => ⟨("NoSign", "sign"), by simp [saidPr], rfl, ?_⟩⟩))⟩
    refine neS_ ?_
    walk_at "gn"
    exact ⟨⟨_, rfl⟩, xD.trans (ExtF.same g), Same.src g sD, TD.ext g⟩
  rintro σ' G0 ⟨⟨o, rfl⟩, xG, sG, TG⟩
  have hmG := hmB.st (extFtp (K := K) sB xG)
  obtain ⟨ms, hms, al⟩ := It.tmS hmG
  have ml : ms.length = 8 := by rw [al.len, hl]
  have x1G : ExtF a H1 G0 := ((ExtF.ext e1a).trans (ExtF.same cB)).trans xG
  clear hx2 ul na3 TB' hmB hma xG cB
  walk_at "gn"
  refine forR_ (fun i σ' G => (∃ o p, σ' = [some (.ref a), some (.ref pm), o, p, none]) ∧ LamX.ExtN G0 G ∧ LamX.Tabs Tb G) ⟨⟨_, _, rfl⟩, LamX.ExtN.refl _, TG⟩ ?_ ?_
  · rintro i σ' G hi ⟨⟨o2, o3, rfl⟩, eG, TH⟩
    have hi8 : i < 8 := hi
    have idx : (0 + (i : Int)).toNat = i := by omega
    obtain ⟨y1, y2, y3, y4⟩ := cutK ml hi8
    walk_at "gn"
    refine ⟨0 + (i : Int), rfl, by omega, fun po ys os H6 e6 t6 al6 no6 => ?_⟩
    rw [idx] at no6
    refine forL_ (SqL.tr t6) (fun j σ' H' => (∃ o, σ' = [some (.ref a), some (.ref pm), o, some (.int (0 + (i : Int))), none]) ∧ LamX.ExtN H6 H' ∧ LamX.Tabs Tb H') ⟨⟨_, rfl⟩, LamX.ExtN.refl _, TH.ext e6⟩ (fun j σ' H' _ z => extL z.2.1 (SqL.tr t6)) ?_ ?_
    · rintro j x σ'' H7 hx ⟨⟨o, rfl⟩, e7, T7⟩
      obtain ⟨b, mb, ob⟩ := OdAll.mem al6 hx
      have nb := no6 b mb
      have e07 : LamX.ExtN G0 H7 := (eG.trans (LamX.ExtN.of e6)).trans e7
      have hm7 := extT e07 hms
      have al7 := OdAll.ext e07 _ _ al
      have ob7 := Od.ext e7 _ _ ob
      walk_at "gn"
      refine slT_ (ms.take i) hm7 y1 y3 fun p1 K1 n1 g1 u1 => ?_
      walk_at "gn"
      rename_i p2 K2 n2 g2 u2
      refine catA_ (SqT.tr (g2 _ _ u1)) (SqT.tr u2) (by rw [List.length_take]; simp only [List.length_cons, List.length_nil]; omega) fun r1 K3 g3 v3 => ?_
      have g03 := (g1.trans g2).trans g3
      walk_at "gn"
      refine slT_ (ms.drop (i + 1)) (Same.sqT g03 hm7) y2 y4 fun p4 K4 n4 g4 u4 => ?_
      walk_at "gn"
      refine catA_ (Same.sqT g4 v3) (SqT.tr u4) (by rw [List.length_append, List.length_take, List.length_drop]; simp only [List.length_cons, List.length_nil]; omega) fun r5 K5 g5 v5 => ?_
      have g05 := (g03.trans g4).trans g5
      walk_at "gn"
      refine ⟨_, _, rfl, .tup v5 (odApp (odApp (odTake (OdAll.same g05 _ _ al7)) (.cons (Od.same g05 _ _ ob7) .nil)) (odDropN (OdAll.same g05 _ _ al7))), hput i b hi8 nb, T7.ext g05, fun K6 g6 T6 => ?_⟩
      walk_at "gn"
      exact ⟨⟨_, rfl⟩, (e7.trans (LamX.ExtN.of g05)).trans g6, T6⟩
    · rintro σ'' H7 ⟨⟨o, rfl⟩, e7, T7⟩
      have e07 : LamX.ExtN G0 H7 := (eG.trans (LamX.ExtN.of e6)).trans e7
      have hm7 := extT e07 hms
      have al7 := OdAll.ext e07 _ _ al
      walk_at "gn"
      refine slT_ (ms.take i) hm7 y1 y3 fun p1 K1 n1 g1 u1 => ?_
      walk_at "gn"
      refine slT_ (ms.drop (i + 1)) (Same.sqT g1 hm7) y2 y4 fun p4 K4 n4 g4 u4 => ?_
      walk_at "gn"
      refine catA_ (SqT.tr (g4 _ _ u1)) (SqT.tr u4) (by rw [List.length_take, List.length_drop]; omega) fun r5 K5 g5 v5 => ?_
      have g05 := (g1.trans g4).trans g5
      walk_at "gn"
      refine ⟨_, _, rfl, .tup v5 (odApp (odTake (OdAll.same g05 _ _ al7)) (odDropN (OdAll.same g05 _ _ al7))), tmL_len (by rw [List.length_append, List.length_take, List.length_drop, hl]; omega), T7.ext g05, fun K6 g6 T6 => ?_⟩
      walk_at "gn"
      exact ⟨⟨_, _, rfl⟩, (e07.trans (LamX.ExtN.of g05)).trans g6, T6⟩
  rintro σ' G ⟨⟨o2, o3, rfl⟩, eG, TH⟩
  have hmH := extT eG hms
  have alH := OdAll.ext eG _ _ al
  walk_at "gn"
  refine listT_ hmH fun p1 K1 n1 g1 u1 => ?_
  walk_at "gn"
  rename_i p2 K2 n2 g2 u2
  refine catT_ (Same.sqT (g1.trans g2) hmH) (SqT.tr u2) (by intro z; rw [z] at ml; cases ml) (by simp) (by rw [ml]; simp) fun p3 K3 n3 g3 u3 => ?_
  walk_at "gn"
  rename_i p4 K4 n4 g4 u4
  refine xrevP ?_
  walk_at "gn"
  refine revT_ (Same.sqT (((g1.trans g2).trans g3).trans g4) hmH) fun p5 K5 n5 g5 u5 => ?_
  walk_at "gn"
  rename_i p6 K6 n6 g6 u6
  have c4 : Same K4 K6 := g5.trans g6
  have c3 : Same K3 K6 := g4.trans c4
  have c1 : Same K1 K6 := (g2.trans g3).trans c3
  have c0 : Same G K6 := g1.trans c1
  have al6 := OdAll.same c0 _ _ alH
  have d6 : OdAll K K6 [.ref p1, .ref p3, .ref p4, .ref p5] [.lst (ovT t), .tup (ovT t ++ [.non]), .tup [.tup (ovT t)], .tup (ovT t).reverse] :=
    .cons (.lst (SqL.tr (c1 _ _ u1)) al6) (.cons (.tup (SqT.tr (c3 _ _ u3)) (odApp al6 (.cons .non .nil))) (.cons (.tup (SqT.tr (c4 _ _ u4)) (.cons (.tup (Same.sqT c0 hmH) al6) .nil)) (.cons (.tup (SqT.tr (g6 _ _ u5)) (odRev al6)) .nil)))
  have no : ∀ b ∈ [.lst (ovT t), .tup (ovT t ++ [.non]), .tup [.tup (ovT t)], .tup (ovT t).reverse], OV.tmB b = false := fun b hb => by
    simp only [List.mem_cons, List.not_mem_nil, or_false] at hb
    rcases hb with rfl | rfl | rfl | rfl
    · rfl
    · exact tmL_len (by rw [List.length_append, hl]; simp)
    · rfl
    · exact hrev
  have T6 := TH.ext c0
  have e06 : LamX.ExtN G0 K6 := eG.trans (LamX.ExtN.of c0)
  clear n1 g1 u1 n2 g2 u2 n3 g3 u3 n4 g4 u4 n5 g5 u5 n6 g6 c4 c3 c1 c0 al6 alH hmH al hms
  refine forL_ (SqL.tr u6) (fun j σ' H' => (∃ o, σ' = [some (.ref a), some (.ref pm), o, o3, none]) ∧ LamX.ExtN K6 H' ∧ LamX.Tabs Tb H') ⟨⟨_, rfl⟩, LamX.ExtN.refl _, T6⟩ (fun j σ' H' _ z => extL z.2.1 (SqL.tr u6)) ?_ ?_
  · rintro j x σ'' H7 hx ⟨⟨o, rfl⟩, e7, T7⟩
    obtain ⟨b, mb, ob⟩ := OdAll.mem d6 hx
    walk_at "gn"
    refine ⟨_, b, rfl, Od.ext e7 _ _ ob, no b mb, T7, fun H8 e8 T8 => ?_⟩
    walk_at "gn"
    exact ⟨⟨_, rfl⟩, e7.trans e8, T8⟩
  rintro σ'' H7 ⟨⟨o, rfl⟩, e7, T7⟩
  have e07 := e06.trans e7
  have s7 := extSrc sG e07
  have hm7 := hmG.st (Tp.ext (K := K) e07)
  walk_at "gn"
  rename_i ps q Z hq bq sZ fZ
  have hmZ := hm7.st (Tp.frm fZ s7)
  refine xkwC ?_
  walk_at "gn"
  refine kwC1_ ?_
  refine edges_ 31 31 hmZ ok (by decide) (by decide) fun pe1 E1 g1 h1 => ?_
  walk_at "gn"
  refine edges_ 31 31 (hmZ.same g1) ok (by decide) (by decide) fun pe2 E2 g2 h2 => ?_
  refine eqLL_ (n := 2) (h1.same g2).d h2.d (OkD.du3 _ _ _) (by decide) ?_
  walk_at "gn"
  refine xkw0 ?_
  walk_at "gn"
  have g02 := g1.trans g2
  refine ⟨_, .ref ps, t, some q, -1, tdM ok (fun r er => by cases er; exact ⟨bq.mono (by decide), bq.dn.mono (by decide)⟩), rfl, hmZ.same g02, It.fr (Same.sqT g02 hq), .inr rfl, fun p1 F1 f1 h3 => ?_⟩
  walk_at "gn"
  have g03 := g02.trans f1
  refine ⟨_, .ref ps, t, some q, -1, tdM ok (fun r er => by cases er; exact ⟨bq.mono (by decide), bq.dn.mono (by decide)⟩), rfl, hmZ.same g03, It.fr (Same.sqT g03 hq), .inr rfl, fun p2 F2 f2 h4 => ?_⟩
  refine eqLL_ (n := 2) (h3.same f2).d h4.d (OkD.tell _ _ _) (by decide) ?_
  have g04 := g03.trans f2
  exact k _ ((((ExtF.frm f1').trans x1G).trans (ExtF.ext e07)).trans ((ExtF.frm fZ).trans (ExtF.same g04))) (Same.src g04 sZ) ((tabsF s7 fZ T7).ext g04)

/-! ### the law -/
theorem keepX {K : PySem.W.Frag} {H H' : Hp} {b p : Addr} {xs : List V} (h : SqL K H b xs) (n : H p = none) (f : ∀ c o, c ≠ p → H c = some o → (∀ ps, o ≠ .tbl ps) → H' c = some o) : SqL K H' b xs := by
  rcases h with (h | ⟨o, h⟩) | h
  · exact .inl (.inl (f _ _ (ne_of_none h n) h fun _ z => by cases z))
  · exact .inl (.inr ⟨o, f _ _ (ne_of_none h n) h fun _ z => by cases z⟩)
  · exact .inr h
theorem PtsOk.of {n : Nat} {P : List (Rat × Option Rat)} (h0 : 0 < P.length) (h1 : P.length ≤ 200) (h : ∀ p ∈ P, (p.1.num.natAbs < 2 ^ n ∧ p.1.den < 2 ^ n) ∧ ∀ q ∈ p.2, q.num.natAbs < 2 ^ n ∧ q.den < 2 ^ n) : PtsOk n P := ⟨h0, h1, fun p hp => (h p hp).1, fun q hq => by
  obtain ⟨p, hp, e⟩ := List.mem_map.mp hq
  exact (h p hp).2 q e⟩
theorem plain_ok : TmOk 31 31 plainT := ⟨Bd.q0.mono (by decide), Bd.q0.mono (by decide), Rat.le_refl, Bd.q0.mono (by decide), fun q e => by cases e; decide, Bo.some (Bd.q1.mono (by decide)), fun d e => (by cases e), fun d e => (by cases e), PtsOk.of (by decide) (by decide) (by decide +kernel)⟩
theorem plain_ed : (plainT.fe, plainT.se, plainT.fin) = (some 0, some 0, some 0) := by decide +kernel
theorem plain_td : plainT.tell none 1 = .tuple [.str "idle", .none, .none, .none, .none, .none, .none] := rfl
def odL : List OV := [.non, .int 5, .str "timing", .tup [], .lst [], .dct, .bl true, .str "endless"]
theorem odL_no : ∀ d ∈ odL, d.tmB = false := by
  have h : odL.all (fun d => !d.tmB) = true := by decide +kernel
  intro d hd
  have z := List.all_eq_true.mp h d hd
  simpa using z
def spLawT (K : PySem.W.Frag) (Tb : List (Addr × Str)) : Sp := fun vs H Q _ => ∃ (a : Addr) (ns : List Int), vs = [.ref a] ∧ SqL K H a (ns.map V.int) ∧ ns.length ≤ 63 ∧ LamX.Tabs Tb H ∧ ∀ H', Q (.bl true) H'
local macro_rules | `(tactic| walk_at "odt") => `(tactic| first
  | exact Od.dct (by assumption) | exact Od.dctS (by assumption) (by walk_at "same") | exact Od.non | exact Od.int _ | exact Od.bl _ | exact Od.str _ | exact OdAll.nil
  | (with_reducible apply OdAll.cons; walk_at "odt"; walk_at "odt")
  | (with_reducible apply Od.tup; walk_at "sq"; walk_at "odt")
  | (with_reducible apply Od.lst; walk_at "sl"; walk_at "odt"))
theorem okF_law (T : Txt K mg) {Tb : List (Addr × Str)} (TL : TxtL K mg base Tb) {fd : FuncData} (F : FunD K d_law.name d_law.qual d_law.params d_law.body d_law.scope (d_law.dvs K) (d_law.kws K) (He.ga K d_law.name) fd) : FnOk P w K mg base CX0 15 (He.ga K "law") fd ["_law_script"] (spLawT K Tb) := by
  have G__law_right := ok__law_right (P := P) (w := w) (base := base) T TL
  have G__law_source := ok__law_source (P := P) (w := w) (base := base) T
  have G__law_are_refused := ok__law_are_refused (P := P) (w := w) (base := base) T TL
  have GC_is_timing := ok_is_timing (P := P) (w := w) (base := base) T
  have G_is_timing := GC_is_timing.good
  have G_told_at := told_at_calm (P := P) (w := w) (base := base) T
  have G_edges := edges_calm (P := P) (w := w) (base := base) T
  have z0 : ∀ H, SqT K H (He.ga K "ZERO") (fr 0) := T.zero
  have z1 : ∀ H, SqT K H (He.ga K "ONE") (fr 1) := T.one
  refine F.ok sc_law ?_ (fun cdv A outer s H vs Q E hr h => ⟨_, PSs.nox (pss_cons (ps_for PassesOwn.never rfl (pi_range1 rfl (m_range T) (pa_cons (pe_callB (cr_max2 rfl) (by rfl) (m_max T) bt_max (pa_cons pe_int (pa_cons (pe_callB (cr_min2 rfl) (by rfl) (m_min T) bt_min (pa_cons pe_int (pa_cons (pe_callB cr_len (by rfl) (m_len T) PySem.boot_len (pa_cons (pv 0) pa_nil)) pa_nil))) pa_nil))) pa_nil)) (pg_name (i := 1) sc_law.nd rfl (Or.inl rfl))
      (pss_one (ps_if (pt_not (pt_val (pe_good G__law_right (hr.mono (by decide)) (pa_cons (pe_good G__law_source (hr.mono (by decide)) (pa_cons (pv 0) (pa_cons (pv 1) pa_nil))) pa_nil)))) (pss_one (ps_ret pe_bl)) pss_nil)))
    (pss_cons (ps_for PassesOwn.never rfl (pi_list (pe_lst (pa_cons pe_non (pa_cons pe_int (pa_cons pe_str (pa_cons (pe_tup pa_nil) (pa_cons (pe_lst pa_nil) (pa_cons pe_dnewK (pa_cons pe_bl (pa_cons pe_str pa_nil)))))))))) (pg_name (i := 2) sc_law.nd rfl (Or.inl rfl))
      (pss_one (ps_if (pt_not (pt_val (pe_good G__law_are_refused (hr.mono (by decide)) (pa_cons (pv 2) pa_nil)))) (pss_one (ps_ret pe_bl)) pss_nil)))
    (pss_cons (ps_set (i := 3) sc_law.nd rfl (Or.inl rfl) (pe_tup (pa_cons pe_str (pa_cons (pe_tup (pa_cons (pe_tup (pa_cons (pe_tup (pa_cons pe_int (pa_cons pe_int pa_nil))) (pa_cons (pe_tup (pa_cons pe_int (pa_cons pe_int pa_nil))) pa_nil))) (pa_cons (pe_tup (pa_cons (pe_tup (pa_cons pe_int (pa_cons pe_int pa_nil))) (pa_cons (pe_tup (pa_cons pe_int (pa_cons pe_int pa_nil))) pa_nil))) pa_nil))) pa_nil))))
    (pss_cons (ps_if (PW.pt (pw_or (pt_cmpR (op_neD hr.units) (pe_glob (v := .ref (He.ga K "PLAIN")) rfl T.gP rfl) (pe_tup (pa_cons (pe_tup (pa_cons pe_int (pa_cons pe_int pa_nil))) (pa_cons (pe_tup (pa_cons pe_int (pa_cons pe_int pa_nil))) (pa_cons pe_str (pa_cons (pe_tup (pa_cons pe_int (pa_cons pe_int pa_nil))) (pa_cons (pe_tup (pa_cons pe_int (pa_cons pe_int pa_nil))) (pa_cons pe_non (pa_cons pe_str (pa_cons (pv 3) pa_nil))))))))) (nomark _)) (pw_or1 (pt_not (pt_val (pe_good G_is_timing (hr.mono (by decide)) (pa_cons (pe_glob (v := .ref (He.ga K "PLAIN")) rfl T.gP rfl) pa_nil))))))) (pss_one (ps_ret pe_bl)) pss_nil)
    (pss_one (ps_ret (pe_and (pe_cmpR (op_eqD hr.units) (pe_good G_edges (hr.mono (by decide)) (pa_cons (pe_glob (v := .ref (He.ga K "PLAIN")) rfl T.gP rfl) pa_nil)) (pe_tup (pa_cons (pe_tup (pa_cons pe_int (pa_cons pe_int pa_nil))) (pa_cons (pe_tup (pa_cons pe_int (pa_cons pe_int pa_nil))) (pa_cons (pe_tup (pa_cons pe_int (pa_cons pe_int pa_nil))) pa_nil)))) (nomark _)) (pe_one (pe_cmpR (op_eqD hr.units) (pe_good G_told_at (hr.mono (by decide)) (pa_cons (pe_glob (v := .ref (He.ga K "PLAIN")) rfl T.gP rfl) (pa_cons pe_non (pa_cons pe_int pa_nil)))) (pe_op op_catT (pe_tup (pa_cons pe_str pa_nil)) (pe_op op_repT (pe_tup (pa_cons pe_non pa_nil)) pe_int)) (nomark _)))))))))), ?_⟩)
  · rintro vs H Q E ⟨_, _, rfl, _⟩; rfl
  obtain ⟨a, ns, rfl, hs, hl, hT, k⟩ := h
  rw [st_law]; try dsimp only [L2.cxOf]
  walk_at "gn"
  rw [List.length_map]
  refine rng_ (by split <;> split <;> omega) (by split <;> split <;> omega) ?_
  generalize (if (if (ns.length : Int) < 3 then (ns.length : Int) else 3) > 1 then (if (ns.length : Int) < 3 then (ns.length : Int) else 3) else 1 : Int).toNat = n
  refine forR_ (fun i σ H' => (∃ o1, σ = [some (.ref a), o1, none, none]) ∧ SqL K H' a (ns.map V.int) ∧ LamX.Tabs Tb H') ⟨⟨_, rfl⟩, hs, hT⟩ ?_ ?_
  · rintro i σ H1 _ ⟨⟨o1, rfl⟩, h1, T1⟩
    walk_at "gn"
    refine ⟨a, ns, _, rfl, h1, by omega, fun p H2 np e2 s2 => ?_⟩
    walk_at "gn"
    refine ⟨p, rfl, s2, T1.ext e2, fun H3 x3 s3 T3 => ?_⟩
    walk_at "gn"
    exact ⟨⟨_, rfl⟩, keepX h1 np fun c o nc hc nt => x3 _ _ nc (e2 _ _ hc) nt, T3⟩
  rintro σ H1 ⟨⟨o1, rfl⟩, h1, T1⟩
  walk_at "gn"
  rename_i p1 A1 m1 r1 u1 p2 A2 m2 r2 u2
  refine newK_ fun pd Hd nd ed td => ?_
  walk_at "gn"
  rename_i p3 A3 m3 r3 u3
  have odL0 : OdAll K A3 [.non, .int 5, .str "timing", .ref p1, .ref p2, .ref pd, .bl true, .str "endless"] odL := by
    unfold odL
    walk_at "odt"
  have T3 := (((T1.ext r1).ext r2).ext ed).ext r3
  clear m1 r1 u1 m2 r2 u2 nd ed td m3 r3
  refine forL_ (SqL.tr u3) (fun j σ' H' => (∃ o, σ' = [some (.ref a), o1, o, none]) ∧ LamX.ExtN A3 H' ∧ LamX.Tabs Tb H') ⟨⟨_, rfl⟩, LamX.ExtN.refl _, T3⟩ (fun j σ' H' _ z => extL z.2.1 (SqL.tr u3)) ?_ ?_
  · rintro j x σ'' H7 hx ⟨⟨o, rfl⟩, e7, T7⟩
    obtain ⟨b, mb, ob⟩ := OdAll.mem odL0 hx
    walk_at "gn"
    refine ⟨_, b, rfl, Od.ext e7 _ _ ob, odL_no b mb, T7, fun H8 e8 T8 => ?_⟩
    walk_at "gn"
    exact ⟨⟨_, rfl⟩, e7.trans e8, T8⟩
  rintro σ'' H7 ⟨⟨o, rfl⟩, e7, T7⟩
  clear odL0 u3 T3 e7
  walk_at "gn"
  rename_i a1 C1 m1 r1 u1 a2 C2 m2 r2 u2 a3 C3 m3 r3 u3 a4 C4 m4 r4 u4 a5 C5 m5 r5 u5 a6 C6 m6 r6 u6 a7 C7 m7 r7 u7 a8 C8 m8 r8 u8
  have cv : It K C8 (.ref a8) (cvD plainT.curve) := It.linC (SqT.tr u8) (It.tup (by walk_at "sq") (.cons (It.pt (p := (0, some 0)) ⟨a3, _, _, a1, rfl, by walk_at "sq", rfl, by walk_at "sq", a2, rfl, by walk_at "sq"⟩) (.cons (It.pt (p := (1, some 1)) ⟨a6, _, _, a4, rfl, by walk_at "sq", rfl, by walk_at "sq", a5, rfl, by walk_at "sq"⟩) .nil)))
  clear m1 r1 u1 m2 r2 u2 m3 r3 u3 m4 r4 u4 m5 r5 u5 m6 r6 u6 m7 r7 u7 m8 r8 u8
  refine xor ?_
  walk_at "gn"
  rename_i b1 D1 m1 r1 u1 b2 D2 m2 r2 u2 b3 D3 m3 r3 u3 b4 D4 m4 r4 u4 b5 D5 m5 r5 u5
  refine neLL_ (n := 6) (T.plain _).d (It.tmC (t := plainT) (SqT.tr u5) (lit0 (by walk_at "sq")) (lit0 (by walk_at "sq")) (lit0 (by walk_at "sq")) (It.fr (q := 1) (lit1 (by walk_at "sq"))) .non (cv.same (show Same C8 D5 by walk_at "same"))).d ⟨by decide +kernel, by decide +kernel⟩ (by decide) ?_
  refine ⟨_, rfl, ?_⟩
  clear cv m1 r1 u1 m2 r2 u2 m3 r3 u3 m4 r4 u4 m5 r5 u5
  walk_at "gn"
  refine od_ (It.od _ _ (T.plain _)) fun E1 g1 => ?_
  rw [tmB_of plain_ok]
  walk_at "gn"
  refine edges_ 31 31 (T.plain _) plain_ok (by decide) (by decide) fun pe E2 g2 he => ?_
  obtain ⟨z1, z2⟩ := Prod.mk.inj plain_ed
  obtain ⟨z2, z3⟩ := Prod.mk.inj z2
  rw [z1, z2, z3] at he
  walk_at "gn"
  rename_i b1 D1 m1 r1 u1 b2 D2 m2 r2 u2 b3 D3 m3 r3 u3 b4 D4 m4 r4 u4
  refine eqLL_ (n := 2) (he.same (show Same E2 D4 by walk_at "same")).d (It.tup (SqT.tr u4) (.cons (It.fr (q := 0) (lit0 (by walk_at "sq"))) (.cons (It.fr (q := 0) (lit0 (by walk_at "sq"))) (.cons (It.fr (q := 0) (lit0 (by walk_at "sq"))) .nil)))).d (OkD.du3 _ _ _) (by decide) ?_
  walk_at "gn"
  refine ⟨_, .non, plainT, none, 1, tdM plain_ok (fun r er => by cases er), rfl, T.plain _, .non, .inl rfl, fun p F1 f1 h => ?_⟩
  rw [plain_td] at h
  walk_at "gn"
  rename_i i1 F2 n2 f2 v2 i2 F3 n3 f3 v3
  refine repT_ (SqT.tr v3) (by simp) (by decide) (by decide) (by simp) fun i3 F4 n4 f4 v4 => ?_
  refine catT_ (SqT.tr ((f3.trans f4) _ _ v2)) (SqT.tr v4) (by simp) (by intro z; cases z) (by decide) fun i5 F5 n5 f5 v5 => ?_
  exact eqLL_ (n := 2) (h.same (((f2.trans f3).trans f4).trans f5)).d (It.tup (SqT.tr v5) (.cons (.str _) (.cons .non (.cons .non (.cons .non (.cons .non (.cons .non (.cons .non .nil)))))))).d (OkD.tellN .idle) (by decide) (k _)

end
end FC
namespace FC
open PySem PySem.Spec PyProof.Rows L2 He
/-- what is asked of the exceptions' classes -/
def feOf (l : List Str) : List Fa := l.map Fa.glo ++ (l.map Fa.exc ++ l.flatMap fun x => l.map fun y => Fa.exm x y (decide (x = y) || decide (y = "CueError")))
theorem exAll_fe {K : PySem.W.Frag} {h : Heap} {mg : Str → Option Value} {l : List Str} (X : K.In h) (G : h.Ns mainGlobals mg) (told : ∀ f ∈ feOf l, f.ok K = true) : ExAll K mg l := by
  refine ⟨fun x hx => ?_, fun x hx y hy => exm_ok (told (.exm x y _) (List.mem_append_right _ (List.mem_append_right _ (List.mem_flatMap.mpr ⟨x, hx, List.mem_map.mpr ⟨y, hy, rfl⟩⟩))))⟩
  obtain ⟨q1, q2, q3, q4⟩ := exc_ok (told (.exc x) (List.mem_append_right _ (List.mem_append_left _ (List.mem_map.mpr ⟨x, hx, rfl⟩))))
  exact ⟨glo_ok X G (told (.glo x) (List.mem_append_left _ (List.mem_map.mpr ⟨x, hx, rfl⟩))), q2, q1, q3, q4⟩
def fx : List Fa := [.str "ENDLESS" "endless", .glo "PLAIN", .glo "Spans", .cls "Spans", .mkr "Spans", .noat "Spans" "length", .noat "Spans" "active", .noat "Spans" "end", .noat "Spans" "first_edge", .noat "Spans" "second_edge"] ++ feOf ["NoTiming", "NoNumber", "NoSign", "CueError"]
def fa : List Fa := fnF.map (fun d => Fa.glo d.name) ++ (frees.map Fa.free ++ fx)
def ck (K : PySem.W.Frag) : Bool := (eqO (PySem.W.nsIn K mainGlobals "gcd") (some (some (.builtin "math.gcd"))) && (eqO (PySem.W.nsIn K mainGlobals "ZERO") (some (some (.ref (ga K "ZERO")))) && (tupB K "ZERO" [.int 0, .int 1] && (eqO (PySem.W.nsIn K mainGlobals "ONE") (some (some (.ref (ga K "ONE")))) && (tupB K "ONE" [.int 1, .int 1] && (itB K (tmD plainT) (.ref (ga K "PLAIN"))))))))
def hookL (as : List Addr) (ck : PySem.W.Frag → Bool) (fa : List Fa) (fn : List DefD) : PySem.W.Hook where
  α := Bool × AlD
  obs := fun s => (ck (frG s.heap.get? as), obsD fa fn (frG s.heap.get? as))
  val := fun _ => (true, valD fn)
  says := fun _ h => ∃ K : PySem.W.Frag, K.In h ∧ ck K = true ∧ SaysD fa fn K
  of := fun _ _ e => ⟨_, frG_in, congrArg Prod.fst e, congrArg Prod.snd e⟩
  keeps := fun _ _ _ ⟨K, hK, c⟩ k => ⟨K, PySem.W.Frag.In.keeps hK k, c⟩
def hookLT (as : List Addr) (ck : PySem.W.Frag → Bool) (fa : List Fa) (fn : List DefD) (tf : List He.Defn) : PySem.W.Hook where
  α := Bool × AlD
  obs := fun s => (ck (frT s.heap.get? as) && tabsB s.heap.get? tf (frT s.heap.get? as), obsD fa fn (frT s.heap.get? as))
  val := fun _ => (true, valD fn)
  says := fun _ h => ∃ K : PySem.W.Frag, K.In h ∧ ck K = true ∧ SaysD fa fn K ∧ (∀ p ∈ tf, PySem.W.codeHdIn K (cT K p).1 (cT K p).2 = true) ∧ (∀ p ∈ tf, K.lookup (cT K p).2 = none) ∧ ∀ p ∈ tf, h.get? (cT K p).2 = some { cls := .none, data := .fields #[] }
  of := fun _ sh e => by
    obtain ⟨c1, c2⟩ := ba (congrArg Prod.fst e)
    have both : ∀ p ∈ tf, PySem.W.codeHdIn (frT sh.heap.get? as) (cT (frT sh.heap.get? as) p).1 (cT (frT sh.heap.get? as) p).2 = true ∧ ∃ o, sh.heap.get? (cT (frT sh.heap.get? as) p).2 = some o ∧ emptyTab o = true := fun p hp => by
      obtain ⟨t1, t2⟩ := ba (List.all_eq_true.mp c2 p hp)
      refine ⟨t1, ?_⟩
      cases z : sh.heap.get? (cT (frT sh.heap.get? as) p).2 with
      | none =>
        have t2 : (match sh.heap.get? (cT (frT sh.heap.get? as) p).2 with | some o => emptyTab o | none => false) = true := t2
        rw [z] at t2
        cases t2
      | some o =>
        have t2 : (match sh.heap.get? (cT (frT sh.heap.get? as) p).2 with | some o => emptyTab o | none => false) = true := t2
        rw [z] at t2
        exact ⟨o, rfl, t2⟩
    refine ⟨_, frT_in, c1, congrArg Prod.snd e, fun p hp => (both p hp).1, fun p hp => ?_, fun p hp => ?_⟩
    · obtain ⟨_, o, z, y⟩ := both p hp
      exact frT_none z y
    · obtain ⟨_, o, z, y⟩ := both p hp
      rw [z, emptyTab_eq y]
  keeps := fun _ _ _ ⟨K, hK, c, d, t1, t2, t3⟩ k => ⟨K, PySem.W.Frag.In.keeps hK k, c, d, t1, t2, fun p hp => k _ _ (t3 p hp)⟩
def tf : List He.Defn := [d__law_are_refused, d__law_right].map (·.at_)
/-- the tables are apart -/
def disB (K : PySem.W.Frag) : Bool := tf.all fun p => tf.all fun q => !(decide ((cT K p).2 = (cT K q).2)) || decide (p.1 = q.1)
def hk0 : PySem.W.Hook where
  α := Unit
  obs := fun _ => ()
  val := fun _ => ()
  says := fun _ _ => True
  of := fun _ _ _ => trivial
  keeps := fun _ _ _ _ _ => trivial
theorem run_both {r : PySem.W.OpenRow} {q : Program} {H : PySem.W.Hook} {ob : PySem.W.SharedT → H.α} {M : Nat} {loose : List PySem.Str} {w : World} (a : HandSHeadRun.RunEqI r q hk0 (fun _ => ()) M loose w)
    (b : (HandSHeadRun.wholeF (fun p => HandSHeadRun.stepQ (HandSHeadRun.denQ HandSHeadRun.tabQ) p w) HandSHeadRun.fenceQ M r.prog).map (fun x => ob x.2) = some (H.val w)) : HandSHeadRun.RunEqI r q H ob M loose w := by
  unfold HandSHeadRun.RunEqI at a ⊢
  generalize HandSHeadRun.wholeF (fun p => HandSHeadRun.stepQ (HandSHeadRun.denQ HandSHeadRun.tabQ) p w) HandSHeadRun.fenceQ M r.prog = o at *
  cases o with
  | none => cases b
  | some x =>
    have a1 := Option.some.inj a
    have b1 : ob x.2 = H.val w := Option.some.inj b
    obtain ⟨a2, a3⟩ := Prod.mk.inj a1
    obtain ⟨a4, _⟩ := Prod.mk.inj a3
    exact congrArg some (Prod.ext a2 (Prod.ext a4 b1))
def asL : List Addr := [3, 6, 4, 52, 65, 77, 89, 92, 93, 100, 107, 114, 121, 128, 135, 142, 149, 156, 163, 170, 177, 184, 191, 198, 205, 212, 219, 226, 233, 240, 247, 254, 261, 268, 275, 282, 289, 302, 319, 330, 337, 344, 351, 358, 365, 372, 379, 386, 393, 400, 407, 414, 421, 428, 435, 442, 449, 456, 463, 470, 477, 484, 491, 498, 505, 510, 517, 524, 0, 51, 64, 76, 88, 99, 106, 113, 120, 127, 134, 141, 148, 155, 162, 169, 176, 183, 190, 197, 204, 211, 218, 225, 232, 239, 246, 253, 260, 267, 274, 281, 288, 290, 291, 292, 293, 301, 318, 329, 336, 343, 350, 357, 364, 371, 378, 385, 392, 399, 406, 413, 420, 427, 434, 441, 448, 455, 462, 469, 476, 483, 490, 497, 504, 509, 516, 523, 50, 53, 63, 75, 87, 94, 95, 96, 97, 98, 101, 102, 103, 104, 105, 108, 109, 110, 111, 112, 115, 116, 117, 118, 119, 122, 123, 124, 125, 126, 129, 130, 131, 132, 133, 136, 137, 138, 139, 140, 143, 144, 145, 146, 147, 150, 151, 152, 153, 154, 157, 158, 159, 160, 161, 164, 165, 166, 167, 168, 171, 172, 173, 174, 175, 178, 179, 180, 181, 182, 185, 186, 187, 188, 189, 192, 193, 194, 195, 196, 199, 200, 201, 202, 203, 206, 207, 208, 209, 210, 213, 214, 215, 216, 217, 220, 221, 222, 223, 224, 227, 228, 229, 230, 231, 234, 235, 236, 237, 238, 241, 242, 243, 244, 245, 248, 249, 250, 251, 252, 255, 256, 257, 258, 259, 262, 263, 264, 265, 266, 269, 270, 271, 272, 273, 276, 277, 278, 279, 280, 283, 284, 285, 286, 287, 300, 316, 317, 320, 321, 324, 325, 326, 327, 328, 331, 332, 333, 334, 335, 338, 339, 340, 341, 342, 345, 346, 347, 348, 349, 352, 353, 354, 355, 356, 359, 360, 361, 362, 363, 366, 367, 368, 369, 370, 373, 374, 375, 376, 377, 380, 381, 382, 383, 384, 387, 388, 389, 390, 391, 394, 395, 396, 397, 398, 401, 402, 403, 404, 405, 408, 409, 410, 411, 412, 415, 416, 417, 418, 419, 422, 423, 424, 425, 426, 429, 430, 431, 432, 433, 436, 437, 438, 439, 440, 443, 444, 445, 446, 447, 450, 451, 452, 453, 454, 457, 458, 459, 460, 461, 464, 465, 466, 467, 468, 471, 472, 473, 474, 475, 478, 479, 480, 481, 482, 485, 486, 487, 488, 489, 492, 493, 494, 495, 496, 499, 500, 501, 502, 503, 506, 507, 508, 511, 512, 513, 514, 515, 518, 519, 520, 521, 522, 296, 299, 315, 294, 295, 297, 298, 310, 311, 312, 313, 314]
def loose0 : List PySem.Str := ["__name__", "CueError", "NoTiming", "NoNumber", "NoSign", "ZERO", "ONE", "is_whole", "is_ratio", "ratio", "plus", "minus", "times", "over", "whole", "rest", "less", "even_step", "even_place", "is_curve"]
def loose1 : List PySem.Str := ["curve_value", "_are_points", "_are_steps", "_line_value", "_stretch", "_told_stretch", "_cubic_value", "_step_value", "_most_steps", "ENDLESS", "joined", "repeated", "below", "lesser", "greater", "is_word", "PLAIN", "Spans", "is_timing", "is_amount"]
def loose2 : List PySem.Str := ["_is_span", "edges", "told_at", "_own_spans", "facts_at", "phase_at", "active_time", "_overall_progress", "_simple_progress", "_iteration", "direction", "_law_cell_at", "_law_mixed", "_law_source", "_law_next", "_law_one", "_law_divisor", "_law_ratio", "_law_part", "_law_any_part"]
def loose3 : List PySem.Str := ["_law_curve", "_law_timing", "_law_said", "_law_odd_parts", "_law_are_refused", "_law_right"]
def loose : List PySem.Str := loose0 ++ loose1 ++ loose2 ++ loose3
abbrev R : PySem.W.OpenRow := PySem.W.OpenLaw.row PySem.Challenge.rw_framecues_k08_what_is_no_timing
abbrev hk : PySem.W.Hook := hookLT asL (fun K => ck K && disB K) fa fn tf
def ob (s : PySem.W.SharedT) : Bool × AlD := ((ck (frT (HandSHeadRun.getT s) asL) && disB (frT (HandSHeadRun.getT s) asL)) && tabsB (HandSHeadRun.getT s) tf (frT (HandSHeadRun.getT s) asL), obsD fa fn (frT (HandSHeadRun.getT s) asL))
theorem ob_eq (s : PySem.W.SharedT) : ob s = hk.obs s.abs := by
  have e : HandSHeadRun.getT s = s.abs.heap.get? := funext (HandSHeadRun.getT_eq s)
  unfold ob
  rw [e] <;> rfl
set_option maxHeartbeats 0 in
theorem runA (w : World) : HandSHeadRun.RunEqI R (PySem.W.view R.prog [0, 73]) hk0 (fun _ => ()) 20000 loose w := by
  unfold HandSHeadRun.RunEqI
  kernel_rfl
set_option maxHeartbeats 0 in
theorem runB (w : World) : ((HandSHeadRun.wholeF (fun p => HandSHeadRun.stepQ (HandSHeadRun.denQ HandSHeadRun.tabQ) p w) HandSHeadRun.fenceQ 20000 R.prog).map fun x => ob x.2) = some (hk.val w) := by
  kernel_rfl
theorem run (w : World) : HandSHeadRun.RunEqI R (PySem.W.view R.prog [0, 73]) hk ob 20000 loose w := run_both (runA w) (runB w)
theorem at_ok : ∀ d ∈ fnF, d.at_ = (d.name, none) := by
  have h : (fnF.all fun d => decide (d.at_ = (d.name, none))) = true := by decide +kernel
  intro d hd
  exact of_decide_eq_true (List.all_eq_true.mp h d hd)
theorem txt {K : PySem.W.Frag} {h : Heap} {mg : Str → Option Value} (X : K.In h) (G : h.Ns mainGlobals mg) (c : He.SaysD fa fn K) (cc : ck K = true) : Txt K mg := by
  unfold ck at cc
  obtain ⟨c0, cc⟩ := ba cc
  obtain ⟨c1, cc⟩ := ba cc
  obtain ⟨c2, cc⟩ := ba cc
  obtain ⟨c3, cc⟩ := ba cc
  obtain ⟨c4, cc⟩ := ba cc
  have c5 := cc
  have hFl : ∀ (i : Nat) (d : DefD), fnF[i]? = some d → i < (fnF.map fun d => Fa.glo d.name).length := fun i d hd => by
    rw [List.length_map]
    exact (List.getElem?_eq_some_iff.mp hd).1
  have FX : ∀ (i : Nat) {f : Fa}, fx[i]? = some f → f.ok K = true := fun i f hf => by
    refine c.fact (fnF.length + (frees.length + i)) ?_
    unfold fa
    rw [List.getElem?_append_right (by rw [List.length_map]; omega), List.length_map, Nat.add_sub_cancel_left, List.getElem?_append_right (by rw [List.length_map]; omega), List.length_map, Nat.add_sub_cancel_left]
    exact hf
  refine ⟨fun i d hd => ⟨?_, ?_⟩, fun i x hx => ?_, PySem.W.mg_of X G (eqO_ok c0), PySem.W.mg_of X G (eqO_ok c1), fun H => tupB_ok c2 H, PySem.W.mg_of X G (eqO_ok c3), fun H => tupB_ok c4 H, He.str_ok X G (FX 0 rfl), He.glo_ok X G (FX 1 rfl), fun H => itB_ref c5 H, He.glo_ok X G (FX 2 rfl), He.cls_ok (FX 3 rfl), He.mkr_ok (FX 4 rfl), He.noat_ok (FX 5 rfl), He.noat_ok (FX 6 rfl), He.noat_ok (FX 7 rfl), He.noat_ok (FX 8 rfl), He.noat_ok (FX 9 rfl), (by obtain ⟨fd, F⟩ := c.def_ (fnF.length + 0) (d := d_Spans_init) rfl; exact ⟨fd, F⟩), exAll_fe X G fun f hf => c.facts (List.mem_append_right _ (List.mem_append_right _ (List.mem_append_right _ hf)))⟩
  · refine He.glo_ok X G (c.fact i (f := .glo d.name) ?_)
    unfold fa
    rw [List.getElem?_append_left (hFl i d hd), List.getElem?_map, hd]
    rfl
  · have hd2 : fn[i]? = some d := by
      unfold fn
      rw [List.getElem?_append_left (by have := hFl i d hd; rw [List.length_map] at this; exact this)]
      exact hd
    obtain ⟨fd, F⟩ := c.def_ i hd2
    have e : He.fAd K d.at_ = He.ga K d.name := by
      rw [at_ok d (List.mem_of_getElem? hd)]
      rfl
    rw [e] at F
    exact ⟨fd, F⟩
  · refine He.free_ok X G (c.fact (fnF.length + i) (f := .free x) ?_)
    unfold fa
    have hl : i < (frees.map Fa.free).length := by
      rw [List.length_map]
      exact (List.getElem?_eq_some_iff.mp hx).1
    rw [List.getElem?_append_right (by rw [List.length_map]; omega), List.length_map, Nat.add_sub_cancel_left, List.getElem?_append_left hl, List.getElem?_map, hx]
    rfl
/-- a def's code object -/
theorem code_of {K : PySem.W.Frag} {d : DefD} {fd : FuncData} (F : FunD K d.name d.qual d.params d.body d.scope (d.dvs K) (d.kws K) (fAd K d.at_) fd) : fd.code = .ref (codeOf K d.at_) := by
  obtain ⟨oc, od, dV, kV, doc, pm, an, cdv, ct, osl, rfl, lk, hcd, _, _⟩ := F.ex
  obtain ⟨c, rfl⟩ := codeIn_ref hcd
  rw [codeOf_eq lk rfl] <;> rfl
def TbOf (K : PySem.W.Frag) : List (Addr × Str) := tf.map fun p => ((cT K p).2, p.1 ++ ".<locals>." ++ "<lambda>")
theorem tb_mem {K : PySem.W.Frag} {d : DefD} (hp : d.at_ ∈ tf) (hn : d.at_.1 = d.qual) : ((cT K d.at_).2, d.qual ++ ".<locals>." ++ "<lambda>") ∈ TbOf K := by
  rw [← hn]
  exact List.mem_map.mpr ⟨_, hp, rfl⟩
theorem tb_one {K : PySem.W.Frag} {d : DefD} (dis : disB K = true) (hp : d.at_ ∈ tf) (hn : d.at_.1 = d.qual) : ∀ q ∈ TbOf K, q.1 = (cT K d.at_).2 → q.2 = d.qual ++ ".<locals>." ++ "<lambda>" := fun q hq e => by
  obtain ⟨p, hp2, rfl⟩ := List.mem_map.mp hq
  have z := List.all_eq_true.mp (List.all_eq_true.mp dis p hp2) d.at_ hp
  have e : (cT K p).2 = (cT K d.at_).2 := e
  rw [decide_eq_true e] at z
  have y : p.1 = d.at_.1 := of_decide_eq_true (by simpa using z)
  show p.1 ++ _ ++ _ = _
  rw [y, hn]
theorem tb_new {K : PySem.W.Frag} {H : Hp} (h : ∀ p ∈ tf.map (cT K), H p.2 = some (.tbl #[])) : LamX.Tabs (TbOf K) H := fun q hq => by
  obtain ⟨p, hp, rfl⟩ := List.mem_map.mp hq
  exact ⟨#[], h _ (List.mem_map.mpr ⟨p, hp, rfl⟩), trivial, fun pos cv e => by cases e⟩
theorem txtL {K : PySem.W.Frag} {mg : Str → Option Value} {base : Heap} (c : He.SaysD fa fn K) (dis : disB K = true) (TB : ∀ p ∈ tf, LamX.TabB base mg (cT K p).1 (cT K p).2) : TxtL K mg base (TbOf K) := by
  have one : ∀ {d : DefD} {fd : FuncData}, d.at_ ∈ tf → d.at_.1 = d.qual → fAd K d.at_ = ga K d.name → FunD K d.name d.qual d.params d.body d.scope (d.dvs K) (d.kws K) (fAd K d.at_) fd →
      ∃ c Pt : Addr, (∃ fd, FunD K d.name d.qual d.params d.body d.scope (d.dvs K) (d.kws K) (He.ga K d.name) fd ∧ fd.code = .ref c) ∧ LamX.TabB base mg c Pt ∧ (Pt, d.qual ++ ".<locals>." ++ "<lambda>") ∈ TbOf K ∧ ∀ p ∈ TbOf K, p.1 = Pt → p.2 = d.qual ++ ".<locals>." ++ "<lambda>" := fun {d fd} hp hn hg F =>
    ⟨codeOf K d.at_, (cT K d.at_).2, ⟨fd, by rw [← hg]; exact F, code_of F⟩, TB _ hp, tb_mem hp hn, tb_one dis hp hn⟩
  refine ⟨fun d hd => ?_⟩
  simp only [List.mem_cons, List.not_mem_nil, or_false] at hd
  rcases hd with rfl | rfl
  · obtain ⟨fd, F⟩ := c.def_ 54 (d := d__law_are_refused) rfl
    exact one (d := d__law_are_refused) (by unfold tf; simp) rfl rfl F
  · obtain ⟨fd, F⟩ := c.def_ 55 (d := d__law_right) rfl
    exact one (d := d__law_right) (by unfold tf; simp) rfl rfl F
theorem lawAt {w : World} {K : PySem.W.Frag} {h : Heap} {mg : Str → Option Value} {f : Addr} (X : K.In h) (G : h.Ns mainGlobals mg) (hfa : mg ("law" : Str) = some (.ref f)) (c : He.SaysD fa fn K) (cc : (ck K && disB K) = true)
    (t1 : ∀ p ∈ tf, PySem.W.codeHdIn K (cT K p).1 (cT K p).2 = true) (t2 : ∀ p ∈ tf, K.lookup (cT K p).2 = none) (t3 : ∀ p ∈ tf, h.get? (cT K p).2 = some { cls := .none, data := .fields #[] }) : LamX.LawAtS PySem.Challenge.rw_framecues_k08_what_is_no_timing w K CX0 15 63 "_law_script" mg f h := by
  obtain ⟨cck, dis⟩ := ba cc
  have T := txt X G c cck
  obtain ⟨gM, fd, F⟩ := dk_law T
  have e := hfa.symm.trans gM
  cases e
  have b := FunD.bindsA (ps := ["_law_script"]) F fun _ _ _ _ _ _ us hl => match us, hl with | [_], _ => rfl
  have up : ∀ {R : Addr × Addr → Prop}, (∀ p ∈ tf, R (cT K p)) → ∀ p ∈ tf.map (cT K), R p := fun hR p hp => by
    obtain ⟨p0, h0, rfl⟩ := List.mem_map.mp hp
    exact hR p0 h0
  refine ⟨fd, tf.map (cT K), spLawT K (TbOf K), up (R := fun p => h.get? p.2 = some { cls := .none, data := .fields #[] }) t3, up (R := fun p => K.lookup p.2 = none) t2, up (R := fun p => PySem.W.CodeHd h p.1 p.2) fun p hp => PySem.W.codeHd_of_K X (t1 p hp), fun s v => b s [v] rfl,
    fun H a ns hl _ hT hS => ⟨a, ns, rfl, hS, hl, tb_new hT, fun _ => rfl⟩, fun base kb nb TB => ?_⟩
  have TB2 : ∀ p ∈ tf, LamX.TabB base mg (cT K p).1 (cT K p).2 := fun p hp => TB _ (List.mem_map.mpr ⟨p, hp, rfl⟩)
  exact okF_law (P := PySem.Challenge.rw_framecues_k08_what_is_no_timing.prog) (w := w) (base := base) T (txtL c dis TB2) F
end FC
open PySem PySem.W PySem.Calls PyProof.Rows
set_option maxRecDepth 100000 in
set_option maxHeartbeats 0 in
theorem PySem.Challenge.cw_framecues_k08_what_is_no_timing_holds : PySem.Challenge.rw_framecues_k08_what_is_no_timing.Holds := by
  w_on; o_law
  refine HandSHeadRun.head_imp (r := OpenLaw.row PySem.Challenge.rw_framecues_k08_what_is_no_timing) (q := view (OpenLaw.row PySem.Challenge.rw_framecues_k08_what_is_no_timing).prog [0, 73]) (H := FC.hk) (ob := FC.ob) (M := 20000) (loose := FC.loose) (d := HandSHeadRun.topDef (OpenLaw.row PySem.Challenge.rw_framecues_k08_what_is_no_timing).prog 73) (kwd := []) FC.ob_eq FC.run
    (by kernel_rfl) (by kernel_rfl) (by kernel_rfl) (by rfl) (by first | assumption | decide +kernel) (by decide +kernel) ⟨rfl, rfl, rfl, rfl, rfl, by decide +kernel⟩ ?hw ?hc
  case hw => w_witness2
  case hc =>
    refine LamX.walk_ofTsE (l := PySem.Challenge.rw_framecues_k08_what_is_no_timing) (n := 63) (k := 15) (x := "_law_script") (CX := fun _ => L2.CX0) rfl (by decide) (by kernel_rfl) ⟨rfl, by decide, by decide⟩ ?F (fun _ _ _ _ _ z => z)
    intro w mg fa h Y G hmg0
    obtain ⟨K, KX, cc, c, t1, t2, t3⟩ := Y
    have hmg : mg ("law" : PySem.Str) = some (.ref fa) := by
      have e : (HandSHeadRun.topDef (OpenLaw.row PySem.Challenge.rw_framecues_k08_what_is_no_timing).prog 73).name = ("law" : PySem.Str) := by kernel_rfl
      rw [← e]
      exact hmg0
    exact ⟨K, KX, FC.lawAt (w := w) KX G hmg c cc t1 t2 t3⟩
