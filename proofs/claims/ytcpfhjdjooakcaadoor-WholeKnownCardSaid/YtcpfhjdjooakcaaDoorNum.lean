/- Numbers of 64 bits with a sign, as plain functions: what chapter 2 asks, in exact integers. -/
import Derived.Laws.BitsLemmas
import Derived.Lib.AtoiAll
namespace Go.Proofs.YtcpfhjdjooakcaaDoor

/-- A number of 64 bits. -/
def R (x : Int) : Prop := -9223372036854775808 ≤ x ∧ x ≤ 9223372036854775807
instance (x : Int) : Decidable (R x) := inferInstanceAs (Decidable (_ ∧ _))
/-- The answer, if it is one of 64 bits; else EOVER. -/
def ex (x : Int) : Int × Int := if R x then (x, 0) else (0, 3)
theorem ex_in {x : Int} (h : R x) : ex x = (x, 0) := if_pos h
theorem ex_out {x : Int} (h : ¬ R x) : ex x = (0, 3) := if_neg h
abbrev W64 (x : Int) : Int := IntKind.i64.wrap x
theorem wrap_in {x : Int} (h : R x) : IntKind.i64.wrap x = x := by rw [IntKind.wrap_i64]; unfold R at h; omega
theorem wrap_R (x : Int) : R (IntKind.i64.wrap x) := by rw [IntKind.wrap_i64]; unfold R; omega
theorem wrap_off (x : Int) : ∃ k : Int, IntKind.i64.wrap x = x + 18446744073709551616 * k := by
  rw [IntKind.wrap_i64]; exact ⟨-((x + 9223372036854775808) / 18446744073709551616), by omega⟩

theorem add_out {a b : Int} (ha : R a) (hb : R b) (h : ¬ R (a + b)) : decide (IntKind.i64.wrap (a + b) < a) ≠ decide (b < 0) := by
  rw [IntKind.wrap_i64]; unfold R at *
  intro e
  by_cases h0 : b < 0
  · rw [decide_eq_true h0, decide_eq_true_eq] at e; omega
  · rw [decide_eq_false h0, decide_eq_false_iff_not] at e; omega
theorem add_in {a b : Int} : decide (a + b < a) = decide (b < 0) := by
  by_cases h0 : b < 0
  · rw [decide_eq_true h0, decide_eq_true_eq]; omega
  · rw [decide_eq_false h0, decide_eq_false_iff_not]; omega
theorem sub_out {a b : Int} (ha : R a) (hb : R b) (h : ¬ R (a - b)) : decide (IntKind.i64.wrap (a - b) > a) ≠ decide (b < 0) := by
  rw [IntKind.wrap_i64]; unfold R at *
  intro e
  by_cases h0 : b < 0
  · rw [decide_eq_true h0, decide_eq_true_eq] at e; omega
  · rw [decide_eq_false h0, decide_eq_false_iff_not] at e; omega
theorem sub_in {a b : Int} : decide (a - b > a) = decide (b < 0) := by
  by_cases h0 : b < 0
  · rw [decide_eq_true h0, decide_eq_true_eq]; omega
  · rw [decide_eq_false h0, decide_eq_false_iff_not]; omega

theorem tmod_abs {x b : Int} (hb : R b) (h0 : b ≠ 0) : -9223372036854775808 < x.tmod b ∧ x.tmod b < 9223372036854775808 := by
  have h1 := Int.tmod_lt_of_pos x (b := b.natAbs) (by omega)
  have h2 := Int.lt_tmod_of_pos x (b := b.natAbs) (by omega)
  have h3 : x.tmod b = x.tmod b.natAbs := by
    rcases Int.natAbs_eq b with e | e
    · exact congrArg (x.tmod ·) e
    · exact (congrArg (x.tmod ·) e).trans (Int.tmod_neg _ _)
  unfold R at hb
  omega
/-- What is divided back tells whether a product has wrapped round. -/
theorem mul_out {a b : Int} (hb : R b) (h0 : b ≠ 0) (h : ¬ R (a * b)) : (IntKind.i64.wrap (a * b)).tdiv b ≠ a := by
  intro e
  apply h
  obtain ⟨k, hk⟩ := wrap_off (a * b)
  have h1 := Int.mul_tdiv_add_tmod (IntKind.i64.wrap (a * b)) b
  have h2 := tmod_abs (x := IntKind.i64.wrap (a * b)) hb h0
  rw [e, Int.mul_comm] at h1
  have h3 := wrap_R (a * b)
  have : k = 0 := by omega
  subst this
  rw [hk] at h3
  simpa using h3
theorem mul_in {a b : Int} (h0 : b ≠ 0) : (a * b).tdiv b = a := Int.mul_tdiv_cancel a h0
theorem tdiv_R {a b : Int} (ha : R a) (hb : R b) (h1 : b ≠ -1) : R (a.tdiv b) := by
  unfold R at *
  by_cases h2 : b = 0
  · subst h2; simp
  by_cases h3 : b = 1
  · subst h3; simpa using ha
  have h4 : (a.tdiv b).natAbs ≤ a.natAbs := by rw [Int.natAbs_tdiv]; exact Nat.div_le_self _ _
  by_cases h5 : (a.tdiv b).natAbs = a.natAbs
  · rw [Int.natAbs_tdiv] at h5
    have h6 : 2 ≤ b.natAbs := by omega
    have h8 : a.natAbs.div b.natAbs = a.natAbs / b.natAbs := rfl
    have h7 : a.natAbs / b.natAbs ≤ a.natAbs / 2 := Nat.div_le_div_left h6 (by decide)
    rw [Int.natAbs_tdiv] at h4
    have : a.natAbs = 0 := by omega
    have ha0 : a = 0 := by omega
    subst ha0; simp
  · omega
theorem tmod_R {a b : Int} (hb : R b) (h0 : b ≠ 0) : R (a.tmod b) := by
  have := tmod_abs (x := a) hb h0; unfold R; omega

/-- Divided towards the lesser one: what is left has the divisor's sign. -/
def md (a b : Int) : Int := if a.tmod b ≠ 0 ∧ (decide (a.tmod b < 0) ≠ decide (b < 0)) then a.tmod b + b else a.tmod b
theorem md_R {a b : Int} (hb : R b) (h0 : b ≠ 0) : R (md a b) := by
  unfold md
  have h := tmod_R (a := a) hb h0
  split
  · rename_i h1
    unfold R at *
    rcases h1 with ⟨h1, h2⟩
    by_cases h3 : b < 0 <;> by_cases h4 : a.tmod b < 0 <;> simp [h3, h4] at h2 <;> omega
  · exact h

/-- Shifted back, it is as it was, if it fits; else it is not. -/
theorem shl_out {a : Int} {n : Nat} (hn : n ≤ 63) (h : ¬ R (a * 2 ^ n)) : IntKind.i64.wrap (a * 2 ^ n) / 2 ^ n ≠ a := by
  intro e
  apply h
  obtain ⟨k, hk⟩ := wrap_off (a * 2 ^ n)
  have h1 : (18446744073709551616 : Int) = 2 ^ n * 2 ^ (64 - n) := by
    rw [← Int.pow_add, show n + (64 - n) = 64 by omega]; decide
  have hp : (0 : Int) < 2 ^ n := Int.pow_pos (by decide)
  have h2 : IntKind.i64.wrap (a * 2 ^ n) = (a + 2 ^ (64 - n) * k) * 2 ^ n := by rw [hk, h1, Int.add_mul]; congr 1; rw [Int.mul_assoc, Int.mul_comm]
  rw [h2, Int.mul_ediv_cancel _ (by omega)] at e
  have h3 : (2 : Int) ^ (64 - n) * k = 0 := by omega
  rw [h3] at h2
  have h4 := wrap_R (a * 2 ^ n)
  rw [h2] at h4
  simpa using h4
theorem shl_in {a : Int} {n : Nat} : a * 2 ^ n / 2 ^ n = a := Int.mul_ediv_cancel _ (by have : (0 : Int) < 2 ^ n := Int.pow_pos (by decide); omega)
theorem shr_R {a : Int} {n : Nat} (ha : R a) : R (a / 2 ^ n) := by
  have hp : (0 : Int) < 2 ^ n := Int.pow_pos (by decide)
  unfold R at *
  constructor
  · rw [Int.le_ediv_iff_mul_le hp]
    generalize (2 : Int) ^ n = p at hp
    omega
  · have := Int.ediv_le_self (a := a) (2 ^ n)
    by_cases h0 : 0 ≤ a
    · have := this h0; omega
    · have : a / 2 ^ n < 0 := Int.ediv_neg_of_neg_of_pos (by omega) hp
      omega

/-- Bits turned. -/
theorem not_i64 {a : Int} (ha : R a) : bits .xor .i64 (-1) a = -1 - a := by
  have h1 : (BitVec.ofInt 64 (-1)) = BitVec.allOnes 64 := by decide
  show IntKind.i64.wrap (BitVec.ofInt 64 (-1) ^^^ BitVec.ofInt 64 a).toNat = _
  rw [h1, BitVec.allOnes_xor, BitVec.toNat_not, BitVec.toNat_ofInt, IntKind.wrap_i64]
  unfold R at ha
  omega

/-- A power, factor by factor. -/
def powGo (a p : Int) : Nat → Int × Int
  | 0 => (p, 0)
  | n + 1 => if R (p * a) then powGo a (p * a) n else (0, 3)
def unit (a b : Int) : Int := if b.tmod 2 = 0 then 1 else a
def power (a b : Int) : Int × Int :=
  if a = 1 ∨ a = -1 then (unit a b, 0) else if b < 0 then (0, 5) else if a = 0 ∧ 0 < b then (0, 0) else powGo a 1 b.toNat
def shr (a b : Int) : Int × Int := if b < 0 ∨ 63 < b then (0, 5) else (a / 2 ^ b.toNat, 0)
def shl (a b : Int) : Int × Int := if b < 0 ∨ 63 < b then (0, 5) else ex (a * 2 ^ b.toNat)
def quo (a b : Int) : Int × Int := if b = 0 then (0, 4) else ex (a.tdiv b)
def rmd (a b : Int) : Int × Int := if b = 0 then (0, 4) else (a.tmod b, 0)
def mdl (a b : Int) : Int × Int := if b = 0 then (0, 4) else (md a b, 0)
end Go.Proofs.YtcpfhjdjooakcaaDoor
