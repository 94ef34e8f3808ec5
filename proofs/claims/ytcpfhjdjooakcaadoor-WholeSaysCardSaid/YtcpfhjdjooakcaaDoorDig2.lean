/- The document's own reckonings, as plain functions, beside the exact ones. -/
import Derived.Test.YtcpfhjdjooakcaaDoorDig
namespace Go.Proofs.YtcpfhjdjooakcaaDoor
open Go.RowKit
set_option linter.unusedVariables false
theorem all_cons {c : UInt8} {r : List UInt8} (h : (c :: r).all isDig = true) : isDig c = true ∧ r.all isDig = true := by
  rw [List.all_cons, Bool.and_eq_true] at h; exact h
/-- What the digits spell, behind what was read. -/
def val (acc : Nat) : List UInt8 → Nat
  | [] => acc
  | c :: r => val (acc * 10 + (c.toNat - 48)) r
theorem val_le : ∀ (l : List UInt8) (acc : Nat), acc ≤ val acc l
  | [], acc => Nat.le_refl _
  | c :: r, acc => Nat.le_trans (by omega) (val_le r (acc * 10 + (c.toNat - 48)))
theorem uint_val : ∀ (l : List UInt8) (acc : Nat), l.all isDig = true → acc < 18446744073709551616 → Lib.parseUint10 acc l = if val acc l < 18446744073709551616 then .ok (val acc l) else .range
  | [], acc, _, h => by rw [show val acc [] = acc from rfl, if_pos h]; rfl
  | c :: r, acc, h, h0 => by
    have h := all_cons h
    have hc := isDig_of h.1
    have hv := val_le r (acc * 10 + (c.toNat - 48))
    rw [show val acc (c :: r) = val (acc * 10 + (c.toNat - 48)) r from rfl]
    simp only [Lib.parseUint10]
    rw [if_pos hc]
    by_cases h1 : 1844674407370955162 ≤ acc
    · rw [if_pos h1, if_neg (by omega)]
    · rw [if_neg h1]
      by_cases h2 : 18446744073709551616 ≤ acc * 10 + (c.toNat - 48)
      · rw [if_pos h2, if_neg (by omega)]
      · rw [if_neg h2]; exact uint_val r _ h.2 (by omega)
/-- The document's reading, digit by digit. -/
def refGo (neg : Bool) (n : Int) : List UInt8 → Int × Int
  | [] => (n, 0)
  | c :: r =>
    let d : Int := if neg then -((c.toNat : Int) - 48) else (c.toNat : Int) - 48
    if (ex (n * 10)).2 ≠ 0 ∨ (ex ((ex (n * 10)).1 + d)).2 ≠ 0 then (0, 3) else refGo neg (ex ((ex (n * 10)).1 + d)).1 r
theorem refGo_pos : ∀ (l : List UInt8) (n : Nat), l.all isDig = true → n < 9223372036854775808 → refGo false n l = if val n l < 9223372036854775808 then ((val n l : Int), 0) else (0, 3)
  | [], n, _, h => by rw [show val n [] = n from rfl, if_pos h]; rfl
  | c :: r, n, h, h0 => by
    have h := all_cons h
    have hc := isDig_of h.1
    have hv := val_le r (n * 10 + (c.toNat - 48))
    rw [show val n (c :: r) = val (n * 10 + (c.toNat - 48)) r from rfl]
    simp only [refGo, Bool.false_eq_true, if_false]
    by_cases h1 : R ((n : Int) * 10)
    · rw [ex_in h1]
      by_cases h2 : R ((n : Int) * 10 + ((c.toNat : Int) - 48))
      · rw [ex_in h2, if_neg (by simp)]
        have e : (n : Int) * 10 + ((c.toNat : Int) - 48) = ((n * 10 + (c.toNat - 48) : Nat) : Int) := by omega
        simp only []
        rw [e]
        rw [e] at h2; unfold R at h2
        exact refGo_pos r _ h.2 (by omega)
      · rw [ex_out h2, if_pos (Or.inr (by decide)), if_neg (by unfold R at h2; omega)]
    · rw [ex_out h1, if_pos (Or.inl (by decide)), if_neg (by unfold R at h1; omega)]
theorem refGo_neg : ∀ (l : List UInt8) (n : Nat), l.all isDig = true → n ≤ 9223372036854775808 → refGo true (-(n : Int)) l = if val n l ≤ 9223372036854775808 then (-(val n l : Int), 0) else (0, 3)
  | [], n, _, h => by rw [show val n [] = n from rfl, if_pos h]; rfl
  | c :: r, n, h, h0 => by
    have h := all_cons h
    have hc := isDig_of h.1
    have hv := val_le r (n * 10 + (c.toNat - 48))
    rw [show val n (c :: r) = val (n * 10 + (c.toNat - 48)) r from rfl]
    simp only [refGo, if_true]
    by_cases h1 : R (-(n : Int) * 10)
    · rw [ex_in h1]
      by_cases h2 : R (-(n : Int) * 10 + -((c.toNat : Int) - 48))
      · rw [ex_in h2, if_neg (by simp)]
        have e : -(n : Int) * 10 + -((c.toNat : Int) - 48) = -((n * 10 + (c.toNat - 48) : Nat) : Int) := by omega
        simp only []
        rw [e]
        rw [e] at h2; unfold R at h2
        exact refGo_neg r _ h.2 (by omega)
      · rw [ex_out h2, if_pos (Or.inr (by decide)), if_neg (by unfold R at h2; omega)]
    · rw [ex_out h1, if_pos (Or.inl (by decide)), if_neg (by unfold R at h1; omega)]
def isNeg (l : List UInt8) : Bool := match l with | [] => false | c :: _ => ((c.toNat : Int) == 45)
def refParse (l : List UInt8) : Int × Int :=
  let r := if isNeg l then l.drop 1 else l
  if digitsL r then refGo (isNeg l) 0 r else (0, 2)
theorem c45 {c : UInt8} (h : ((c.toNat : Int) == 45) = true) : c = 45 := by
  have : c.toNat = 45 := by have h := eq_of_beq h; omega
  exact UInt8.toNat_inj.1 this
theorem trim_neg (l : List UInt8) : Lib.trimPrefix l [45] = if isNeg l then l.drop 1 else l := by
  cases l with
  | nil => rfl
  | cons c r =>
    cases h : isNeg (c :: r)
    · have : c ≠ 45 := fun e => by subst e; exact absurd h (by show ¬ ((((45 : UInt8).toNat : Int) == 45) = false); decide)
      rw [if_neg (by decide)]
      unfold Lib.trimPrefix
      rw [if_neg]
      simp [Lib.hasPrefix]
      exact fun e => this e.symm
    · obtain rfl := c45 h
      rw [if_pos rfl]
      unfold Lib.trimPrefix
      rw [if_pos (by simp [Lib.hasPrefix])]; simp
theorem atoi_pos {c : UInt8} {r : List UInt8} (hc : isDig c = true) (hd : (c :: r).all isDig = true) :
    Lib.atoiAll (c :: r) = if val 0 (c :: r) < 9223372036854775808 then .ok (val 0 (c :: r) : Int) else .range := by
  have hc' := isDig_of hc
  have m1 : (if c.toNat = 43 ∨ c.toNat = 45 then r else c :: r) = c :: r := if_neg (by omega)
  have m2 : Lib.parseMag (c :: r) = if val 0 (c :: r) < 18446744073709551616 then .ok (val 0 (c :: r)) else .range := by
    unfold Lib.parseMag
    rw [if_neg (by simp), uint_val _ 0 hd (by decide)]
  simp only [Lib.atoiAll, m1, m2]
  generalize val 0 (c :: r) = u
  by_cases h2 : u < 18446744073709551616
  · rw [if_pos h2]
    simp only []
    by_cases h3 : u < 9223372036854775808
    · rw [if_neg (by omega), if_neg (by omega), if_neg (by omega), if_pos h3]
    · rw [if_pos (by omega), if_neg h3]
  · rw [if_neg h2, if_neg (by omega)]
theorem atoi_neg {r : List UInt8} (hr : r ≠ []) (hd : r.all isDig = true) :
    Lib.atoiAll (45 :: r) = if val 0 r ≤ 9223372036854775808 then .ok (-(val 0 r : Int)) else .range := by
  have e : (45 : UInt8).toNat = 45 := rfl
  have m1 : (if (45 : UInt8).toNat = 43 ∨ (45 : UInt8).toNat = 45 then r else 45 :: r) = r := if_pos (Or.inr e)
  have m2 : Lib.parseMag r = if val 0 r < 18446744073709551616 then .ok (val 0 r) else .range := by
    unfold Lib.parseMag
    rw [if_neg hr, uint_val _ 0 hd (by decide)]
  simp only [Lib.atoiAll, m1, m2]
  generalize val 0 r = u
  by_cases h2 : u < 18446744073709551616
  · rw [if_pos h2]
    simp only [e]
    by_cases h3 : u ≤ 9223372036854775808
    · rw [if_neg (by simp), if_neg (by omega), if_pos trivial, if_pos h3]
    · rw [if_neg (by simp), if_pos ⟨trivial, by omega⟩, if_neg h3]
  · rw [if_neg h2, if_neg (by omega)]
theorem refParse_eq (l : List UInt8) : refParse l = numParse l := by
  unfold refParse numParse
  rw [trim_neg]
  simp only []
  cases hd : digitsL (if isNeg l then l.drop 1 else l)
  · rfl
  · rw [if_pos rfl, if_pos rfl, Lib.parseIntB_64]
    cases l with
    | nil => exact absurd hd (by decide)
    | cons c r =>
      cases hn : isNeg (c :: r)
      · rw [hn, if_neg (by decide)] at hd
        rw [if_neg (by decide)]
        have hd2 : (c :: r).all isDig = true := by unfold digitsL at hd; rw [Bool.and_eq_true] at hd; exact hd.1
        have h1 := refGo_pos (c :: r) 0 hd2 (by decide)
        rw [show ((0 : Nat) : Int) = 0 from rfl] at h1
        rw [h1, atoi_pos (all_cons hd2).1 hd2]
        generalize val 0 (c :: r) = u
        by_cases h2 : u < 9223372036854775808
        · rw [if_pos h2, if_pos h2]
        · rw [if_neg h2, if_neg h2]
      · have he : c = 45 := c45 hn
        rw [hn, if_pos rfl] at hd
        rw [if_pos rfl]
        subst he
        rw [List.drop_succ_cons, List.drop_zero] at hd ⊢
        have hd2 : r.all isDig = true := by unfold digitsL at hd; rw [Bool.and_eq_true] at hd; exact hd.1
        have hr : r ≠ [] := by intro e; rw [e] at hd; exact absurd hd (by decide)
        have h1 := refGo_neg r 0 hd2 (by decide)
        rw [show -((0 : Nat) : Int) = 0 from rfl] at h1
        rw [h1, atoi_neg hr hd2]
        generalize val 0 r = u
        by_cases h2 : u ≤ 9223372036854775808
        · rw [if_pos h2, if_pos h2]
        · rw [if_neg h2, if_neg h2]
/-- A number's digits, the last one behind. -/
theorem dec_big {u : Nat} (h : 10 ≤ u) : Lib.decDigits u = Lib.decDigits (u / 10) ++ [UInt8.ofNat (48 + u % 10)] := by
  rw [Lib.decDigits, dif_neg (by omega)]
theorem dec_small {u : Nat} (h : u < 10) : Lib.decDigits u = [UInt8.ofNat (48 + u)] := by
  rw [Lib.decDigits, dif_pos h]
theorem itoa_big_neg {n : Int} (h : n ≤ -10) : Lib.itoa n = Lib.itoa (n.tdiv 10) ++ [UInt8.ofNat (48 - n.tmod 10).toNat] := by
  obtain ⟨u, rfl⟩ : ∃ u : Nat, n = -(u : Int) := ⟨n.natAbs, by omega⟩
  have h1 : (-(u : Int)).tdiv 10 = -((u / 10 : Nat) : Int) := by
    rw [Int.neg_tdiv]; rfl
  have h2 : (-(u : Int)).tmod 10 = -((u % 10 : Nat) : Int) := by
    rw [Int.neg_tmod]; rfl
  rw [h1, h2]
  unfold Lib.itoa
  rw [if_pos (by omega), if_pos (by omega)]
  simp only [Int.natAbs_neg, Int.natAbs_natCast]
  rw [dec_big (by omega)]
  have e : (48 - -((u % 10 : Nat) : Int)).toNat = 48 + u % 10 := by omega
  rw [e]; rfl
theorem itoa_big_pos {n : Int} (h : 10 ≤ n) : Lib.itoa n = Lib.itoa (n.tdiv 10) ++ [UInt8.ofNat (48 + n.tmod 10).toNat] := by
  obtain ⟨u, rfl⟩ : ∃ u : Nat, n = (u : Int) := ⟨n.natAbs, by omega⟩
  have h1 : (u : Int).tdiv 10 = ((u / 10 : Nat) : Int) := rfl
  have h2 : (u : Int).tmod 10 = ((u % 10 : Nat) : Int) := rfl
  rw [h1, h2]
  unfold Lib.itoa
  rw [if_neg (by omega), if_neg (by omega)]
  simp only [Int.toNat_natCast]
  rw [dec_big (by omega)]
  have e : (48 + ((u % 10 : Nat) : Int)).toNat = 48 + u % 10 := by omega
  rw [e]
theorem itoa_small_neg {n : Int} (h : n < 0) (h' : -10 < n) : Lib.itoa n = [45, UInt8.ofNat (48 - n).toNat] := by
  unfold Lib.itoa
  rw [if_pos h, dec_small (by omega)]
  have e : (48 - n).toNat = 48 + n.natAbs := by omega
  rw [e]
theorem itoa_small_pos {n : Int} (h : 0 ≤ n) (h' : n < 10) : Lib.itoa n = [UInt8.ofNat (48 + n).toNat] := by
  unfold Lib.itoa
  rw [if_neg (by omega), dec_small (by omega)]
  have e : (48 + n).toNat = 48 + n.toNat := by omega
  rw [e]
/-- Shifted up, bit by bit. -/
def shlGo (a : Int) : Nat → Int × Int
  | 0 => (a, 0)
  | n + 1 => if 4611686018427387903 < a ∨ a < -4611686018427387904 then (0, 3) else shlGo (2 * a) n
theorem grow_out {a : Int} (h : ¬ R a) (n : Nat) : ¬ R (a * 2 ^ n) := by
  have hp : (1 : Int) ≤ 2 ^ n := by have : (0 : Int) < 2 ^ n := Int.pow_pos (by decide); omega
  unfold R at *
  intro ⟨h1, h2⟩
  by_cases h0 : 0 ≤ a
  · have := Int.mul_le_mul_of_nonneg_left hp h0; omega
  · have := Int.mul_le_mul_of_nonneg_left hp (show 0 ≤ -a by omega)
    rw [Int.neg_mul, Int.neg_mul] at this; omega
theorem shlGo_eq : ∀ (n : Nat) (a : Int), R a → shlGo a n = ex (a * 2 ^ n)
  | 0, a, h => by simp only [shlGo, Int.pow_zero, Int.mul_one]; rw [ex_in h]
  | n + 1, a, h => by
    simp only [shlGo]
    have e : a * 2 ^ (n + 1) = 2 * a * 2 ^ n := by rw [Int.pow_succ]; rw [Int.mul_comm 2 a, Int.mul_assoc, Int.mul_comm (2 ^ n) 2]
    by_cases h1 : 4611686018427387903 < a ∨ a < -4611686018427387904
    · rw [if_pos h1, e, ex_out (grow_out (by unfold R; omega) n)]
    · rw [if_neg h1, shlGo_eq n (2 * a) (by unfold R; omega), e]
/-- Shifted down, bit by bit. -/
theorem shr_step (a : Int) (n : Nat) : (a / 2) / 2 ^ n = a / 2 ^ (n + 1) := by
  rw [Int.ediv_ediv_of_nonneg (by decide), Int.pow_succ, Int.mul_comm]
end Go.Proofs.YtcpfhjdjooakcaaDoor
