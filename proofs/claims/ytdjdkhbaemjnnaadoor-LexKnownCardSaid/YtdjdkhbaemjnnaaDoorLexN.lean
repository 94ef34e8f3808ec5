/- How digits read as a number: the value, or too great. Nothing here is walked. -/
import Derived.Test.YtdjdkhbaemjnnaaDoorLexA
import Derived.Lib.ParseIntBTie
namespace Go.Proofs.YtdjdkhbaemjnnaaDoor

theorem num_mono : ∀ (l : List UInt8) (a : Nat), a ≤ l.foldl (fun n c => n * 10 + (c.toNat - 48)) a
  | [], a => Nat.le_refl _
  | c :: r, a => by
    rw [List.foldl_cons]
    exact Nat.le_trans (by omega) (num_mono r _)
theorem digit_nat {c : UInt8} (h : digitB c = true) : 48 ≤ c.toNat ∧ c.toNat ≤ 57 := by
  rw [digit_eq] at h
  simp at h
  omega
theorem uint_val : ∀ (l : List UInt8) (a : Nat), l.all digitB = true → a < 18446744073709551616 →
    Lib.parseUint10 a l = if l.foldl (fun n c => n * 10 + (c.toNat - 48)) a < 18446744073709551616 then .ok (l.foldl (fun n c => n * 10 + (c.toNat - 48)) a) else .range
  | [], a, _, ha => by
    rw [Lib.parseUint10, List.foldl_nil, if_pos ha]
  | c :: r, a, h, ha => by
    simp only [List.all_cons, Bool.and_eq_true] at h
    have hm := num_mono r (a * 10 + (c.toNat - 48))
    rw [Lib.parseUint10, if_pos (digit_nat h.1), List.foldl_cons]
    by_cases h1 : 1844674407370955162 ≤ a
    · rw [if_pos h1, if_neg (by omega)]
    rw [if_neg h1]
    by_cases h2 : 18446744073709551616 ≤ a * 10 + (c.toNat - 48)
    · rw [if_pos h2, if_neg (by omega)]
    rw [if_neg h2]
    exact uint_val r _ h.2 (by omega)
theorem int_val {l : List UInt8} (h : l.all digitB = true) (hne : l ≠ []) : Lib.parseIntB 64 l = if numB l ≤ 9223372036854775807 then .ok (numB l : Int) else .range := by
  rw [Lib.parseIntB_64]
  cases l with
  | nil => exact absurd rfl hne
  | cons c r =>
    have hd := digit_nat (List.all_eq_true.1 h c (by simp))
    have hu := uint_val (c :: r) 0 h (by omega)
    unfold numB
    obtain ⟨v, hv⟩ : ∃ v, (c :: r).foldl (fun n c => n * 10 + (c.toNat - 48)) 0 = v := ⟨_, rfl⟩
    rw [hv] at hu ⊢
    have hm : Lib.parseMag (c :: r) = if v < 18446744073709551616 then .ok v else .range := by
      unfold Lib.parseMag
      rw [if_neg (by simp), hu]
    simp only [Lib.atoiAll]
    rw [if_neg (by omega), hm]
    by_cases h1 : v < 18446744073709551616
    · rw [if_pos h1]
      simp only
      by_cases h2 : v ≤ 9223372036854775807
      · rw [if_neg (by omega), if_neg (by omega), if_neg (by omega), if_pos h2]
      · rw [if_pos (by omega), if_neg h2]
    · rw [if_neg h1, if_neg (by omega)]
end Go.Proofs.YtdjdkhbaemjnnaaDoor
