/- The document's own reckonings (sizarref1): each returns the same exact answer. -/
import Derived.Test.YtcpfhjdjooakcaaDoorWTexts
import Derived.Test.YtcpfhjdjooakcaaDoorDig2
import Derived.Test.YtcpfhjdjooakcaaDoorWK1
namespace Go.Proofs.YtcpfhjdjooakcaaDoor
open Go.RowKit
set_option linter.unusedVariables false
set_option maxRecDepth 100000

theorem least_at {w : World} : Calls Tryd.prog 36 #[] w fun e w' => e = .returned (.int .i64 (-9223372036854775808)) ∧ w = w' := by
  go_enter Tryd.func36, Tryd.ntmps36
  go_wp2
  go_ret
  exact ⟨rfl, rfl⟩
theorem r_add {a b : Int} {w : World} (ha : R a) (hb : R b) : Calls Tryd.prog 17 #[.string ⟨#[43]⟩, .int .i64 a, .int .i64 b] w fun e w' => e = Ret2 (ex (a + b)) ∧ w = w' := by
  by_cases h : R (a + b)
  · have h1 := wrap_in h
    rw [ex_in h]
    have h2 : ((decide (0 ≤ a) && decide (0 ≤ b)) && decide (a + b < 0)) = false := by
      cases h3 : ((decide (0 ≤ a) && decide (0 ≤ b)) && decide (a + b < 0))
      · rfl
      · simp at h3; omega
    by_cases p0 : 0 ≤ a
    · by_cases p1 : 0 ≤ b
      · have p2 : ¬ (a + b < 0) := by omega
        go_enter Tryd.func17, Tryd.ntmps17
        go_wp2
        go_ret2
        exact ⟨rfl, rfl⟩
      · go_enter Tryd.func17, Tryd.ntmps17
        go_wp2
        go_ret2
        exact ⟨rfl, rfl⟩
    · by_cases p1 : 0 ≤ b
      · go_enter Tryd.func17, Tryd.ntmps17
        go_wp2
        go_ret2
        exact ⟨rfl, rfl⟩
      · have p2 : ¬ (0 ≤ a + b) := by omega
        go_enter Tryd.func17, Tryd.ntmps17
        go_wp2
        go_ret2
        exact ⟨rfl, rfl⟩
  · rw [ex_out h]
    have hw : wrap64 (a + b) = (a + b + 9223372036854775808) % 18446744073709551616 - 9223372036854775808 := by rw [← IntWalk.i64_left, IntKind.wrap_i64]
    by_cases p0 : 0 ≤ a
    · have p1 : 0 ≤ b := by unfold R at *; omega
      have p2 : wrap64 (a + b) < 0 := by unfold R at *; omega
      clear hw h
      go_enter Tryd.func17, Tryd.ntmps17
      go_wp2
      go_ret2
      exact ⟨rfl, rfl⟩
    · have p1 : b < 0 := by unfold R at *; omega
      have p2 : 0 ≤ wrap64 (a + b) := by unfold R at *; omega
      clear hw h
      go_enter Tryd.func17, Tryd.ntmps17
      go_wp2
      go_ret2
      exact ⟨rfl, rfl⟩
theorem r_sub {a b : Int} {w : World} (ha : R a) (hb : R b) : Calls Tryd.prog 17 #[.string ⟨#[45]⟩, .int .i64 a, .int .i64 b] w fun e w' => e = Ret2 (ex (a - b)) ∧ w = w' := by
  by_cases h : R (a - b)
  · have h1 := wrap_in h
    rw [ex_in h]
    by_cases p0 : 0 ≤ a
    · by_cases p1 : 0 ≤ b
      · go_enter Tryd.func17, Tryd.ntmps17
        go_wp2
        go_ret2
        exact ⟨rfl, rfl⟩
      · have p2 : ¬ (a - b < 0) := by omega
        go_enter Tryd.func17, Tryd.ntmps17
        go_wp2
        go_ret2
        exact ⟨rfl, rfl⟩
    · by_cases p1 : 0 ≤ b
      · have p2 : ¬ (0 ≤ a - b) := by omega
        go_enter Tryd.func17, Tryd.ntmps17
        go_wp2
        go_ret2
        exact ⟨rfl, rfl⟩
      · go_enter Tryd.func17, Tryd.ntmps17
        go_wp2
        go_ret2
        exact ⟨rfl, rfl⟩
  · rw [ex_out h]
    have hw : wrap64 (a - b) = (a - b + 9223372036854775808) % 18446744073709551616 - 9223372036854775808 := by rw [← IntWalk.i64_left, IntKind.wrap_i64]
    by_cases p0 : 0 ≤ a
    · have p1 : b < 0 := by unfold R at *; omega
      have p2 : wrap64 (a - b) < 0 := by unfold R at *; omega
      clear hw h
      go_enter Tryd.func17, Tryd.ntmps17
      go_wp2
      go_ret2
      exact ⟨rfl, rfl⟩
    · have p1 : 0 ≤ b := by unfold R at *; omega
      have p2 : 0 ≤ wrap64 (a - b) := by unfold R at *; omega
      clear hw h
      go_enter Tryd.func17, Tryd.ntmps17
      go_wp2
      go_ret2
      exact ⟨rfl, rfl⟩
theorem ex_mul0' (b : Int) : ex (0 * b) = (0, 0) := by rw [Int.zero_mul]; rfl
/-- The test ahead of a product. -/
def mulBad (a b : Int) : Prop := (a = -1 ∧ b = -9223372036854775808) ∨ (b = -1 ∧ a = -9223372036854775808)
set_option maxHeartbeats 1000000 in
theorem r_mul {a b : Int} {w : World} (ha : R a) (hb : R b) : Calls Tryd.prog 17 #[.string ⟨#[42]⟩, .int .i64 a, .int .i64 b] w fun e w' => e = Ret2 (ex (a * b)) ∧ w = w' := by
  by_cases a0 : a = 0
  · subst a0
    rw [ex_mul0']
    go_enter Tryd.func17, Tryd.ntmps17
    go_wp2
    go_ret2
    exact ⟨rfl, rfl⟩
  by_cases b0 : b = 0
  · subst b0
    rw [ex_mul0]
    go_enter Tryd.func17, Tryd.ntmps17
    go_wp2
    go_ret2
    exact ⟨rfl, rfl⟩
  have L := fun w => @least_at w
  by_cases c1 : a = -1
  · subst c1
    by_cases c2 : b = -9223372036854775808
    · subst c2
      rw [ex_out (by decide +kernel)]
      go_enter Tryd.func17, Tryd.ntmps17
      go_wp2_with (go_at_call 36; go_fit (L _); rintro e w' ⟨rfl, rfl⟩)
      go_ret2
      exact ⟨rfl, rfl⟩
    · have h : R (-1 * b) := by unfold R at *; omega
      have h1 := wrap_in h
      have h2 : (-1 * b).tdiv b = -1 := Int.mul_tdiv_cancel _ b0
      rw [ex_in h]
      have h4 : IntKind.i64.wrap ((-1 * b).tdiv b) = -1 := by rw [h2]; rfl
      have h5 : IntKind.i64.wrap (-1) = -1 := by rfl
      clear h
      by_cases c3 : b = -1
      · subst c3
        go_enter Tryd.func17, Tryd.ntmps17
        go_wp2_with (go_at_call 36; go_fit (L _); rintro e w' ⟨rfl, rfl⟩)
        go_ret2
        exact ⟨rfl, rfl⟩
      · generalize hp : -1 * b = p at *
        have h6 : -b = p := by omega
        go_enter Tryd.func17, Tryd.ntmps17
        go_wp2_with (go_at_call 36; go_fit (L _); rintro e w' ⟨rfl, rfl⟩)
        go_ret2
        exact ⟨rfl, rfl⟩
  by_cases c3 : b = -1
  · subst c3
    by_cases c4 : a = -9223372036854775808
    · subst c4
      rw [ex_out (by decide +kernel)]
      go_enter Tryd.func17, Tryd.ntmps17
      go_wp2_with (go_at_call 36; go_fit (L _); rintro e w' ⟨rfl, rfl⟩)
      go_ret2
      exact ⟨rfl, rfl⟩
    · have h : R (a * -1) := by unfold R at *; omega
      have h1 := wrap_in h
      have h2 : (a * -1).tdiv (-1) = a := Int.mul_tdiv_cancel _ (by decide)
      rw [ex_in h]
      have h4 : IntKind.i64.wrap ((a * -1).tdiv (-1)) = a := by rw [h2]; exact wrap_in ha
      have h5 : IntKind.i64.wrap a = a := wrap_in ha
      clear h
      generalize hp : a * -1 = p at *
      have h6 : -a = p := by omega
      go_enter Tryd.func17, Tryd.ntmps17
      go_wp2_with (go_at_call 36; go_fit (L _); rintro e w' ⟨rfl, rfl⟩)
      go_ret2
      exact ⟨rfl, rfl⟩
  have f1 : (a == 0) = false := beq_false_of_ne a0
  have f2 : (b == 0) = false := beq_false_of_ne b0
  have f3 : (a == -1) = false := beq_false_of_ne c1
  have f4 : (b == -1) = false := beq_false_of_ne c3
  by_cases h : R (a * b)
  · have h2 := wrap_in h
    have h3 := @mul_in a b b0
    have h5 := wrap_in ha
    rw [ex_in h]
    clear h
    go_enter Tryd.func17, Tryd.ntmps17
    go_wp2_with (go_at_call 36; go_fit (L _); rintro e w' ⟨rfl, rfl⟩)
    go_ret2
    exact ⟨rfl, rfl⟩
  · have h2 : (wrap64 (a * b)).tdiv b ≠ a := by rw [← IntWalk.i64_left]; exact mul_out hb b0 h
    have h3 : ((wrap64 (a * b)).tdiv b == a) = false := beq_false_of_ne h2
    have h4 : IntKind.i64.wrap ((wrap64 (a * b)).tdiv b) = (wrap64 (a * b)).tdiv b := wrap_in (tdiv_R (by rw [← IntWalk.i64_left]; exact wrap_R _) hb c3)
    rw [ex_out h]
    clear h
    go_enter Tryd.func17, Tryd.ntmps17
    go_wp2_with (go_at_call 36; go_fit (L _); rintro e w' ⟨rfl, rfl⟩)
    go_ret2
    exact ⟨rfl, rfl⟩
end Go.Proofs.YtcpfhjdjooakcaaDoor
