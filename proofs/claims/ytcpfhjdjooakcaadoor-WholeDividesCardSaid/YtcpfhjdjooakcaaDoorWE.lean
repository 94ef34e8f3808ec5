/- WholeDivides: divisor times quotient, and the rest, is the number; mod has the divisor's sign, rem the number's. -/
import Derived.Test.YtcpfhjdjooakcaaDoorWD
import Derived.Test.YtcpfhjdjooakcaaDoorOpen
namespace Go.Proofs.YtcpfhjdjooakcaaDoor
open Go.RowKit
set_option linter.unusedVariables false

theorem quo_bad {a b : Int} (ha : R a) (hb : R b) (h : ¬ R (a.tdiv b)) : b = -1 ∧ a = -9223372036854775808 := by
  by_cases h1 : b = -1
  · subst h1
    refine ⟨rfl, ?_⟩
    rw [Int.tdiv_neg, Int.tdiv_one] at h
    unfold R at *; omega
  · exact absurd (tdiv_R ha hb h1) h
theorem natAbs_mul_tdiv (a b : Int) : (a.tdiv b * b).natAbs ≤ a.natAbs := by
  rw [Int.natAbs_mul, Int.natAbs_tdiv]; exact Nat.div_mul_le_self _ _
theorem prod_R {a b : Int} (ha : R a) : R (a.tdiv b * b) := by
  have h1 := natAbs_mul_tdiv a b
  have h2 := Int.tdiv_mul_add_tmod a b
  have h9 : (a.tmod b).natAbs ≤ a.natAbs := by rw [Int.natAbs_tmod]; exact Nat.mod_le _ _
  have h3 : a.tmod b = 0 ∨ (decide (a.tmod b < 0) = decide (a < 0)) := by
    by_cases h : 0 ≤ a
    · have := Int.tmod_nonneg b h; by_cases h0 : a.tmod b = 0
      · exact Or.inl h0
      · right; rw [decide_eq_false (by omega), decide_eq_false (by omega)]
    · have : (-a).tmod b = - a.tmod b := Int.neg_tmod a b
      have h4 := Int.tmod_nonneg b (show 0 ≤ -a by omega)
      by_cases h0 : a.tmod b = 0
      · exact Or.inl h0
      · right; rw [decide_eq_true (by omega), decide_eq_true (by omega)]
  unfold R at *
  rcases h3 with h3 | h3
  · omega
  · by_cases h : a < 0
    · rw [decide_eq_true h, decide_eq_true_eq] at h3; omega
    · rw [decide_eq_false h, decide_eq_false_iff_not] at h3; omega
theorem tmod_sign {a b : Int} (h0 : a.tmod b ≠ 0) : (decide (a.tmod b < 0) == decide (a < 0)) = true := by
  by_cases h : 0 ≤ a
  · have := Int.tmod_nonneg b h
    rw [decide_eq_false (by omega), decide_eq_false (by omega)]; rfl
  · have : (-a).tmod b = - a.tmod b := Int.neg_tmod a b
    have h4 := Int.tmod_nonneg b (show 0 ≤ -a by omega)
    rw [decide_eq_true (by omega), decide_eq_true (by omega)]; rfl
theorem md_sign {a b : Int} (h0 : a.tmod b ≠ 0) (hb : b ≠ 0) : md a b ≠ 0 ∧ (decide (md a b < 0) == decide (b < 0)) = true ∧ (md a b = a.tmod b ∨ md a b ≠ a.tmod b ∧ md a b = a.tmod b + b) := by
  have h1 := Int.tmod_lt_of_pos a (b := b.natAbs) (by omega)
  have h2 := Int.lt_tmod_of_pos a (b := b.natAbs) (by omega)
  have h3 : a.tmod b = a.tmod b.natAbs := by
    rcases Int.natAbs_eq b with e | e
    · exact congrArg (a.tmod ·) e
    · exact (congrArg (a.tmod ·) e).trans (Int.tmod_neg _ _)
  rw [← h3] at h1 h2
  unfold md
  generalize a.tmod b = m at *
  by_cases h4 : decide (m < 0) = decide (b < 0)
  · rw [if_neg (by simp [h4])]
    exact ⟨h0, by rw [h4]; simp, Or.inl rfl⟩
  · rw [if_pos ⟨h0, h4⟩]
    refine ⟨?_, ?_, Or.inr ⟨by omega, rfl⟩⟩
    · by_cases h5 : b < 0 <;> by_cases h6 : m < 0 <;> simp [h5, h6] at h4 <;> omega
    · by_cases h5 : b < 0
      · by_cases h6 : m < 0
        · simp [h5, h6] at h4
        · rw [decide_eq_true h5, decide_eq_true (by omega)]; rfl
      · by_cases h6 : m < 0
        · rw [decide_eq_false h5, decide_eq_false (by omega)]; rfl
        · simp [h5, h6] at h4

set_option maxHeartbeats 1000000 in
set_option maxRecDepth 100000 in
theorem divides_walk {w : World} {a b : Int} (ha : R a) (hb : R b) (ht : Tab w) : Calls Tryd.prog 5 #[.int .i64 a, .int .i64 b] w (IsBool w true) := by
  have A := fun w => @awake_at w
  have Q := fun w => @two_quo a b w ha hb
  by_cases h0 : b = 0
  · subst h0
    rw [show quo a 0 = (0, 4) from if_pos rfl] at Q
    go_enter Tryd.func5, Tryd.ntmps5
    (go_wp2_with fail; go_fit (A _ ht); rintro e w1 ⟨rfl, b1⟩)
    (go_wp2_with fail; go_fit (Q _); rintro e w' ⟨rfl, rfl⟩)
    go_wp2
    go_ret
    exact ⟨rfl, b1⟩
  rw [show quo a b = ex (a.tdiv b) from if_neg h0] at Q
  by_cases h1 : R (a.tdiv b)
  · rw [ex_in h1] at Q
    have RM := fun w => @two_rem a b w ha hb
    have MD := fun w => @two_mod a b w ha hb
    rw [show rmd a b = (a.tmod b, 0) from if_neg h0] at RM
    rw [show mdl a b = (md a b, 0) from if_neg h0] at MD
    have MU := fun w => @two_mul (a.tdiv b) b w h1 hb
    rw [ex_in (prod_R ha)] at MU
    have AD := fun w => @two_add (a.tdiv b * b) (a.tmod b) w (prod_R ha) (tmod_R hb h0)
    rw [Int.tdiv_mul_add_tmod, ex_in ha] at AD
    have F1 := Lib.hid (@tmod_sign a b)
    have F2 := Lib.hid (@md_sign a b)
    have F3 := Lib.hid (md_R (a := a) hb h0)
    have F4 : md a b = 0 ∨ a.tmod b ≠ 0 := by
      by_cases h : a.tmod b = 0
      · left; unfold md; rw [if_neg (by simp [h])]; exact h
      · exact Or.inr h
    have F5 := Lib.hid F4
    clear F4 h1
    generalize a.tdiv b * b = p at *
    generalize a.tdiv b = q at *
    generalize md a b = m at *
    generalize a.tmod b = r at *
    by_cases h2 : r = 0
    · subst h2
      obtain rfl : m = 0 := by rcases F5.out with h | h; exact h; exact absurd rfl h
      go_enter Tryd.func5, Tryd.ntmps5
      (go_wp2_with fail; go_fit (A _ ht); rintro e w1 ⟨rfl, b1⟩)
      (go_wp2_with fail; go_fit (Q _); rintro e w' ⟨rfl, rfl⟩)
      (go_wp2_with fail; go_fit (RM _); rintro e w' ⟨rfl, rfl⟩)
      (go_wp2_with fail; go_fit (MD _); rintro e w' ⟨rfl, rfl⟩)
      (go_wp2_with fail; go_fit (MU _); rintro e w' ⟨rfl, rfl⟩)
      (go_wp2_with fail; go_fit (AD _); rintro e w' ⟨rfl, rfl⟩)
      go_wp2
      go_ret
      exact ⟨rfl, b1⟩
    · obtain ⟨g1, g2, g3⟩ := F2.out h2 h0
      have g4 := F1.out h2
      rcases g3 with g3 | ⟨g3, g5⟩
      · subst g3
        go_enter Tryd.func5, Tryd.ntmps5
        (go_wp2_with fail; go_fit (A _ ht); rintro e w1 ⟨rfl, b1⟩)
        (go_wp2_with fail; go_fit (Q _); rintro e w' ⟨rfl, rfl⟩)
        (go_wp2_with fail; go_fit (RM _); rintro e w' ⟨rfl, rfl⟩)
        (go_wp2_with fail; go_fit (MD _); rintro e w' ⟨rfl, rfl⟩)
        (go_wp2_with fail; go_fit (MU _); rintro e w' ⟨rfl, rfl⟩)
        (go_wp2_with fail; go_fit (AD _); rintro e w' ⟨rfl, rfl⟩)
        go_wp2
        go_ret
        exact ⟨rfl, b1⟩
      · have g6 := F3.out
        rw [g5] at g6
        have g7 := wrap_in g6
        subst g5
        go_enter Tryd.func5, Tryd.ntmps5
        (go_wp2_with fail; go_fit (A _ ht); rintro e w1 ⟨rfl, b1⟩)
        (go_wp2_with fail; go_fit (Q _); rintro e w' ⟨rfl, rfl⟩)
        (go_wp2_with fail; go_fit (RM _); rintro e w' ⟨rfl, rfl⟩)
        (go_wp2_with fail; go_fit (MD _); rintro e w' ⟨rfl, rfl⟩)
        (go_wp2_with fail; go_fit (MU _); rintro e w' ⟨rfl, rfl⟩)
        (go_wp2_with fail; go_fit (AD _); rintro e w' ⟨rfl, rfl⟩)
        go_wp2
        go_ret
        exact ⟨rfl, b1⟩
  · rw [ex_out h1] at Q
    obtain ⟨rfl, rfl⟩ := quo_bad ha hb h1
    clear h1
    go_enter Tryd.func5, Tryd.ntmps5
    (go_wp2_with fail; go_fit (A _ ht); rintro e w1 ⟨rfl, b1⟩)
    (go_wp2_with fail; go_fit (Q _); rintro e w' ⟨rfl, rfl⟩)
    go_wp2
    go_ret
    exact ⟨rfl, b1⟩
end Go.Proofs.YtcpfhjdjooakcaaDoor
