/- Package whole's leaves: each returns just the exact answer, or EOVER. -/
import Derived.Test.YtcpfhjdjooakcaaDoorNum
import Derived.Test.YtcpfhjdjooakcaaDoorChecked
import Derived.Deep.DeepFit
import Derived.Test.YtcpfhjdjooakcaaDoorStr
namespace Go.Proofs.YtcpfhjdjooakcaaDoor
open Go.RowKit

theorem plus_at {a b : Int} {w : World} (ha : R a) (hb : R b) : Calls Tryd.prog 27 #[.int .i64 a, .int .i64 b] w fun e w' => e = .returned (.tuple #[.int .i64 (ex (a + b)).1, .int .i64 (ex (a + b)).2]) ∧ w = w' := by
  by_cases h : R (a + b)
  · have h1 := wrap_in h
    have h2 := @add_in a b
    rw [ex_in h]
    go_enter Tryd.func27, Tryd.ntmps27
    go_wp2
    all_goals (go_ret2; exact ⟨rfl, rfl⟩)
  · have h2 : (decide (wrap64 (a + b) < a) == decide (b < 0)) = false := by rw [← IntWalk.i64_left]; exact beq_false_of_ne (add_out ha hb h)
    rw [ex_out h]
    clear h
    go_enter Tryd.func27, Tryd.ntmps27
    go_wp2
    all_goals (go_ret2; exact ⟨rfl, rfl⟩)
theorem minus_at {a b : Int} {w : World} (ha : R a) (hb : R b) : Calls Tryd.prog 22 #[.int .i64 a, .int .i64 b] w fun e w' => e = .returned (.tuple #[.int .i64 (ex (a - b)).1, .int .i64 (ex (a - b)).2]) ∧ w = w' := by
  by_cases h : R (a - b)
  · have h1 := wrap_in h
    have h2 := @sub_in a b
    rw [ex_in h]
    go_enter Tryd.func22, Tryd.ntmps22
    go_wp2
    all_goals (go_ret2; exact ⟨rfl, rfl⟩)
  · have h2 : (decide (a < wrap64 (a - b)) == decide (b < 0)) = false := by rw [← IntWalk.i64_left]; exact beq_false_of_ne (sub_out ha hb h)
    rw [ex_out h]
    clear h
    go_enter Tryd.func22, Tryd.ntmps22
    go_wp2
    all_goals (go_ret2; exact ⟨rfl, rfl⟩)
theorem ex_mul0 (a : Int) : ex (a * 0) = (0, 0) := by rw [Int.mul_zero]; rfl
theorem ex_mulm (a : Int) : ex (a * (-1)) = ex (0 - a) := by congr 1; omega
theorem R0 : R 0 := by unfold R; omega
theorem times_at {a b : Int} {w : World} (ha : R a) (hb : R b) : Calls Tryd.prog 28 #[.int .i64 a, .int .i64 b] w fun e w' => e = .returned (.tuple #[.int .i64 (ex (a * b)).1, .int .i64 (ex (a * b)).2]) ∧ w = w' := by
  by_cases h0 : b = 0
  · subst h0
    rw [ex_mul0]
    go_enter Tryd.func28, Tryd.ntmps28
    go_wp2
    all_goals (go_ret2; exact ⟨rfl, rfl⟩)
  by_cases h1 : b = -1
  · subst h1
    rw [ex_mulm]
    have H := minus_at (w := w) R0 ha
    generalize ex (0 - a) = y at H
    obtain ⟨y1, y2⟩ := y
    simp only [] at H
    go_enter Tryd.func28, Tryd.ntmps28
    go_wp2_with (go_at_call 22; go_fit (H); rintro e w' ⟨rfl, rfl⟩)
    all_goals (go_ret2; exact ⟨rfl, rfl⟩)
  by_cases h : R (a * b)
  · have h2 := wrap_in h
    have h3 := @mul_in a b h0
    rw [ex_in h]
    have h5 := wrap_in ha
    go_enter Tryd.func28, Tryd.ntmps28
    go_wp2
    all_goals (go_ret2; exact ⟨rfl, rfl⟩)
  · have h2 : (wrap64 (a * b)).tdiv b ≠ a := by rw [← IntWalk.i64_left]; exact mul_out hb h0 h
    have h3 : ((wrap64 (a * b)).tdiv b == a) = false := beq_false_of_ne h2
    have h4 : IntKind.i64.wrap ((wrap64 (a * b)).tdiv b) = (wrap64 (a * b)).tdiv b := wrap_in (tdiv_R (by rw [← IntWalk.i64_left]; exact wrap_R _) hb h1)
    rw [ex_out h]
    clear h
    go_enter Tryd.func28, Tryd.ntmps28
    go_wp2
    all_goals (go_ret2; exact ⟨rfl, rfl⟩)
theorem ex_divm (a : Int) : ex (a.tdiv (-1)) = ex (0 - a) := by congr 1; rw [Int.tdiv_neg, Int.tdiv_one]; omega
theorem quo_at {a b : Int} {w : World} (ha : R a) (hb : R b) : Calls Tryd.prog 29 #[.int .i64 a, .int .i64 b] w fun e w' => e = .returned (.tuple #[.int .i64 (quo a b).1, .int .i64 (quo a b).2]) ∧ w = w' := by
  unfold quo
  by_cases h0 : b = 0
  · subst h0
    go_enter Tryd.func29, Tryd.ntmps29
    go_wp2
    all_goals (go_ret2; exact ⟨rfl, rfl⟩)
  rw [if_neg h0]
  by_cases h1 : b = -1
  · subst h1
    rw [ex_divm]
    have H := minus_at (w := w) R0 ha
    generalize ex (0 - a) = y at H
    obtain ⟨y1, y2⟩ := y
    simp only [] at H
    go_enter Tryd.func29, Tryd.ntmps29
    go_wp2_with (go_at_call 22; go_fit (H); rintro e w' ⟨rfl, rfl⟩)
    all_goals (go_ret2; exact ⟨rfl, rfl⟩)
  · have h2 := tdiv_R ha hb h1
    rw [ex_in h2]
    have h4 := wrap_in h2
    clear h2
    go_enter Tryd.func29, Tryd.ntmps29
    go_wp2
    all_goals (go_ret2; exact ⟨rfl, rfl⟩)
theorem rmd_at {a b : Int} {w : World} : Calls Tryd.prog 30 #[.int .i64 a, .int .i64 b] w fun e w' => e = .returned (.tuple #[.int .i64 (rmd a b).1, .int .i64 (rmd a b).2]) ∧ w = w' := by
  unfold rmd
  by_cases h0 : b = 0
  · subst h0
    go_enter Tryd.func30, Tryd.ntmps30
    go_wp2
    all_goals (go_ret2; exact ⟨rfl, rfl⟩)
  · rw [if_neg h0]
    go_enter Tryd.func30, Tryd.ntmps30
    go_wp2
    all_goals (go_ret2; exact ⟨rfl, rfl⟩)
theorem mdl_at {a b : Int} {w : World} (hb : R b) : Calls Tryd.prog 31 #[.int .i64 a, .int .i64 b] w fun e w' => e = .returned (.tuple #[.int .i64 (mdl a b).1, .int .i64 (mdl a b).2]) ∧ w = w' := by
  have H := @rmd_at a b w
  unfold mdl
  unfold rmd at H
  by_cases h0 : b = 0
  · subst h0
    rw [if_pos rfl] at H
    simp only [] at H
    go_enter Tryd.func31, Tryd.ntmps31
    go_wp2_with (go_at_call 30; go_fit (H); rintro e w' ⟨rfl, rfl⟩)
    all_goals (go_ret2; exact ⟨rfl, rfl⟩)
  · rw [if_neg h0] at H
    rw [if_neg h0]
    simp only [] at H
    have h5 := md_R (a := a) hb h0
    have hm := tmod_R (a := a) hb h0
    unfold md at *
    generalize a.tmod b = m at *
    by_cases h1 : m = 0
    · subst h1
      rw [if_neg (by simp)]
      go_enter Tryd.func31, Tryd.ntmps31
      go_wp2_with (go_at_call 30; go_fit (H); rintro e w' ⟨rfl, rfl⟩)
      all_goals (go_ret2; exact ⟨rfl, rfl⟩)
    · by_cases h2 : decide (m < 0) = decide (b < 0)
      · rw [if_neg (by simp [h2])]
        go_enter Tryd.func31, Tryd.ntmps31
        go_wp2_with (go_at_call 30; go_fit (H); rintro e w' ⟨rfl, rfl⟩)
        all_goals (go_ret2; exact ⟨rfl, rfl⟩)
      · rw [if_pos ⟨h1, h2⟩] at h5
        rw [if_pos ⟨h1, h2⟩]
        have h4 := wrap_in h5
        have h3 : (decide (m < 0) == decide (b < 0)) = false := beq_false_of_ne h2
        clear h2
        go_enter Tryd.func31, Tryd.ntmps31
        go_wp2_with (go_at_call 30; go_fit (H); rintro e w' ⟨rfl, rfl⟩)
        all_goals (go_ret2; exact ⟨rfl, rfl⟩)
theorem shr_at {a b : Int} {w : World} : Calls Tryd.prog 32 #[.int .i64 a, .int .i64 b] w fun e w' => e = .returned (.tuple #[.int .i64 (shr a b).1, .int .i64 (shr a b).2]) ∧ w = w' := by
  unfold shr
  by_cases h0 : b < 0 ∨ 63 < b
  · rw [if_pos h0]
    rcases h0 with h0 | h0
    all_goals
      go_enter Tryd.func32, Tryd.ntmps32
      go_wp2
      all_goals (go_ret2; exact ⟨rfl, rfl⟩)
  · rw [if_neg h0]
    have h1 : 0 ≤ b := by omega
    have h2 : b ≤ 63 := by omega
    clear h0
    go_enter Tryd.func32, Tryd.ntmps32
    go_wp2
    all_goals (go_ret2; exact ⟨rfl, rfl⟩)
theorem shl_at {a b : Int} {w : World} : Calls Tryd.prog 33 #[.int .i64 a, .int .i64 b] w fun e w' => e = .returned (.tuple #[.int .i64 (shl a b).1, .int .i64 (shl a b).2]) ∧ w = w' := by
  unfold shl
  by_cases h0 : b < 0 ∨ 63 < b
  · rw [if_pos h0]
    rcases h0 with h0 | h0
    all_goals
      go_enter Tryd.func33, Tryd.ntmps33
      go_wp2
      all_goals (go_ret2; exact ⟨rfl, rfl⟩)
  · rw [if_neg h0]
    have h1 : 0 ≤ b := by omega
    have h2 : b ≤ 63 := by omega
    clear h0
    have h6 : b.toNat ≤ 63 := by omega
    by_cases h : R (a * 2 ^ b.toNat)
    · have h3 := wrap_in h
      have h4 := @shl_in a b.toNat
      rw [ex_in h]
      clear h h6
      go_enter Tryd.func33, Tryd.ntmps33
      go_wp2
      all_goals (go_ret2; exact ⟨rfl, rfl⟩)
    · have h3 : wrap64 (a * 2 ^ b.toNat) / 2 ^ b.toNat ≠ a := by rw [← IntWalk.i64_left]; exact shl_out h6 h
      have h5 : (wrap64 (a * 2 ^ b.toNat) / 2 ^ b.toNat == a) = false := beq_false_of_ne h3
      rw [ex_out h]
      clear h h6
      go_enter Tryd.func33, Tryd.ntmps33
      go_wp2
      all_goals (go_ret2; exact ⟨rfl, rfl⟩)
theorem unit_at {a b : Int} {w : World} : Calls Tryd.prog 44 #[.int .i64 a, .int .i64 b] w fun e w' => e = .returned (.int .i64 (unit a b)) ∧ w = w' := by
  unfold unit
  by_cases h0 : b.tmod 2 = 0
  · rw [if_pos h0]
    go_enter Tryd.func44, Tryd.ntmps44
    go_wp2
    all_goals (go_ret; exact ⟨rfl, rfl⟩)
  · rw [if_neg h0]
    go_enter Tryd.func44, Tryd.ntmps44
    go_wp2
    all_goals (go_ret; exact ⟨rfl, rfl⟩)
end Go.Proofs.YtcpfhjdjooakcaaDoor
