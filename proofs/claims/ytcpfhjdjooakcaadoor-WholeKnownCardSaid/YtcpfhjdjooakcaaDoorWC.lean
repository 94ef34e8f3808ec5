/- Package whole's Two, at each of its names. -/
import Derived.Test.YtcpfhjdjooakcaaDoorWB
namespace Go.Proofs.YtcpfhjdjooakcaaDoor
open Go.RowKit
set_option linter.unusedVariables false

abbrev Ret2 (x : Int × Int) : Ending := .returned (.tuple #[.int .i64 x.1, .int .i64 x.2])
theorem two_add {a b : Int} {w : World} (ha : R a) (hb : R b) : Calls Tryd.prog 15 #[.string ⟨#[43]⟩, .int .i64 a, .int .i64 b] w fun e w' => e = Ret2 (ex (a + b)) ∧ w = w' := by
  have H := @plus_at a b w ha hb
  generalize ex (a + b) = y at H
  obtain ⟨y1, y2⟩ := y
  simp only [] at H
  go_enter Tryd.func15, Tryd.ntmps15
  go_wp2_with (go_at_call 27; go_fit (H); rintro e w' ⟨rfl, rfl⟩)
  go_ret2
  exact ⟨rfl, rfl⟩
theorem two_sub {a b : Int} {w : World} (ha : R a) (hb : R b) : Calls Tryd.prog 15 #[.string ⟨#[45]⟩, .int .i64 a, .int .i64 b] w fun e w' => e = Ret2 (ex (a - b)) ∧ w = w' := by
  have H := @minus_at a b w ha hb
  generalize ex (a - b) = y at H
  obtain ⟨y1, y2⟩ := y
  simp only [] at H
  go_enter Tryd.func15, Tryd.ntmps15
  go_wp2_with (go_at_call 22; go_fit (H); rintro e w' ⟨rfl, rfl⟩)
  go_ret2
  exact ⟨rfl, rfl⟩
theorem two_mul {a b : Int} {w : World} (ha : R a) (hb : R b) : Calls Tryd.prog 15 #[.string ⟨#[42]⟩, .int .i64 a, .int .i64 b] w fun e w' => e = Ret2 (ex (a * b)) ∧ w = w' := by
  have H := @times_at a b w ha hb
  generalize ex (a * b) = y at H
  obtain ⟨y1, y2⟩ := y
  simp only [] at H
  go_enter Tryd.func15, Tryd.ntmps15
  go_wp2_with (go_at_call 28; go_fit (H); rintro e w' ⟨rfl, rfl⟩)
  go_ret2
  exact ⟨rfl, rfl⟩
theorem two_quo {a b : Int} {w : World} (ha : R a) (hb : R b) : Calls Tryd.prog 15 #[.string ⟨#[47, 47]⟩, .int .i64 a, .int .i64 b] w fun e w' => e = Ret2 (quo a b) ∧ w = w' := by
  have H := @quo_at a b w ha hb
  generalize quo a b = y at H
  obtain ⟨y1, y2⟩ := y
  simp only [] at H
  go_enter Tryd.func15, Tryd.ntmps15
  go_wp2_with (go_at_call 29; go_fit (H); rintro e w' ⟨rfl, rfl⟩)
  go_ret2
  exact ⟨rfl, rfl⟩
theorem two_rem {a b : Int} {w : World} (ha : R a) (hb : R b) : Calls Tryd.prog 15 #[.string ⟨#[114, 101, 109]⟩, .int .i64 a, .int .i64 b] w fun e w' => e = Ret2 (rmd a b) ∧ w = w' := by
  have H := @rmd_at a b w 
  generalize rmd a b = y at H
  obtain ⟨y1, y2⟩ := y
  simp only [] at H
  go_enter Tryd.func15, Tryd.ntmps15
  go_wp2_with (go_at_call 30; go_fit (H); rintro e w' ⟨rfl, rfl⟩)
  go_ret2
  exact ⟨rfl, rfl⟩
theorem two_mod {a b : Int} {w : World} (ha : R a) (hb : R b) : Calls Tryd.prog 15 #[.string ⟨#[109, 111, 100]⟩, .int .i64 a, .int .i64 b] w fun e w' => e = Ret2 (mdl a b) ∧ w = w' := by
  have H := @mdl_at a b w hb
  generalize mdl a b = y at H
  obtain ⟨y1, y2⟩ := y
  simp only [] at H
  go_enter Tryd.func15, Tryd.ntmps15
  go_wp2_with (go_at_call 31; go_fit (H); rintro e w' ⟨rfl, rfl⟩)
  go_ret2
  exact ⟨rfl, rfl⟩
theorem two_shr {a b : Int} {w : World} (ha : R a) (hb : R b) : Calls Tryd.prog 15 #[.string ⟨#[62, 62]⟩, .int .i64 a, .int .i64 b] w fun e w' => e = Ret2 (shr a b) ∧ w = w' := by
  have H := @shr_at a b w 
  generalize shr a b = y at H
  obtain ⟨y1, y2⟩ := y
  simp only [] at H
  go_enter Tryd.func15, Tryd.ntmps15
  go_wp2_with (go_at_call 32; go_fit (H); rintro e w' ⟨rfl, rfl⟩)
  go_ret2
  exact ⟨rfl, rfl⟩
theorem two_shl {a b : Int} {w : World} (ha : R a) (hb : R b) : Calls Tryd.prog 15 #[.string ⟨#[60, 60]⟩, .int .i64 a, .int .i64 b] w fun e w' => e = Ret2 (shl a b) ∧ w = w' := by
  have H := @shl_at a b w 
  generalize shl a b = y at H
  obtain ⟨y1, y2⟩ := y
  simp only [] at H
  go_enter Tryd.func15, Tryd.ntmps15
  go_wp2_with (go_at_call 33; go_fit (H); rintro e w' ⟨rfl, rfl⟩)
  go_ret2
  exact ⟨rfl, rfl⟩
theorem two_pow {a b : Int} {w : World} (ha : R a) (hb : R b) : Calls Tryd.prog 15 #[.string ⟨#[94]⟩, .int .i64 a, .int .i64 b] w fun e w' => e = Ret2 (power a b) ∧ w = w' := by
  have H := @power_at a b w ha hb
  generalize power a b = y at H
  obtain ⟨y1, y2⟩ := y
  simp only [] at H
  go_enter Tryd.func15, Tryd.ntmps15
  go_wp2_with (go_at_call 34; go_fit (H); rintro e w' ⟨rfl, rfl⟩)
  go_ret2
  exact ⟨rfl, rfl⟩
theorem two_and {a b : Int} {w : World} : Calls Tryd.prog 15 #[.string ⟨#[47, 92]⟩, .int .i64 a, .int .i64 b] w fun e w' => e = Ret2 (bits .and .i64 a b, 0) ∧ w = w' := by
  go_enter Tryd.func15, Tryd.ntmps15
  go_wp2
  go_ret2
  exact ⟨rfl, rfl⟩
theorem two_or {a b : Int} {w : World} : Calls Tryd.prog 15 #[.string ⟨#[92, 47]⟩, .int .i64 a, .int .i64 b] w fun e w' => e = Ret2 (bits .or .i64 a b, 0) ∧ w = w' := by
  go_enter Tryd.func15, Tryd.ntmps15
  go_wp2
  go_ret2
  exact ⟨rfl, rfl⟩
theorem two_xor {a b : Int} {w : World} : Calls Tryd.prog 15 #[.string ⟨#[120, 111, 114]⟩, .int .i64 a, .int .i64 b] w fun e w' => e = Ret2 (bits .xor .i64 a b, 0) ∧ w = w' := by
  go_enter Tryd.func15, Tryd.ntmps15
  go_wp2
  go_ret2
  exact ⟨rfl, rfl⟩
def mn (a b : Int) : Int := if b < a then b else a
def mx (a b : Int) : Int := if a < b then b else a
theorem two_min {a b : Int} {w : World} : Calls Tryd.prog 15 #[.string ⟨#[109, 105, 110]⟩, .int .i64 a, .int .i64 b] w fun e w' => e = Ret2 (mn a b, 0) ∧ w = w' := by
  unfold mn
  by_cases h : b < a
  · rw [if_pos h]
    go_enter Tryd.func15, Tryd.ntmps15
    go_wp2
    go_ret2
    exact ⟨rfl, rfl⟩
  · rw [if_neg h]
    go_enter Tryd.func15, Tryd.ntmps15
    go_wp2
    go_ret2
    exact ⟨rfl, rfl⟩
theorem two_max {a b : Int} {w : World} : Calls Tryd.prog 15 #[.string ⟨#[109, 97, 120]⟩, .int .i64 a, .int .i64 b] w fun e w' => e = Ret2 (mx a b, 0) ∧ w = w' := by
  unfold mx
  by_cases h : a < b
  · rw [if_pos h]
    go_enter Tryd.func15, Tryd.ntmps15
    go_wp2
    go_ret2
    exact ⟨rfl, rfl⟩
  · rw [if_neg h]
    go_enter Tryd.func15, Tryd.ntmps15
    go_wp2
    go_ret2
    exact ⟨rfl, rfl⟩
end Go.Proofs.YtcpfhjdjooakcaaDoor
