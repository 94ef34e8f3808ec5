/- WholeKnown's reckonings, one by one. -/
import Derived.Test.YtcpfhjdjooakcaaDoorWTexts
namespace Go.Proofs.YtcpfhjdjooakcaaDoor
open Go.RowKit
set_option linter.unusedVariables false
def twoOf (x : Int × Int) : Int := if x.2 = 0 then x.1 else 99 + x.2
theorem law_two {op : ByteArray} {a b : Int} {x : Int × Int} {w : World} (H : ∀ w, Calls Tryd.prog 15 #[.string op, .int .i64 a, .int .i64 b] w fun e w' => e = Ret2 x ∧ w = w') (hx : 0 ≤ x.2 ∧ x.2 ≤ 20) {r : Int} (hr : twoOf x = r) :
    Calls Tryd.prog 11 #[.string op, .int .i64 a, .int .i64 b] w fun e w' => e = .returned (.int .i64 r) ∧ w = w' := by
  subst hr
  obtain ⟨x1, x2⟩ := x
  simp only [] at H hx
  unfold twoOf
  by_cases h : x2 = 0
  · subst h
    go_enter Tryd.func11, Tryd.ntmps11
    (go_wp2_with fail; go_fit (H _); rintro e w' ⟨rfl, rfl⟩)
    go_wp2
    go_ret
    exact ⟨rfl, rfl⟩
  · have g : (x2 == 0) = false := beq_false_of_ne h
    rw [if_neg h]
    have h1 : IntKind.i64.wrap (99 + x2) = 99 + x2 := wrap_in (by unfold R; omega)
    obtain ⟨h2, h3⟩ := hx
    go_enter Tryd.func11, Tryd.ntmps11
    (go_wp2_with fail; go_fit (H _); rintro e w' ⟨rfl, rfl⟩)
    go_wp2
    go_ret
    exact ⟨rfl, rfl⟩
theorem k0 {w : World} : Calls Tryd.prog 11 #[.string ⟨#[43]⟩, .int .i64 9223372036854775807, .int .i64 1] w fun e w' => e = .returned (.int .i64 102) ∧ w = w' :=
  law_two (x := ex (9223372036854775807 + 1)) (fun w => two_add (by decide +kernel) (by decide +kernel)) (by decide +kernel) (by decide +kernel)
theorem k1 {w : World} : Calls Tryd.prog 11 #[.string ⟨#[45]⟩, .int .i64 (-9223372036854775808), .int .i64 1] w fun e w' => e = .returned (.int .i64 102) ∧ w = w' :=
  law_two (x := ex ((-9223372036854775808) - 1)) (fun w => two_sub (by decide +kernel) (by decide +kernel)) (by decide +kernel) (by decide +kernel)
theorem k2 {w : World} : Calls Tryd.prog 11 #[.string ⟨#[42]⟩, .int .i64 4294967296, .int .i64 2147483648] w fun e w' => e = .returned (.int .i64 102) ∧ w = w' :=
  law_two (x := ex (4294967296 * 2147483648)) (fun w => two_mul (by decide +kernel) (by decide +kernel)) (by decide +kernel) (by decide +kernel)
theorem k3 {w : World} : Calls Tryd.prog 11 #[.string ⟨#[47, 47]⟩, .int .i64 (-9223372036854775808), .int .i64 (-1)] w fun e w' => e = .returned (.int .i64 102) ∧ w = w' :=
  law_two (x := quo (-9223372036854775808) (-1)) (fun w => two_quo (by decide +kernel) (by decide +kernel)) (by decide +kernel) (by decide +kernel)
theorem k4 {w : World} : Calls Tryd.prog 11 #[.string ⟨#[60, 60]⟩, .int .i64 1, .int .i64 63] w fun e w' => e = .returned (.int .i64 102) ∧ w = w' :=
  law_two (x := shl 1 63) (fun w => two_shl (by decide +kernel) (by decide +kernel)) (by decide +kernel) (by decide +kernel)
theorem k5 {w : World} : Calls Tryd.prog 11 #[.string ⟨#[94]⟩, .int .i64 10, .int .i64 19] w fun e w' => e = .returned (.int .i64 102) ∧ w = w' :=
  law_two (x := power 10 19) (fun w => two_pow (by decide +kernel) (by decide +kernel)) (by decide +kernel) (by decide +kernel)
theorem k6 {w : World} : Calls Tryd.prog 11 #[.string ⟨#[42]⟩, .int .i64 (-9223372036854775808), .int .i64 (-1)] w fun e w' => e = .returned (.int .i64 102) ∧ w = w' :=
  law_two (x := ex ((-9223372036854775808) * (-1))) (fun w => two_mul (by decide +kernel) (by decide +kernel)) (by decide +kernel) (by decide +kernel)
theorem k10 {w : World} : Calls Tryd.prog 11 #[.string ⟨#[47, 47]⟩, .int .i64 (-7), .int .i64 2] w fun e w' => e = .returned (.int .i64 (-3)) ∧ w = w' :=
  law_two (x := quo (-7) 2) (fun w => two_quo (by decide +kernel) (by decide +kernel)) (by decide +kernel) (by decide +kernel)
theorem k11 {w : World} : Calls Tryd.prog 11 #[.string ⟨#[109, 111, 100]⟩, .int .i64 7, .int .i64 (-3)] w fun e w' => e = .returned (.int .i64 (-2)) ∧ w = w' :=
  law_two (x := mdl 7 (-3)) (fun w => two_mod (by decide +kernel) (by decide +kernel)) (by decide +kernel) (by decide +kernel)
theorem k12 {w : World} : Calls Tryd.prog 11 #[.string ⟨#[114, 101, 109]⟩, .int .i64 (-9223372036854775808), .int .i64 (-1)] w fun e w' => e = .returned (.int .i64 0) ∧ w = w' :=
  law_two (x := rmd (-9223372036854775808) (-1)) (fun w => two_rem (by decide +kernel) (by decide +kernel)) (by decide +kernel) (by decide +kernel)
theorem k13 {w : World} : Calls Tryd.prog 11 #[.string ⟨#[109, 111, 100]⟩, .int .i64 (-9223372036854775808), .int .i64 (-1)] w fun e w' => e = .returned (.int .i64 0) ∧ w = w' :=
  law_two (x := mdl (-9223372036854775808) (-1)) (fun w => two_mod (by decide +kernel) (by decide +kernel)) (by decide +kernel) (by decide +kernel)
theorem k14 {w : World} : Calls Tryd.prog 11 #[.string ⟨#[47, 47]⟩, .int .i64 1, .int .i64 0] w fun e w' => e = .returned (.int .i64 103) ∧ w = w' :=
  law_two (x := quo 1 0) (fun w => two_quo (by decide +kernel) (by decide +kernel)) (by decide +kernel) (by decide +kernel)
theorem k15 {w : World} : Calls Tryd.prog 11 #[.string ⟨#[109, 111, 100]⟩, .int .i64 1, .int .i64 0] w fun e w' => e = .returned (.int .i64 103) ∧ w = w' :=
  law_two (x := mdl 1 0) (fun w => two_mod (by decide +kernel) (by decide +kernel)) (by decide +kernel) (by decide +kernel)
theorem k16 {w : World} : Calls Tryd.prog 11 #[.string ⟨#[62, 62]⟩, .int .i64 (-1), .int .i64 63] w fun e w' => e = .returned (.int .i64 (-1)) ∧ w = w' :=
  law_two (x := shr (-1) 63) (fun w => two_shr (by decide +kernel) (by decide +kernel)) (by decide +kernel) (by decide +kernel)
theorem k17 {w : World} : Calls Tryd.prog 11 #[.string ⟨#[62, 62]⟩, .int .i64 5, .int .i64 64] w fun e w' => e = .returned (.int .i64 104) ∧ w = w' :=
  law_two (x := shr 5 64) (fun w => two_shr (by decide +kernel) (by decide +kernel)) (by decide +kernel) (by decide +kernel)
theorem k18 {w : World} : Calls Tryd.prog 11 #[.string ⟨#[60, 60]⟩, .int .i64 (-1), .int .i64 63] w fun e w' => e = .returned (.int .i64 (-9223372036854775808)) ∧ w = w' :=
  law_two (x := shl (-1) 63) (fun w => two_shl (by decide +kernel) (by decide +kernel)) (by decide +kernel) (by decide +kernel)
theorem k19 {w : World} : Calls Tryd.prog 11 #[.string ⟨#[94]⟩, .int .i64 2, .int .i64 62] w fun e w' => e = .returned (.int .i64 4611686018427387904) ∧ w = w' :=
  law_two (x := power 2 62) (fun w => two_pow (by decide +kernel) (by decide +kernel)) (by decide +kernel) (by decide +kernel)
theorem k20 {w : World} : Calls Tryd.prog 11 #[.string ⟨#[94]⟩, .int .i64 (-1), .int .i64 (-3)] w fun e w' => e = .returned (.int .i64 (-1)) ∧ w = w' :=
  law_two (x := power (-1) (-3)) (fun w => two_pow (by decide +kernel) (by decide +kernel)) (by decide +kernel) (by decide +kernel)
theorem k21 {w : World} : Calls Tryd.prog 11 #[.string ⟨#[94]⟩, .int .i64 1, .int .i64 (-3)] w fun e w' => e = .returned (.int .i64 1) ∧ w = w' :=
  law_two (x := power 1 (-3)) (fun w => two_pow (by decide +kernel) (by decide +kernel)) (by decide +kernel) (by decide +kernel)
theorem k22 {w : World} : Calls Tryd.prog 11 #[.string ⟨#[94]⟩, .int .i64 2, .int .i64 (-1)] w fun e w' => e = .returned (.int .i64 104) ∧ w = w' :=
  law_two (x := power 2 (-1)) (fun w => two_pow (by decide +kernel) (by decide +kernel)) (by decide +kernel) (by decide +kernel)
theorem k23 {w : World} : Calls Tryd.prog 11 #[.string ⟨#[94]⟩, .int .i64 0, .int .i64 0] w fun e w' => e = .returned (.int .i64 1) ∧ w = w' :=
  law_two (x := power 0 0) (fun w => two_pow (by decide +kernel) (by decide +kernel)) (by decide +kernel) (by decide +kernel)
theorem k24 {w : World} : Calls Tryd.prog 11 #[.string ⟨#[120, 111, 114]⟩, .int .i64 6, .int .i64 3] w fun e w' => e = .returned (.int .i64 5) ∧ w = w' :=
  law_two (x := (bits .xor .i64 6 3, 0)) (fun w => two_xor) (by decide +kernel) (by decide +kernel)
theorem k25 {w : World} : Calls Tryd.prog 11 #[.string ⟨#[109, 105, 110]⟩, .int .i64 2, .int .i64 (-2)] w fun e w' => e = .returned (.int .i64 (-2)) ∧ w = w' :=
  law_two (x := (mn 2 (-2), 0)) (fun w => two_min) (by decide +kernel) (by decide +kernel)
theorem k26 {w : World} : Calls Tryd.prog 11 #[.string ⟨#[109, 97, 120]⟩, .int .i64 2, .int .i64 (-2)] w fun e w' => e = .returned (.int .i64 2) ∧ w = w' :=
  law_two (x := (mx 2 (-2), 0)) (fun w => two_max) (by decide +kernel) (by decide +kernel)
set_option maxRecDepth 100000 in
theorem one_neg {a : Int} {w : World} (ha : R a) : Calls Tryd.prog 12 #[.string ⟨#[45]⟩, .int .i64 a] w fun e w' => e = Ret2 (ex (0 - a)) ∧ w = w' := by
  have H := fun w => @minus_at 0 a w R0 ha
  generalize ex (0 - a) = y at H
  obtain ⟨y1, y2⟩ := y
  simp only [] at H
  go_enter Tryd.func12, Tryd.ntmps12
  go_wp2_with (go_at_call 22; go_fit (H _); rintro e w' ⟨rfl, rfl⟩)
  go_ret2
  exact ⟨rfl, rfl⟩
theorem one_abs {a : Int} {w : World} (ha : R a) : Calls Tryd.prog 12 #[.string ⟨#[97, 98, 115]⟩, .int .i64 a] w fun e w' => e = Ret2 (if a < 0 then ex (0 - a) else (a, 0)) ∧ w = w' := by
  by_cases h : a < 0
  · rw [if_pos h]
    have H := fun w => @minus_at 0 a w R0 ha
    generalize ex (0 - a) = y at H
    obtain ⟨y1, y2⟩ := y
    simp only [] at H
    go_enter Tryd.func12, Tryd.ntmps12
    go_wp2_with (go_at_call 22; go_fit (H _); rintro e w' ⟨rfl, rfl⟩)
    go_ret2
    exact ⟨rfl, rfl⟩
  · rw [if_neg h]
    go_enter Tryd.func12, Tryd.ntmps12
    go_wp2
    go_ret2
    exact ⟨rfl, rfl⟩
theorem one_what {a : Int} {w : World} : Calls Tryd.prog 12 #[.string ⟨#[63]⟩, .int .i64 a] w fun e w' => e = Ret2 (0, 1) ∧ w = w' := by
  go_enter Tryd.func12, Tryd.ntmps12
  go_wp2
  go_ret2
  exact ⟨rfl, rfl⟩
theorem one_tilde {a : Int} {w : World} (ha : R a) : Calls Tryd.prog 12 #[.string ⟨#[92]⟩, .int .i64 a] w fun e w' => e = Ret2 (-1 - a, 0) ∧ w = w' := by
  have h := not_i64 ha
  go_enter Tryd.func12, Tryd.ntmps12
  go_wp2
  go_ret2
  exact ⟨rfl, rfl⟩
theorem two_what {a b : Int} {w : World} : Calls Tryd.prog 15 #[.string ⟨#[63]⟩, .int .i64 a, .int .i64 b] w fun e w' => e = Ret2 (0, 1) ∧ w = w' := by
  go_enter Tryd.func15, Tryd.ntmps15
  go_wp2
  go_ret2
  exact ⟨rfl, rfl⟩
theorem cmp_what {a b : Int} {w : World} : Calls Tryd.prog 13 #[.string ⟨#[63]⟩, .int .i64 a, .int .i64 b] w fun e w' => e = .returned (.tuple #[.bool false, .int .i64 1]) ∧ w = w' := by
  go_enter Tryd.func13, Tryd.ntmps13
  go_wp2
  go_ret2
  exact ⟨rfl, rfl⟩
theorem k_neg {w : World} : Calls Tryd.prog 12 #[.string ⟨#[45]⟩, .int .i64 (-9223372036854775808)] w fun e w' => e = Ret2 (0, 3) ∧ w = w' := by
  have := @one_neg (-9223372036854775808) w (by decide +kernel)
  rw [show ex (0 - (-9223372036854775808)) = (0, 3) from by decide +kernel] at this; exact this
theorem k_abs {w : World} : Calls Tryd.prog 12 #[.string ⟨#[97, 98, 115]⟩, .int .i64 (-9223372036854775808)] w fun e w' => e = Ret2 (0, 3) ∧ w = w' := by
  have := @one_abs (-9223372036854775808) w (by decide +kernel)
  rw [if_pos (by decide), show ex (0 - (-9223372036854775808)) = (0, 3) from by decide +kernel] at this; exact this
theorem k_tilde {w : World} : Calls Tryd.prog 12 #[.string ⟨#[92]⟩, .int .i64 0] w fun e w' => e = Ret2 (-1, 0) ∧ w = w' := one_tilde (by decide)
theorem p0 {w : World} (he : Err w) : Calls Tryd.prog 14 #[.string ⟨#[57, 50, 50, 51, 51, 55, 50, 48, 51, 54, 56, 53, 52, 55, 55, 53, 56, 48, 56]⟩] w fun e w' => e = Ret2 (0, 3) ∧ Below w.heap.size w w' :=
  parse_at (x := (0, 3)) ⟨#[57, 50, 50, 51, 51, 55, 50, 48, 51, 54, 56, 53, 52, 55, 55, 53, 56, 48, 56]⟩ he (by decide) (by decide +kernel)
theorem p1 {w : World} (he : Err w) : Calls Tryd.prog 14 #[.string ⟨#[45, 57, 50, 50, 51, 51, 55, 50, 48, 51, 54, 56, 53, 52, 55, 55, 53, 56, 48, 56]⟩] w fun e w' => e = Ret2 (-9223372036854775808, 0) ∧ Below w.heap.size w w' :=
  parse_at (x := (-9223372036854775808, 0)) ⟨#[45, 57, 50, 50, 51, 51, 55, 50, 48, 51, 54, 56, 53, 52, 55, 55, 53, 56, 48, 56]⟩ he (by decide) (by decide +kernel)
theorem p2 {w : World} (he : Err w) : Calls Tryd.prog 14 #[.string ⟨#[45, 48, 48, 55]⟩] w fun e w' => e = Ret2 (-7, 0) ∧ Below w.heap.size w w' :=
  parse_at (x := (-7, 0)) ⟨#[45, 48, 48, 55]⟩ he (by decide) (by decide +kernel)
theorem p3 {w : World} (he : Err w) : Calls Tryd.prog 14 #[.string ⟨#[45]⟩] w fun e w' => e = Ret2 (0, 2) ∧ Below w.heap.size w w' :=
  parse_at (x := (0, 2)) ⟨#[45]⟩ he (by decide) (by decide +kernel)
theorem p4 {w : World} (he : Err w) : Calls Tryd.prog 14 #[.string ⟨#[]⟩] w fun e w' => e = Ret2 (0, 2) ∧ Below w.heap.size w w' :=
  parse_at (x := (0, 2)) ⟨#[]⟩ he (by decide) (by decide +kernel)
theorem p5 {w : World} (he : Err w) : Calls Tryd.prog 14 #[.string ⟨#[43, 49]⟩] w fun e w' => e = Ret2 (0, 2) ∧ Below w.heap.size w w' :=
  parse_at (x := (0, 2)) ⟨#[43, 49]⟩ he (by decide) (by decide +kernel)
theorem p6 {w : World} (he : Err w) : Calls Tryd.prog 14 #[.string ⟨#[32, 49]⟩] w fun e w' => e = Ret2 (0, 2) ∧ Below w.heap.size w w' :=
  parse_at (x := (0, 2)) ⟨#[32, 49]⟩ he (by decide) (by decide +kernel)
theorem text_least : numText (-9223372036854775808) = ⟨#[45, 57, 50, 50, 51, 51, 55, 50, 48, 51, 54, 56, 53, 52, 55, 55, 53, 56, 48, 56]⟩ := by
  have : Lib.itoa (-9223372036854775808) = [45, 57, 50, 50, 51, 51, 55, 50, 48, 51, 54, 56, 53, 52, 55, 55, 53, 56, 48, 56] := by
    unfold Lib.itoa
    rw [if_pos (by decide)]
    simp [Lib.decDigits]
  unfold numText; rw [this]
/-- Seven numbers, each 102. -/
def Sevens (w : World) (b : Nat) : Prop := b < w.heap.size ∧ ∀ k, k < 7 → w.cell? ⟨b, 0 + k, none⟩ = some (.int .i64 102)
theorem Sevens.ext {w w' : World} {b : Nat} (h : Sevens w b) (hb : Below w.heap.size w w') : Sevens w' b :=
  ⟨Nat.lt_of_lt_of_le h.1 hb.size, fun k hk => cell_later hb (h.2 k hk)⟩
end Go.Proofs.YtcpfhjdjooakcaaDoor
