/- The document's own quotients, shifts, powers. -/
import Derived.Test.YtcpfhjdjooakcaaDoorR1
namespace Go.Proofs.YtcpfhjdjooakcaaDoor
open Go.RowKit
set_option linter.unusedVariables false
set_option maxRecDepth 100000
theorem neg_wrap {a : Int} (ha : R a) (h : a ≠ -9223372036854775808) : IntKind.i64.wrap (0 - a) = 0 - a ∧ IntKind.i64.wrap (-a) = 0 - a := by
  have : R (0 - a) := by unfold R at *; omega
  have e : -a = 0 - a := by omega
  rw [e]
  exact ⟨wrap_in this, wrap_in this⟩
theorem quo_m {a : Int} : quo a (-1) = ex (0 - a) := by unfold quo; rw [if_neg (by decide), ex_divm]
theorem rmd_m {a : Int} : rmd a (-1) = (0, 0) := by unfold rmd; rw [if_neg (by decide), Int.tmod_neg, Int.tmod_one]
theorem mdl_m {a : Int} : mdl a (-1) = (0, 0) := by unfold mdl md; rw [if_neg (by decide), Int.tmod_neg, Int.tmod_one]; rfl
theorem d_quo {a b : Int} {w : World} (ha : R a) (hb : R b) : Calls Tryd.prog 37 #[.string ⟨#[47, 47]⟩, .int .i64 a, .int .i64 b] w fun e w' => e = Ret2 (quo a b) ∧ w = w' := by
  have L := fun w => @least_at w
  by_cases h0 : b = 0
  · subst h0
    go_enter Tryd.func37, Tryd.ntmps37
    go_wp2
    go_ret2
    exact ⟨rfl, rfl⟩
  by_cases h1 : b = -1
  · subst h1
    rw [quo_m]
    by_cases h2 : a = -9223372036854775808
    · subst h2
      rw [ex_out (by decide +kernel)]
      go_enter Tryd.func37, Tryd.ntmps37
      go_wp2_with (go_at_call 36; go_fit (L _); rintro e w' ⟨rfl, rfl⟩)
      go_ret2
      exact ⟨rfl, rfl⟩
    · obtain ⟨n1, n2⟩ := neg_wrap ha h2
      rw [ex_in (by unfold R at *; omega)]
      have g : (a == -9223372036854775808) = false := beq_false_of_ne h2
      have n3 : 0 - a = -a := by omega
      rw [n3] at *
      go_enter Tryd.func37, Tryd.ntmps37
      go_wp2_with (go_at_call 36; go_fit (L _); rintro e w' ⟨rfl, rfl⟩)
      go_ret2
      exact ⟨rfl, rfl⟩
  · have h2 := tdiv_R ha hb h1
    rw [show quo a b = ex (a.tdiv b) from if_neg h0, ex_in h2]
    have h4 := wrap_in h2
    have f1 : (b == 0) = false := beq_false_of_ne h0
    have f2 : (b == -1) = false := beq_false_of_ne h1
    clear h2
    go_enter Tryd.func37, Tryd.ntmps37
    go_wp2
    go_ret2
    exact ⟨rfl, rfl⟩
theorem d_rem {a b : Int} {w : World} (ha : R a) (hb : R b) : Calls Tryd.prog 37 #[.string ⟨#[114, 101, 109]⟩, .int .i64 a, .int .i64 b] w fun e w' => e = Ret2 (rmd a b) ∧ w = w' := by
  by_cases h0 : b = 0
  · subst h0
    go_enter Tryd.func37, Tryd.ntmps37
    go_wp2
    go_ret2
    exact ⟨rfl, rfl⟩
  by_cases h1 : b = -1
  · subst h1
    rw [rmd_m]
    go_enter Tryd.func37, Tryd.ntmps37
    go_wp2
    go_ret2
    exact ⟨rfl, rfl⟩
  · rw [show rmd a b = (a.tmod b, 0) from if_neg h0]
    have f1 : (b == 0) = false := beq_false_of_ne h0
    have f2 : (b == -1) = false := beq_false_of_ne h1
    go_enter Tryd.func37, Tryd.ntmps37
    go_wp2
    go_ret2
    exact ⟨rfl, rfl⟩
theorem d_mod {a b : Int} {w : World} (ha : R a) (hb : R b) : Calls Tryd.prog 37 #[.string ⟨#[109, 111, 100]⟩, .int .i64 a, .int .i64 b] w fun e w' => e = Ret2 (mdl a b) ∧ w = w' := by
  by_cases h0 : b = 0
  · subst h0
    go_enter Tryd.func37, Tryd.ntmps37
    go_wp2
    go_ret2
    exact ⟨rfl, rfl⟩
  by_cases h1 : b = -1
  · subst h1
    rw [mdl_m]
    go_enter Tryd.func37, Tryd.ntmps37
    go_wp2
    go_ret2
    exact ⟨rfl, rfl⟩
  · rw [show mdl a b = (md a b, 0) from if_neg h0]
    have f1 : (b == 0) = false := beq_false_of_ne h0
    have f2 : (b == -1) = false := beq_false_of_ne h1
    have h5 := md_R (a := a) hb h0
    unfold md at *
    obtain ⟨m, hm⟩ : ∃ m, a.tmod b = m := ⟨_, rfl⟩
    rw [hm] at h5 ⊢
    by_cases h3 : m = 0
    · subst h3
      rw [if_neg (by simp)]
      go_enter Tryd.func37, Tryd.ntmps37
      go_wp2
      go_ret2
      exact ⟨rfl, rfl⟩
    · have f3 : (m == 0) = false := beq_false_of_ne h3
      by_cases h2 : decide (m < 0) = decide (b < 0)
      · rw [if_neg (by simp [h2])]
        have g : (decide (m < 0) == decide (b < 0)) = true := by rw [h2]; simp
        clear h2 h5
        go_enter Tryd.func37, Tryd.ntmps37
        go_wp2
        go_ret2
        exact ⟨rfl, rfl⟩
      · rw [if_pos ⟨h3, h2⟩] at h5
        rw [if_pos ⟨h3, h2⟩]
        have h4 := wrap_in h5
        have g : (decide (m < 0) == decide (b < 0)) = false := beq_false_of_ne h2
        clear h2 h5
        go_enter Tryd.func37, Tryd.ntmps37
        go_wp2
        go_ret2
        exact ⟨rfl, rfl⟩
theorem and_one {a : Int} (ha : R a) : bits .and .i64 a 1 = a % 2 := by
  show IntKind.i64.wrap (BitVec.ofInt 64 a &&& BitVec.ofInt 64 1).toNat = _
  rw [BitVec.toNat_and, BitVec.toNat_ofInt, show (BitVec.ofInt 64 1).toNat = 1 from by decide, Nat.and_one_is_mod, IntKind.wrap_i64]
  unfold R at ha
  omega
theorem half {a : Int} : (a - a % 2).tdiv 2 = a / 2 := by
  have h : a - a % 2 = 2 * (a / 2) := by omega
  rw [h, Int.mul_tdiv_cancel_left _ (by decide)]
set_option maxHeartbeats 400000 in
theorem s_shr {a b : Int} {w : World} (ha : R a) (hb : R b) : Calls Tryd.prog 38 #[.string ⟨#[62, 62]⟩, .int .i64 a, .int .i64 b] w fun e w' => e = Ret2 (shr a b) ∧ w = w' := by
  unfold shr
  by_cases h0 : b < 0 ∨ 63 < b
  · rw [if_pos h0]
    rcases h0 with h0 | h0
    all_goals
      go_enter Tryd.func38, Tryd.ntmps38
      go_wp2
      go_ret2
      exact ⟨rfl, rfl⟩
  · rw [if_neg h0]
    have h1 : 0 ≤ b := by omega
    have h2 : b ≤ 63 := by omega
    clear h0
    obtain ⟨n, rfl⟩ := Int.eq_ofNat_of_zero_le h1
    rw [Int.toNat_natCast]
    generalize hr : a / 2 ^ n = r
    have HR := Lib.hid hr; clear hr
    go_enter Tryd.func38, Tryd.ntmps38
    go_wp2
    go_loop [1, 2] (fun x i => ∃ (q : Int) (k : Nat), x = .int .i64 q ∧ i = .int .i64 k ∧ k ≤ n ∧ Hid (R q ∧ q / 2 ^ k = r)) (fun _ i => (intOf i).toNat)
    case atStart => exact ⟨a, n, rfl, rfl, by omega, Lib.hid ⟨ha, HR.out⟩⟩
    case round =>
      obtain ⟨q, k, rfl, rfl, hk, HQ⟩ := hrel
      by_cases hk0 : k = 0
      · subst hk0
        obtain rfl : q = r := by have := HQ.out.2; simpa using this
        go_wp2
        go_ret2
        exact ⟨rfl, rfl⟩
      · have hkp : (0 : Int) < k := by omega
        have e1 := and_one HQ.out.1
        have e2 : IntKind.i64.wrap (q - q % 2) = q - q % 2 := wrap_in (by have := HQ.out.1; unfold R at *; omega)
        have e3 := @half q
        have e4 : IntKind.i64.wrap (q / 2) = q / 2 := wrap_in (by have := HQ.out.1; unfold R at *; omega)
        have HN : Hid (R (q / 2) ∧ q / 2 / 2 ^ (k - 1) = r) := Lib.hid ⟨by have := HQ.out.1; unfold R at *; omega, by rw [shr_step, show k - 1 + 1 = k by omega]; exact HQ.out.2⟩
        go_wp2
        go_round
        case rel => exact ⟨q / 2, k - 1, by go_num, by go_num, by omega, HN⟩
        case measure => simp [intOf]; omega
set_option maxHeartbeats 400000 in
theorem s_shl {a b : Int} {w : World} (ha : R a) (hb : R b) : Calls Tryd.prog 38 #[.string ⟨#[60, 60]⟩, .int .i64 a, .int .i64 b] w fun e w' => e = Ret2 (shl a b) ∧ w = w' := by
  unfold shl
  by_cases h0 : b < 0 ∨ 63 < b
  · rw [if_pos h0]
    rcases h0 with h0 | h0
    all_goals
      go_enter Tryd.func38, Tryd.ntmps38
      go_wp2
      go_ret2
      exact ⟨rfl, rfl⟩
  · rw [if_neg h0]
    have h1 : 0 ≤ b := by omega
    have h2 : b ≤ 63 := by omega
    clear h0
    obtain ⟨n, rfl⟩ := Int.eq_ofNat_of_zero_le h1
    rw [Int.toNat_natCast, ← shlGo_eq n a ha]
    generalize hr : shlGo a n = r
    have HR := Lib.hid hr; clear hr
    obtain ⟨r1, r2⟩ := r
    go_enter Tryd.func38, Tryd.ntmps38
    go_wp2
    go_loop [1, 2] (fun x i => ∃ (q : Int) (k : Nat), x = .int .i64 q ∧ i = .int .i64 k ∧ k ≤ n ∧ Hid (R q ∧ shlGo q k = (r1, r2))) (fun _ i => (intOf i).toNat)
    case atStart => exact ⟨a, n, rfl, rfl, by omega, Lib.hid ⟨ha, HR.out⟩⟩
    case round =>
      obtain ⟨q, k, rfl, rfl, hk, HQ⟩ := hrel
      by_cases hk0 : k = 0
      · subst hk0
        have : q = r1 ∧ 0 = r2 := by have := HQ.out.2; simpa [shlGo] using this
        obtain ⟨rfl, rfl⟩ := this
        go_wp2
        go_ret2
        exact ⟨rfl, rfl⟩
      · have hkp : (0 : Int) < k := by omega
        obtain ⟨j, rfl⟩ : ∃ j, k = j + 1 := ⟨k - 1, by omega⟩
        by_cases g1 : 4611686018427387903 < q
        · have : 0 = r1 ∧ 3 = r2 := by have := HQ.out.2; simp only [shlGo] at this; rw [if_pos (Or.inl g1)] at this; cases this; exact ⟨rfl, rfl⟩
          obtain ⟨rfl, rfl⟩ := this
          go_wp2
          go_ret2
          exact ⟨rfl, rfl⟩
        · by_cases g2 : q < -4611686018427387904
          · have : 0 = r1 ∧ 3 = r2 := by have := HQ.out.2; simp only [shlGo] at this; rw [if_pos (Or.inr g2)] at this; cases this; exact ⟨rfl, rfl⟩
            obtain ⟨rfl, rfl⟩ := this
            go_wp2
            go_ret2
            exact ⟨rfl, rfl⟩
          · have HN : Hid (R (2 * q) ∧ shlGo (2 * q) j = (r1, r2)) := Lib.hid ⟨by unfold R; omega, by have := HQ.out.2; simp only [shlGo] at this; rw [if_neg (by omega)] at this; exact this⟩
            have e1 : IntKind.i64.wrap (2 * q) = 2 * q := wrap_in HN.out.1
            go_wp2
            go_round
            case rel => exact ⟨2 * q, j, by go_num, by go_num, by omega, HN⟩
            case measure => simp [intOf]
set_option maxHeartbeats 400000 in
theorem r_power {a b : Int} {w : World} (ha : R a) (hb : R b) : Calls Tryd.prog 39 #[.int .i64 a, .int .i64 b] w fun e w' => e = Ret2 (power a b) ∧ w = w' := by
  unfold power
  by_cases h1 : a = 1 ∨ a = -1
  · rw [if_pos h1]
    unfold unit
    by_cases hu : b.tmod 2 = 0
    · rw [if_pos hu]
      rcases h1 with rfl | rfl
      all_goals
        go_enter Tryd.func39, Tryd.ntmps39
        go_wp2
        go_ret2
        exact ⟨rfl, rfl⟩
    · rw [if_neg hu]
      rcases h1 with rfl | rfl
      all_goals
        go_enter Tryd.func39, Tryd.ntmps39
        go_wp2
        go_ret2
        exact ⟨rfl, rfl⟩
  rw [if_neg h1]
  have h2 : (a == 1) = false := beq_false_of_ne (fun e => h1 (Or.inl e))
  have h3 : (a == -1) = false := beq_false_of_ne (fun e => h1 (Or.inr e))
  clear h1
  by_cases h4 : b < 0
  · rw [if_pos h4]
    go_enter Tryd.func39, Tryd.ntmps39
    go_wp2
    go_ret2
    exact ⟨rfl, rfl⟩
  rw [if_neg h4]
  by_cases h5 : a = 0 ∧ 0 < b
  · rw [if_pos h5]
    obtain ⟨rfl, h5⟩ := h5
    go_enter Tryd.func39, Tryd.ntmps39
    go_wp2
    go_ret2
    exact ⟨rfl, rfl⟩
  rw [if_neg h5]
  have h6 : (a == 0 && decide (0 < b)) = false := by
    cases h : (a == 0 && decide (0 < b))
    · rfl
    · simp at h; exact absurd h h5
  have h7 : a = 0 → b = 0 := fun e => by
    have := mt (And.intro e) h5
    omega
  have HA := Lib.hid ha
  have HB := Lib.hid hb
  have hb0 : 0 ≤ b := by omega
  have hb1 : b ≤ 9223372036854775807 := hb.2
  obtain ⟨n, rfl⟩ := Int.eq_ofNat_of_zero_le hb0
  rw [Int.toNat_natCast]
  generalize hr : powGo a 1 n = r
  have HR := Lib.hid hr; clear hr h5 ha hb h4
  obtain ⟨r1, r2⟩ := r
  by_cases h8 : a = 0
  · have h9 := h7 h8
    subst h8
    obtain rfl : n = 0 := by omega
    have : r1 = 1 ∧ r2 = 0 := by have := HR.out; simp [powGo] at this; exact ⟨this.1.symm, this.2.symm⟩
    obtain ⟨rfl, rfl⟩ := this
    clear h7 h6 h2 h3 HR h9
    go_enter Tryd.func39, Tryd.ntmps39
    go_wp2
    refine wp_loop_rounds 1 ?_
    rw [rounds_succ]
    go_wp2
    go_ret2
    exact ⟨rfl, rfl⟩
  have h9 : (a == 0) = false := beq_false_of_ne h8
  clear h7 h6 h8
  go_enter Tryd.func39, Tryd.ntmps39
  go_wp2
  go_loop [1, 6] (fun i p => ∃ (q : Int) (k : Nat), p = .int .i64 q ∧ i = .int .i64 k ∧ k ≤ n ∧ Hid (R q ∧ powGo a q k = (r1, r2))) (fun i _ => (intOf i).toNat)
  case atStart => exact ⟨1, n, rfl, rfl, by omega, Lib.hid ⟨by decide, HR.out⟩⟩
  case round =>
    obtain ⟨q, k, rfl, rfl, hk, HQ⟩ := hrel
    by_cases hk0 : k = 0
    · subst hk0
      have : q = r1 ∧ 0 = r2 := by have := HQ.out.2; simpa [powGo] using this
      obtain ⟨rfl, rfl⟩ := this
      go_wp2
      go_ret2
      exact ⟨rfl, rfl⟩
    · obtain ⟨j, rfl⟩ : ∃ j, k = j + 1 := ⟨k - 1, by omega⟩
      have he := HQ.out.2
      have H := fun w => @r_mul q a w HQ.out.1 HA.out
      by_cases hR : R (q * a)
      · rw [powGo_in hR] at he
        have HN : Hid (R (q * a) ∧ powGo a (q * a) j = (r1, r2)) := Lib.hid ⟨hR, he⟩
        rw [ex_in hR] at H
        clear he hR HQ
        generalize q * a = s at HN H
        (go_wp2_with fail; go_fit (H _); rintro e w' ⟨rfl, rfl⟩)
        go_wp2
        go_round
        case rel => exact ⟨s, j, by go_num, by go_num, by omega, HN⟩
        case measure => simp [intOf]
      · rw [powGo_out hR] at he
        rw [ex_out hR] at H
        have : 0 = r1 ∧ 3 = r2 := by cases he; exact ⟨rfl, rfl⟩
        obtain ⟨rfl, rfl⟩ := this
        clear he hR HQ
        (go_wp2_with fail; go_fit (H _); rintro e w' ⟨rfl, rfl⟩)
        go_wp2
        go_ret2
        exact ⟨rfl, rfl⟩
end Go.Proofs.YtcpfhjdjooakcaaDoor
