/- Package whole: powers, signs, and Two, One, Cmp by their names. -/
import Derived.Test.YtcpfhjdjooakcaaDoorWA
namespace Go.Proofs.YtcpfhjdjooakcaaDoor
open Go.RowKit

theorem powGo_in {a p : Int} {n : Nat} (h : R (p * a)) : powGo a p (n + 1) = powGo a (p * a) n := by rw [powGo, if_pos h]
theorem powGo_out {a p : Int} {n : Nat} (h : ¬ R (p * a)) : powGo a p (n + 1) = (0, 3) := by rw [powGo, if_neg h]
/-- What the loop keeps. -/
def PowAt (a b p : Int) (k : Nat) : Prop := R p ∧ powGo a 1 b.toNat = powGo a p (b.toNat - k)
set_option maxHeartbeats 400000 in
theorem power_at {a b : Int} {w : World} (ha : R a) (hb : R b) : Calls Tryd.prog 34 #[.int .i64 a, .int .i64 b] w fun e w' => e = .returned (.tuple #[.int .i64 (power a b).1, .int .i64 (power a b).2]) ∧ w = w' := by
  unfold power
  by_cases h1 : a = 1 ∨ a = -1
  · rw [if_pos h1]
    have H := @unit_at a b w
    generalize unit a b = u at H
    rcases h1 with rfl | rfl
    all_goals
      go_enter Tryd.func34, Tryd.ntmps34
      go_wp2_with (go_at_call 44; go_fit (H); rintro e w' ⟨rfl, rfl⟩)
      go_ret2
      exact ⟨rfl, rfl⟩
  rw [if_neg h1]
  have h2 : (a == 1) = false := beq_false_of_ne (fun e => h1 (Or.inl e))
  have h3 : (a == -1) = false := beq_false_of_ne (fun e => h1 (Or.inr e))
  clear h1
  by_cases h4 : b < 0
  · rw [if_pos h4]
    go_enter Tryd.func34, Tryd.ntmps34
    go_wp2
    go_ret2
    exact ⟨rfl, rfl⟩
  rw [if_neg h4]
  by_cases h5 : a = 0 ∧ 0 < b
  · rw [if_pos h5]
    obtain ⟨rfl, h5⟩ := h5
    go_enter Tryd.func34, Tryd.ntmps34
    go_wp2
    go_ret2
    exact ⟨rfl, rfl⟩
  rw [if_neg h5]
  have h6 : (a == 0 && decide (0 < b)) = false := by
    cases h : (a == 0 && decide (0 < b))
    · rfl
    · simp at h; exact absurd h h5
  have h7 : a = 0 → b = 0 := fun e => by
    have := mt (And.intro e) h5
    omega
  have HA := Lib.hid ha
  have HB := Lib.hid hb
  have hb0 : 0 ≤ b := by omega
  have hb1 : b ≤ 9223372036854775807 := hb.2
  generalize hr : powGo a 1 b.toNat = r
  have HR := Lib.hid hr; clear hr h5 ha hb h4
  obtain ⟨r1, r2⟩ := r
  by_cases h8 : a = 0
  · have h9 := h7 h8
    subst h8; subst h9
    have : r1 = 1 ∧ r2 = 0 := by have := HR.out; simp [powGo] at this; exact ⟨this.1.symm, this.2.symm⟩
    obtain ⟨rfl, rfl⟩ := this
    clear h7 h6 h2 h3 HR
    go_enter Tryd.func34, Tryd.ntmps34
    go_wp2
    refine wp_loop_rounds 1 ?_
    rw [rounds_succ]
    go_wp2
    go_ret2
    exact ⟨rfl, rfl⟩
  have h9 : (a == 0) = false := beq_false_of_ne h8
  clear h7 h6 h8
  go_enter Tryd.func34, Tryd.ntmps34
  go_wp2
  go_loop [6, 26] (fun p i => ∃ (q : Int) (k : Nat), p = .int .i64 q ∧ i = .int .i64 k ∧ (k : Int) ≤ b ∧ PowAt a b q k) (fun _ i => b.toNat - (intOf i).toNat)
  case atStart => exact ⟨1, 0, rfl, rfl, by omega, by unfold R; omega, rfl⟩
  case round =>
    obtain ⟨q, k, rfl, rfl, hk, hq, he⟩ := hrel
    by_cases hlt : (k : Int) < b
    · have hs : b.toNat - k = (b.toNat - (k + 1)) + 1 := by omega
      rw [hs] at he
      by_cases hR : R (q * a)
      · rw [powGo_in hR] at he
        have HE := Lib.hid (show PowAt a b (q * a) (k + 1) from ⟨hR, he⟩)
        have H := fun w => @times_at q a w hq HA.out
        rw [ex_in hR] at H
        clear hq he hR hs
        generalize q * a = s at HE H
        go_wp2_with (go_at_call 28; go_fit (H _); rintro e w' ⟨rfl, rfl⟩)
        go_round
        case rel => exact ⟨s, k + 1, by go_num, by go_num, by omega, HE.out⟩
        case measure => simp [intOf]; omega
      · rw [powGo_out hR] at he
        have H := fun w => @times_at q a w hq HA.out
        rw [ex_out hR] at H
        have : r1 = 0 ∧ r2 = 3 := by have := HR.out; rw [he] at this; cases this; exact ⟨rfl, rfl⟩
        obtain ⟨rfl, rfl⟩ := this
        clear hq he hR hs
        go_wp2_with (go_at_call 28; go_fit (H _); rintro e w' ⟨rfl, rfl⟩)
        go_ret2
        exact ⟨rfl, rfl⟩
    · have hs : b.toNat - k = 0 := by omega
      rw [hs, powGo] at he
      have : r1 = q ∧ r2 = 0 := by have := HR.out; rw [he] at this; cases this; exact ⟨rfl, rfl⟩
      obtain ⟨rfl, rfl⟩ := this
      clear hq he hs
      go_wp2
      go_ret2
      exact ⟨rfl, rfl⟩
end Go.Proofs.YtcpfhjdjooakcaaDoor
