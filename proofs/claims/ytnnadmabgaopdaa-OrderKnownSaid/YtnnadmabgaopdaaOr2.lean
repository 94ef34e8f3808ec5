/- What compares two numbers, two texts; the first of some that is not nought. -/
import Derived.Test.YtnnadmabgaopdaaOr1
import Derived.Test.YtnnadmabgaopdaaTmI
import Derived.Test.YtnnadmabgaopdaaTnE
namespace Go.Proofs.Ytnnadmabgaopdaa
open Go.RowKit
set_option linter.unusedVariables false

theorem nanI_at (x : Int) (w : World) : Calls Try.prog 40 #[.int .i64 x] w fun e w' => e = .returned (.bool false) ∧ w' = w := by
  have h : (x != x) = false := by simp
  go_enter Try.func40, Try.ntmps40
  go_wp2
  go_ret
  exact ⟨rfl, rfl⟩
theorem nanL_at (x : Int) (w : World) : Calls Try.prog 41 #[.int .i64 x] w fun e w' => e = .returned (.bool false) ∧ w' = w := by
  have h : (x != x) = false := by simp
  go_enter Try.func41, Try.ntmps41
  go_wp2
  go_ret
  exact ⟨rfl, rfl⟩
theorem nanS_at (x : ByteArray) (w : World) : Calls Try.prog 42 #[.string x] w fun e w' => e = .returned (.bool false) ∧ w' = w := by
  have h : (x.toList == x.toList) = true := by simp
  go_enter Try.func42, Try.ntmps42
  go_wp2
  go_ret
  exact ⟨rfl, rfl⟩
theorem cmpI_at (x y : Int) (w : World) : Calls Try.prog 33 #[.int .i64 x, .int .i64 y] w fun e w' => e = .returned (.int .i64 (cmpI x y)) ∧ w' = w := by
  by_cases g : x < y
  · rw [show cmpI x y = -1 from if_pos g]
    go_enter Try.func33, Try.ntmps33
    (go_wp2_with fail; go_fit (nanI_at x _); rintro e w' ⟨rfl, rfl⟩)
    (go_wp2_with fail; go_fit (nanI_at y _); rintro e w' ⟨rfl, rfl⟩)
    go_wp2
    go_ret
    exact ⟨rfl, rfl⟩
  · by_cases g2 : y < x
    · rw [show cmpI x y = 1 by unfold cmpI; rw [if_neg g, if_pos g2]]
      go_enter Try.func33, Try.ntmps33
      (go_wp2_with fail; go_fit (nanI_at x _); rintro e w' ⟨rfl, rfl⟩)
      (go_wp2_with fail; go_fit (nanI_at y _); rintro e w' ⟨rfl, rfl⟩)
      go_wp2
      go_ret
      exact ⟨rfl, rfl⟩
    · rw [show cmpI x y = 0 by unfold cmpI; rw [if_neg g, if_neg g2]]
      go_enter Try.func33, Try.ntmps33
      (go_wp2_with fail; go_fit (nanI_at x _); rintro e w' ⟨rfl, rfl⟩)
      (go_wp2_with fail; go_fit (nanI_at y _); rintro e w' ⟨rfl, rfl⟩)
      go_wp2
      go_ret
      exact ⟨rfl, rfl⟩
theorem cmpL_at (x y : Int) (w : World) : Calls Try.prog 34 #[.int .i64 x, .int .i64 y] w fun e w' => e = .returned (.int .i64 (cmpI x y)) ∧ w' = w := by
  by_cases g : x < y
  · rw [show cmpI x y = -1 from if_pos g]
    go_enter Try.func34, Try.ntmps34
    (go_wp2_with fail; go_fit (nanL_at x _); rintro e w' ⟨rfl, rfl⟩)
    (go_wp2_with fail; go_fit (nanL_at y _); rintro e w' ⟨rfl, rfl⟩)
    go_wp2
    go_ret
    exact ⟨rfl, rfl⟩
  · by_cases g2 : y < x
    · rw [show cmpI x y = 1 by unfold cmpI; rw [if_neg g, if_pos g2]]
      go_enter Try.func34, Try.ntmps34
      (go_wp2_with fail; go_fit (nanL_at x _); rintro e w' ⟨rfl, rfl⟩)
      (go_wp2_with fail; go_fit (nanL_at y _); rintro e w' ⟨rfl, rfl⟩)
      go_wp2
      go_ret
      exact ⟨rfl, rfl⟩
    · rw [show cmpI x y = 0 by unfold cmpI; rw [if_neg g, if_neg g2]]
      go_enter Try.func34, Try.ntmps34
      (go_wp2_with fail; go_fit (nanL_at x _); rintro e w' ⟨rfl, rfl⟩)
      (go_wp2_with fail; go_fit (nanL_at y _); rintro e w' ⟨rfl, rfl⟩)
      go_wp2
      go_ret
      exact ⟨rfl, rfl⟩
theorem cmpS_at (x y : ByteArray) (w : World) : Calls Try.prog 35 #[.string x, .string y] w fun e w' => e = .returned (.int .i64 (cmpB x.data.toList y.data.toList)) ∧ w' = w := by
  have hz := bytes_zero x.data.toList y.data.toList
  have hb := back_bytes x.data.toList y.data.toList
  rw [← Lib.toList_data, ← Lib.toList_data] at hz hb ⊢
  cases g : Op.bytesLess x.toList y.toList
  · cases g2 : Op.bytesLess y.toList x.toList
    · have h0 : cmpB x.toList y.toList = 0 := by unfold cmpB; rw [g, g2]; rfl
      have g3 : (x.toList == y.toList) = true := by rw [hz.1 h0]; simp
      rw [h0]
      clear hz hb h0
      go_enter Try.func35, Try.ntmps35
      (go_wp2_with fail; go_fit (nanS_at x _); rintro e w' ⟨rfl, rfl⟩)
      (go_wp2_with fail; go_fit (nanS_at y _); rintro e w' ⟨rfl, rfl⟩)
      go_wp2
      go_ret
      exact ⟨rfl, rfl⟩
    · have h0 : cmpB x.toList y.toList = 1 := by unfold cmpB; rw [g, g2]; rfl
      have g3 : (x.toList == y.toList) = false := beq_false_of_ne (fun e => by have := hz.2 e; omega)
      rw [h0]
      clear hz hb h0
      go_enter Try.func35, Try.ntmps35
      (go_wp2_with fail; go_fit (nanS_at x _); rintro e w' ⟨rfl, rfl⟩)
      (go_wp2_with fail; go_fit (nanS_at y _); rintro e w' ⟨rfl, rfl⟩)
      go_wp2
      go_ret
      exact ⟨rfl, rfl⟩
  · have h0 : cmpB x.toList y.toList = -1 := by unfold cmpB; rw [g]; rfl
    rw [h0]
    clear hz hb h0
    go_enter Try.func35, Try.ntmps35
    (go_wp2_with fail; go_fit (nanS_at x _); rintro e w' ⟨rfl, rfl⟩)
    (go_wp2_with fail; go_fit (nanS_at y _); rintro e w' ⟨rfl, rfl⟩)
    go_wp2
    go_ret
    exact ⟨rfl, rfl⟩
/-- The first that is not nought. -/
def orL : List Int → Int
  | [] => 0
  | x :: r => or2 x (orL r)
set_option maxHeartbeats 2000000 in
theorem or_at (l : List Int) (b off c : Nat) (w : World) (h1 : l.length ≤ c) (h2 : c ≤ maxLen) (hc : ∀ i x, l[i]? = some x → w.cell? ⟨b, off + i, none⟩ = some (.int .i64 x)) :
    Calls Try.prog 32 #[.slice (some ⟨b, off, none⟩) l.length c] w fun e w' => e = .returned (.int .i64 (orL l)) ∧ w' = w := by
  obtain ⟨m, hm⟩ : ∃ m, l.length = m := ⟨_, rfl⟩
  obtain ⟨r, hr⟩ : ∃ r, orL l = r := ⟨_, rfl⟩
  rw [hm] at h1 ⊢
  rw [hr]
  have HM := Lib.hid hm
  have HR := Lib.hid hr
  have HC := Lib.hid hc
  unfold maxLen at h2
  clear hm hr hc
  go_enter Try.func32, Try.ntmps32
  go_wp2_with fail
  go_loop [8] (fun v => ∃ i : Nat, i ≤ m ∧ v = .int .i64 i ∧ Hid (orL (l.drop i) = r)) (fun v => m - (intOf v).toNat)
  case atStart => exact ⟨0, Nat.zero_le _, rfl, Lib.hid (by rw [List.drop_zero]; exact HR.out)⟩
  case round =>
    obtain ⟨i, hi, rfl, HD⟩ := hrel
    by_cases hil : i < m
    · have hlt : i < l.length := by rw [HM.out]; exact hil
      obtain ⟨x, hx⟩ : ∃ x, l[i]? = some x := ⟨_, List.getElem?_eq_getElem hlt⟩
      have hd := HD.out
      rw [List.drop_eq_getElem_cons hlt, orL, show l[i] = x by rw [List.getElem?_eq_getElem hlt] at hx; exact Option.some.inj hx] at hd
      have c0 := HC.out i x hx
      unfold or2 at hd
      clear hlt hx HD
      by_cases hx0 : x = 0
      · subst hx0
        rw [if_pos rfl] at hd
        have HD := Lib.hid hd
        clear hd
        go_wp2
        go_round
        case rel => exact ⟨i + 1, by omega, by go_num, HD⟩
        case measure => simp [intOf]; omega
      · rw [if_neg hx0] at hd
        subst hd
        have hx1 : (x != 0) = true := by simpa using hx0
        clear HR
        go_wp2
        go_ret
        exact ⟨rfl, rfl⟩
    · have hd := HD.out
      rw [List.drop_eq_nil_of_le (by rw [HM.out]; omega), orL] at hd
      subst hd
      clear HR HD
      go_wp2
      go_ret
      exact ⟨rfl, rfl⟩
end Go.Proofs.Ytnnadmabgaopdaa
