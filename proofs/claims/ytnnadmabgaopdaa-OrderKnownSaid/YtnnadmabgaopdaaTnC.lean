/- Package term: what fits. -/
import Derived.Test.YtnnadmabgaopdaaTnB
import Derived.Lib.Strings
namespace Go.Proofs.Ytnnadmabgaopdaa
open Go.RowKit
set_option linter.unusedVariables false

theorem isEmpty_size' (s : ByteArray) : s.data.toList.isEmpty = decide (s.size = 0) := by
  have h : s.data.toList.length = s.size := rfl
  cases hq : s.data.toList with
  | nil => rw [hq] at h; simp at h; simp [← h]
  | cons a r =>
    rw [hq, List.length_cons] at h
    rw [decide_eq_false (by omega)]
    rfl
theorem toList_empty' {s : ByteArray} (h : s.size = 0) : s.toList.isEmpty = true := by rw [Lib.toList_data, isEmpty_size']; simpa using h
theorem toList_some' {s : ByteArray} (h : ¬ s.size = 0) : s.toList.isEmpty = false := by rw [Lib.toList_data, isEmpty_size']; simpa using h
theorem letter_eq' : ∀ c : UInt8, letterB c = (((c.toNat : Int) == 9) || ((c.toNat : Int) == 10) || (!decide ((c.toNat : Int) < 32) && !decide (126 < (c.toNat : Int)))) := by
  intro c
  have h : ((List.range 256).all fun n => letterB (UInt8.ofNat n) == ((((UInt8.ofNat n).toNat : Int) == 9) || (((UInt8.ofNat n).toNat : Int) == 10) || (!decide (((UInt8.ofNat n).toNat : Int) < 32) && !decide (126 < ((UInt8.ofNat n).toNat : Int))))) = true := by decide +kernel
  have hc := List.all_eq_true.1 h c.toNat (List.mem_range.2 (UInt8.toNat_lt c))
  rw [UInt8.ofNat_toNat] at hc
  exact eq_of_beq hc
def fitB (s : ByteArray) : Bool := decide (s.size ≤ 64) && s.data.toList.all letterB
set_option maxHeartbeats 2000000 in
theorem fitsName_at (s : ByteArray) (hs : s.size ≤ 140737488351232) (w : World) : Calls Try.prog 43 #[.string s] w fun e w' => e = .returned (.bool (fitB s)) ∧ w = w' := by
  by_cases hbig : 64 < s.size
  · have hr : fitB s = false := by unfold fitB; rw [decide_eq_false (by omega)]; rfl
    rw [hr]
    clear hr
    go_enter Try.func43, Try.ntmps43
    go_wp2
    go_ret
    exact ⟨rfl, rfl⟩
  obtain ⟨r, hr⟩ : ∃ r, fitB s = r := ⟨_, rfl⟩
  rw [hr]
  have HR : Hid (s.data.toList.all letterB = r) := Lib.hid (by rw [← hr]; unfold fitB; rw [decide_eq_true (by omega)]; rfl)
  clear hr
  go_enter Try.func43, Try.ntmps43
  go_wp2_with fail
  go_loop [10] (fun z => ∃ i : Nat, i ≤ s.size ∧ z = .int .i64 i ∧ Hid (∀ j (hj : j < s.size), j < i → letterB s[j] = true)) (fun z => s.size - (intOf z).toNat)
  case atStart => exact ⟨0, Nat.zero_le _, rfl, Lib.hid (fun j _ h => by omega)⟩
  case round =>
    obtain ⟨i, hi, rfl, HL⟩ := hrel
    by_cases hil : i < s.size
    · cases hq : letterB s[i]
      · have hlq := letter_eq' s[i]
        rw [hq] at hlq
        have hall : s.data.toList.all letterB = false := by
          rw [List.all_eq_false]
          exact ⟨s.data.toList[i]'hil, List.getElem_mem _, by show ¬ letterB s[i] = true; rw [hq]; simp⟩
        have hrf : r = false := by rw [← HR.out, hall]
        subst hrf
        obtain ⟨z, hz⟩ : ∃ z : Int, (s[i].toNat : Int) = z := ⟨_, rfl⟩
        rw [hz] at hlq
        have e9 : (z == 9) = false := by
          cases h : (z == 9)
          · rfl
          · rw [h] at hlq; cases hlq
        have e10 : (z == 10) = false := by
          cases h : (z == 10)
          · rfl
          · rw [h, Bool.or_true] at hlq; cases hlq
        rw [e9, e10, Bool.false_or, Bool.false_or] at hlq
        have n9 : (z != 9) = true := by unfold bne; rw [e9]; rfl
        have n10 : (z != 10) = true := by unfold bne; rw [e10]; rfl
        clear e9 e10
        clear hall hq HR HL
        by_cases h32 : z < 32
        · clear hlq
          go_wp2
          go_ret
          exact ⟨rfl, rfl⟩
        · have h126 : 126 < z := by
            simp [h32] at hlq
            omega
          clear hlq
          go_wp2
          go_ret
          exact ⟨rfl, rfl⟩
      · have hlq := letter_eq' s[i]
        rw [hq] at hlq
        have HN : Hid (∀ j (hj : j < s.size), j < i + 1 → letterB s[j] = true) := Lib.hid (fun j hj h => by
          by_cases e : j = i
          · subst e; exact hq
          · exact HL.out j hj (by omega))
        obtain ⟨z, hz⟩ : ∃ z : Int, (s[i].toNat : Int) = z := ⟨_, rfl⟩
        rw [hz] at hlq
        clear hq HL
        by_cases e9 : z = 9
        · subst e9
          clear hlq
          go_wp2
          go_round
          case rel => exact ⟨i + 1, by omega, by go_num, HN⟩
          case measure => simp [intOf]; omega
        have e9' : (z == 9) = false := beq_false_of_ne e9
        by_cases e10 : z = 10
        · subst e10
          clear hlq
          go_wp2
          go_round
          case rel => exact ⟨i + 1, by omega, by go_num, HN⟩
          case measure => simp [intOf]; omega
        have e10' : (z == 10) = false := beq_false_of_ne e10
        rw [e9', e10'] at hlq
        have h32 : ¬ z < 32 := fun hh => by simp [hh] at hlq
        have h126 : ¬ 126 < z := fun hh => by simp [hh] at hlq
        have n9 : (z != 9) = true := by unfold bne; rw [e9']; rfl
        have n10 : (z != 10) = true := by unfold bne; rw [e10']; rfl
        clear hlq e9 e10 e9' e10'
        go_wp2
        go_round
        case rel => exact ⟨i + 1, by omega, by go_num, HN⟩
        case measure => simp [intOf]; omega
    · have hall : s.data.toList.all letterB = true := by
        rw [List.all_eq_true]
        intro x hx
        obtain ⟨j, hj, rfl⟩ := List.getElem_of_mem hx
        exact HL.out j hj (by have : j < s.size := hj; omega)
      have hrt : r = true := by rw [← HR.out, hall]
      subst hrt
      clear hall HR HL
      go_wp2
      go_ret
      exact ⟨rfl, rfl⟩
set_option maxHeartbeats 4000000 in
set_option maxRecDepth 100000 in
theorem fits_at {k n : Int} {s : ByteArray} {a : Option Addr} {m c : Nat} (hs : s.size ≤ 140737488351232) (hn : I64 n) (h1 : m ≤ c) (h2 : c ≤ maxLen) (h3 : m * 56 ≤ 140737488351232) (w : World) :
    Calls Try.prog 38 #[.agg #[.int .i64 k, .int .i64 n, .string s, .slice a m c]] w fun e w' => e = .returned (.bool (plainT k n s.data.toList m)) ∧ Below w.heap.size w w' := by
  have F := fun w => fitsName_at s hs w
  by_cases k0 : k = 0
  · subst k0
    have hp : plainT 0 n s.data.toList m = (decide (0 ≤ n) && decide (n < 2147483648) && decide (s.size = 0) && decide (m = 0)) := by
      unfold plainT; rw [if_pos rfl, isEmpty_size']
    by_cases g1 : 0 ≤ n
    · by_cases g2 : n < 2147483648
      · have g2' : n ≤ 2147483647 := by omega
        by_cases g3 : s.size = 0
        · have g3' := toList_empty' g3
          by_cases g4 : m = 0
          · have hr : plainT 0 n s.data.toList m = true := by rw [hp]; simp [g1, g2, g3, g4]
            rw [hr]
            subst g4
            clear hp g3 hr F
            go_enter Try.func38, Try.ntmps38
            go_wp2
            go_ret
            exact ⟨rfl, bel1' _ _⟩
          · have hr : plainT 0 n s.data.toList m = false := by rw [hp]; simp [g4]
            rw [hr]
            have g4' : ((m : Int) == 0) = false := by apply beq_false_of_ne; omega
            clear hp g3 hr F
            go_enter Try.func38, Try.ntmps38
            go_wp2
            go_ret
            exact ⟨rfl, bel1' _ _⟩
        · have hr : plainT 0 n s.data.toList m = false := by rw [hp]; simp [g3]
          rw [hr]
          have g3' := toList_some' g3
          clear hp hr F
          go_enter Try.func38, Try.ntmps38
          go_wp2
          go_ret
          exact ⟨rfl, bel1' _ _⟩
      · have hr : plainT 0 n s.data.toList m = false := by rw [hp]; simp [g2]
        rw [hr]
        have g2' : ¬ n ≤ 2147483647 := by omega
        clear hp hr F
        go_enter Try.func38, Try.ntmps38
        go_wp2
        go_ret
        exact ⟨rfl, bel1' _ _⟩
    · have hr : plainT 0 n s.data.toList m = false := by rw [hp]; simp [g1]
      rw [hr]
      clear hp hr F
      go_enter Try.func38, Try.ntmps38
      go_wp2
      go_ret
      exact ⟨rfl, bel1' _ _⟩
  by_cases k1 : k = 1
  · subst k1
    have hp : plainT 1 n s.data.toList m = (decide (s.size = 0) && decide (m = 0)) := by
      unfold plainT; rw [if_neg (by decide), if_pos rfl, isEmpty_size']
    by_cases g3 : s.size = 0
    · have g3' := toList_empty' g3
      by_cases g4 : m = 0
      · have hr : plainT 1 n s.data.toList m = true := by rw [hp]; simp [g3, g4]
        rw [hr]
        subst g4
        clear hp g3 hr F
        go_enter Try.func38, Try.ntmps38
        go_wp2
        go_ret
        exact ⟨rfl, bel1' _ _⟩
      · have hr : plainT 1 n s.data.toList m = false := by rw [hp]; simp [g4]
        rw [hr]
        have g4' : ((m : Int) == 0) = false := by apply beq_false_of_ne; omega
        clear hp g3 hr F
        go_enter Try.func38, Try.ntmps38
        go_wp2
        go_ret
        exact ⟨rfl, bel1' _ _⟩
    · have hr : plainT 1 n s.data.toList m = false := by rw [hp]; simp [g3]
      rw [hr]
      have g3' := toList_some' g3
      clear hp hr F
      go_enter Try.func38, Try.ntmps38
      go_wp2
      go_ret
      exact ⟨rfl, bel1' _ _⟩
  have k0' : (k == 0) = false := beq_false_of_ne k0
  have k1' : (k == 1) = false := beq_false_of_ne k1
  by_cases k2 : k = 2
  · subst k2
    have hp : plainT 2 n s.data.toList m = (decide (n = 0) && decide (m ≤ 8) && fitB s) := by
      unfold plainT fitB; rw [if_neg (by decide), if_neg (by decide), if_pos rfl]
      have e : s.data.toList.length = s.size := rfl
      rw [e]
      cases decide (n = 0) <;> cases decide (s.size ≤ 64) <;> cases decide (m ≤ 8) <;> simp
    by_cases g1 : n = 0
    · subst g1
      by_cases g3 : m ≤ 8
      · have hr : plainT 2 0 s.data.toList m = fitB s := by rw [hp, decide_eq_true g3]; simp
        rw [hr]
        have g3i : (m : Int) ≤ 8 := by omega
        clear hr hp k0 k1 k0' k1'
        generalize fitB s = r at F ⊢
        cases r
        · go_enter Try.func38, Try.ntmps38
          (go_wp2_with fail; go_fit (F _); rintro e w1 ⟨rfl, rfl⟩)
          go_wp2
          go_ret
          exact ⟨rfl, bel1' _ _⟩
        · go_enter Try.func38, Try.ntmps38
          (go_wp2_with fail; go_fit (F _); rintro e w1 ⟨rfl, rfl⟩)
          go_wp2
          go_ret
          exact ⟨rfl, bel1' _ _⟩
      · have hr : plainT 2 0 s.data.toList m = false := by rw [hp, decide_eq_false g3]; simp
        rw [hr]
        have g3i : (8 : Int) < m := by omega
        clear hr hp k0 k1 k0' k1'
        generalize fitB s = r at F
        cases r
        · go_enter Try.func38, Try.ntmps38
          (go_wp2_with fail; go_fit (F _); rintro e w1 ⟨rfl, rfl⟩)
          go_wp2
          go_ret
          exact ⟨rfl, bel1' _ _⟩
        · go_enter Try.func38, Try.ntmps38
          (go_wp2_with fail; go_fit (F _); rintro e w1 ⟨rfl, rfl⟩)
          go_wp2
          go_ret
          exact ⟨ret_bool (decide_eq_false (by omega)), bel1' _ _⟩
    · have hr : plainT 2 n s.data.toList m = false := by rw [hp]; simp [g1]
      rw [hr]
      have g1' : (n == 0) = false := beq_false_of_ne g1
      clear hp hr k0 k1 k0' k1' F
      go_enter Try.func38, Try.ntmps38
      go_wp2
      go_ret
      exact ⟨rfl, bel1' _ _⟩
  · have hr : plainT k n s.data.toList m = false := by unfold plainT; rw [if_neg k0, if_neg k1, if_neg k2]
    rw [hr]
    have k2' : (k == 2) = false := beq_false_of_ne k2
    clear hr k0 k1 k2 F
    go_enter Try.func38, Try.ntmps38
    go_wp2
    go_ret
    exact ⟨rfl, bel1' _ _⟩
end Go.Proofs.Ytnnadmabgaopdaa
