/- Package lex: what is passed over; what a letter stands for; the value of digits. -/
import Derived.Test.YtdjdkhbaemjnnaaDoorLexC
import Derived.Lib.ParseIntBTie
namespace Go.Proofs.YtdjdkhbaemjnnaaDoor
open Go.RowKit
set_option linter.unusedVariables false

/-- What is passed over from a place on. -/
def passK (l : List UInt8) (k : Nat) : Nat := passF (l.drop k)
theorem passK_blank {l : List UInt8} {k : Nat} (h : k < l.length) (hp : blankB l[k] = true) : passK l k = passK l (k + 1) + 1 := by
  unfold passK
  rw [List.drop_eq_getElem_cons h, passF_skip (k := 1) (by unfold nextC; rw [if_pos hp]) (Nat.le_refl _), List.drop_succ_cons, List.drop_zero, Nat.add_comm]
theorem passK_line {l : List UInt8} {k : Nat} (h : k < l.length) (hb : blankB l[k] = false) (hp : (l[k] == 37) = true) : passK l k = passK l (k + twK lineB l k) + twK lineB l k := by
  have hl : lineB l[k] = true := by
    have e : l[k] = 37 := by simpa using hp
    rw [e]; rfl
  rw [tw_in h hl]
  unfold passK twK
  rw [List.drop_eq_getElem_cons h]
  rw [passF_skip (k := ((l.drop (k + 1)).takeWhile lineB).length + 1) (by
    unfold nextC
    rw [if_neg (by simp [hb]), if_pos hp]
    rfl) (Nat.le_add_left _ _), ← List.drop_eq_getElem_cons h, List.drop_drop, Nat.add_comm]
theorem passK_stop {l : List UInt8} {k : Nat} (h : k < l.length) (hb : blankB l[k] = false) (hp : (l[k] == 37) = false) : passK l k = 0 := by
  unfold passK
  rw [List.drop_eq_getElem_cons h]
  refine passF_stop (fun j => ?_)
  unfold nextC
  rw [if_neg (by simp [hb]), if_neg (by simp [hp])]
  have nm : ∀ (n : Nat) (s : List UInt8), nameB n s ≠ .skip j := fun n s => by
    unfold nameB
    split
    · intro e; cases e
    · intro e; cases e
  split
  · exact nm _ _
  split
  · intro e; cases e
  split
  · split
    · intro e; cases e
    · intro e; cases e
  split
  · split
    · intro e; cases e
    · split
      · intro e; cases e
      · intro e; cases e
  split
  · intro e; cases e
  split
  · exact nm _ _
  split
  · exact nm _ _
  split
  · exact nm _ _
  split
  · intro e; cases e
  · intro e; cases e
theorem passK_end {l : List UInt8} {k : Nat} (h : l.length ≤ k) : passK l k = 0 := by
  unfold passK
  rw [List.drop_eq_nil_of_le h]; rfl
theorem tw_max (p : UInt8 → Bool) (l : List UInt8) (k : Nat) (h : k ≤ l.length) : k + twK p l k ≤ l.length := by
  have := tw_le p (l.drop k)
  rw [List.length_drop] at this
  unfold twK
  omega
theorem pass_any (s : ByteArray) (i : Nat) (w : World) (hi : i ≤ s.size) (hs : s.size ≤ 140737488351232) : Calls Tryd.prog 12 #[.string s, .int .i64 i] w fun e w' => e = .returned (.int .i64 ((i + passK (bl s) i : Nat) : Int)) ∧ w = w' := by
  have hT : ∃ T, i + passK (bl s) i = T := ⟨_, rfl⟩
  obtain ⟨T, hT⟩ := hT
  rw [hT]
  have HT := Lib.hid hT
  clear hT
  go_enter Tryd.func12, Tryd.ntmps12
  go_wp2
  go_loop [1] (fun v => ∃ k : Nat, k ≤ s.size ∧ v = .int .i64 k ∧ k + passK (bl s) k = T) (fun v => s.size - (intOf v).toNat)
  case atStart => exact ⟨i, hi, rfl, HT.out⟩
  case round =>
    obtain ⟨k, hk, rfl, hkT⟩ := hrel
    have HK := Lib.hid hkT
    clear hkT
    by_cases hlt : k < s.size
    · cases hp : blankB s[k]
      · cases hc : (s[k] == 37)
        · have he := passK_stop (l := bl s) (k := k) hlt hp hc
          have HE := Lib.hid he
          clear he
          have hv : ((s[k].toNat : Int) == 37) = false := by
            apply beq_false_of_ne
            intro e
            have : s[k] = 37 := i64_u8 (by rw [e]; rfl)
            rw [this] at hc
            cases hc
          go_wp2_with (go_at_call 16; go_fit (blank_any _ _); rintro e w' ⟨rfl, rfl⟩)
          go_ret
          exact ⟨ret_int (by have := HK.out; rw [HE.out] at this; omega), rfl⟩
        · have he := passK_line (l := bl s) (k := k) hlt hp hc
          have hl : lineB s[k] = true := by
            have e : s[k] = 37 := by simpa using hc
            rw [e]; rfl
          have ht := tw_in (p := lineB) (l := bl s) (k := k) hlt hl
          have hm := tw_max lineB (bl s) k hk
          rw [bl_len] at hm
          have R := fun w => run_line s k w hk hs
          have hv : (s[k].toNat : Int) = 37 := by
            have e : s[k] = 37 := by simpa using hc
            rw [e]; rfl
          obtain ⟨j, hj⟩ : ∃ j, k + twK lineB (bl s) k = j := ⟨_, rfl⟩
          rw [hj] at R he hm
          have HE := Lib.hid (show j + passK (bl s) j = T by have := HK.out; omega)
          have HJ := Lib.hid (show k < j by omega)
          clear he ht hj HK
          have B := fun w => blank_any 37 w
          rw [show (((37 : UInt8).toNat : Nat) : Int) = 37 from rfl, show blankB 37 = false from rfl] at B
          go_wp2_with (first | (go_at_call 16; go_fit (B _); rintro e w' ⟨rfl, rfl⟩) | (go_at_call 17; go_fit (R _); rintro e w' ⟨rfl, rfl⟩))
          go_round
          case rel => exact ⟨j, hm, rfl, HE.out⟩
          case measure => have := HJ.out; simp [intOf]; omega
      · have he := passK_blank (l := bl s) (k := k) hlt hp
        have HE := Lib.hid he
        clear he
        go_wp2_with (go_at_call 16; go_fit (blank_any _ _); rintro e w' ⟨rfl, rfl⟩)
        go_round
        case rel => exact ⟨k + 1, by omega, by go_num, by have := HK.out; rw [HE.out] at this; omega⟩
        case measure => simp [intOf]; omega
    · have he := passK_end (l := bl s) (k := k) (show s.size ≤ k by omega)
      have HE := Lib.hid he
      clear he
      go_wp2
      go_ret
      exact ⟨ret_int (by have := HK.out; rw [HE.out] at this; omega), rfl⟩

theorem byte_of (c : UInt8) (n : Nat) (h : (c.toNat : Int) = n) : c = UInt8.ofNat n := by
  have : c.toNat = n := by omega
  rw [← this]; simp
/-- How a byte is written behind a '\'. -/
def shortB (c : UInt8) : Option UInt8 := if c == 10 then some 110 else if c == 9 then some 116 else if c == 92 then some 92 else if c == 39 then some 39 else none
theorem two_ret {a b : Value} {c d : Value} (h : a = c) (k : b = d) : Ending.returned (.tuple #[a, b]) = .returned (.tuple #[c, d]) := by rw [h, k]
theorem short_some (c d : UInt8) (w : World) (h : shortB c = some d) : Calls Tryd.prog 14 #[.int .u8 c.toNat] w fun e w' => e = .returned (.tuple #[.int .u8 d.toNat, .bool true]) ∧ w = w' := by
  unfold shortB at h
  split at h
  · rename_i hc
    obtain rfl : c = 10 := by simpa using hc
    cases h
    go_enter Tryd.func14, Tryd.ntmps14
    go_wp2
    go_ret2
    exact ⟨rfl, rfl⟩
  split at h
  · rename_i hc
    obtain rfl : c = 9 := by simpa using hc
    cases h
    go_enter Tryd.func14, Tryd.ntmps14
    go_wp2
    go_ret2
    exact ⟨rfl, rfl⟩
  split at h
  · rename_i hc
    obtain rfl : c = 92 := by simpa using hc
    cases h
    go_enter Tryd.func14, Tryd.ntmps14
    go_wp2
    go_ret2
    exact ⟨rfl, rfl⟩
  split at h
  · rename_i hc
    obtain rfl : c = 39 := by simpa using hc
    cases h
    go_enter Tryd.func14, Tryd.ntmps14
    go_wp2
    go_ret2
    exact ⟨rfl, rfl⟩
  · cases h
theorem u8_ne {c d : UInt8} (h : (c == d) = false) : ((c.toNat : Int) == (d.toNat : Int)) = false := by
  apply beq_false_of_ne
  intro e
  rw [i64_u8 e] at h
  simp at h
theorem short_none (c : UInt8) (w : World) (h : shortB c = none) : Calls Tryd.prog 14 #[.int .u8 c.toNat] w fun e w' => e = .returned (.tuple #[.int .u8 0, .bool false]) ∧ w = w' := by
  unfold shortB at h
  cases h1 : (c == 10)
  · cases h2 : (c == 9)
    · cases h3 : (c == 92)
      · cases h4 : (c == 39)
        · have g1 := u8_ne h1
          have g2 := u8_ne h2
          have g3 := u8_ne h3
          have g4 := u8_ne h4
          have e1 : ((10 : UInt8).toNat : Int) = 10 := rfl
          have e2 : ((9 : UInt8).toNat : Int) = 9 := rfl
          have e3 : ((92 : UInt8).toNat : Int) = 92 := rfl
          have e4 : ((39 : UInt8).toNat : Int) = 39 := rfl
          rw [e1] at g1
          rw [e2] at g2
          rw [e3] at g3
          rw [e4] at g4
          clear h h1 h2 h3 h4 e1 e2 e3 e4
          go_enter Tryd.func14, Tryd.ntmps14
          go_wp2
          go_ret2
          exact ⟨rfl, rfl⟩
        · rw [h1, h2, h3, h4] at h; cases h
      · rw [h1, h2, h3] at h; cases h
    · rw [h1, h2] at h; cases h
  · rw [h1] at h; cases h
end Go.Proofs.YtdjdkhbaemjnnaaDoor
