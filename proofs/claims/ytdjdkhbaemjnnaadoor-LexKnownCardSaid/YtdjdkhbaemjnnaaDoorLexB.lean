/- Package lex: as many bytes of a kind as follow; what is passed over; the end. -/
import Derived.Test.YtdjdkhbaemjnnaaDoorLexA
namespace Go.Proofs.YtdjdkhbaemjnnaaDoor
open Go.RowKit

theorem run_word (s : ByteArray) (i : Nat) (w : World) (hi : i ≤ s.size) (hs : s.size ≤ 140737488351232) : Calls Tryd.prog 17 #[.string s, .int .i64 i, .func (.func 24) #[] #[]] w fun e w' => e = .returned (.int .i64 ((i + twK wordB (bl s) i : Nat) : Int)) ∧ w = w' := by
  have hT : ∃ T, i + twK wordB (bl s) i = T := ⟨_, rfl⟩
  obtain ⟨T, hT⟩ := hT
  rw [hT]
  have HT := Lib.hid hT
  clear hT
  go_enter Tryd.func17, Tryd.ntmps17
  go_wp2
  go_loop [1] (fun v => ∃ k : Nat, k ≤ s.size ∧ v = .int .i64 k ∧ k + twK wordB (bl s) k = T) (fun v => s.size - (intOf v).toNat)
  case atStart => exact ⟨i, hi, rfl, HT.out⟩
  case round =>
    obtain ⟨k, hk, rfl, hkT⟩ := hrel
    have HK := Lib.hid hkT
    clear hkT
    by_cases hlt : k < s.size
    · cases hp : wordB s[k]
      · have he := tw_out (l := bl s) (p := wordB) (k := k) hlt hp
        have HE := Lib.hid he
        clear he
        go_wp2_with (go_at_call 24; go_fit (word_any _ _); rintro e w' ⟨rfl, rfl⟩)
        go_ret
        exact ⟨ret_int (by have := HK.out; rw [HE.out] at this; omega), rfl⟩
      · have he := tw_in (l := bl s) (p := wordB) (k := k) hlt hp
        have HE := Lib.hid he
        clear he
        go_wp2_with (go_at_call 24; go_fit (word_any _ _); rintro e w' ⟨rfl, rfl⟩)
        go_round
        case rel => exact ⟨k + 1, by omega, by go_num, by have := HK.out; rw [HE.out] at this; omega⟩
        case measure => simp [intOf]; omega
    · have he := tw_end (l := bl s) (p := wordB) (k := k) (show s.size ≤ k by omega)
      have HE := Lib.hid he
      clear he
      go_wp2
      go_ret
      exact ⟨ret_int (by have := HK.out; rw [HE.out] at this; omega), rfl⟩
theorem run_digit (s : ByteArray) (i : Nat) (w : World) (hi : i ≤ s.size) (hs : s.size ≤ 140737488351232) : Calls Tryd.prog 17 #[.string s, .int .i64 i, .func (.func 26) #[] #[]] w fun e w' => e = .returned (.int .i64 ((i + twK digitB (bl s) i : Nat) : Int)) ∧ w = w' := by
  have hT : ∃ T, i + twK digitB (bl s) i = T := ⟨_, rfl⟩
  obtain ⟨T, hT⟩ := hT
  rw [hT]
  have HT := Lib.hid hT
  clear hT
  go_enter Tryd.func17, Tryd.ntmps17
  go_wp2
  go_loop [1] (fun v => ∃ k : Nat, k ≤ s.size ∧ v = .int .i64 k ∧ k + twK digitB (bl s) k = T) (fun v => s.size - (intOf v).toNat)
  case atStart => exact ⟨i, hi, rfl, HT.out⟩
  case round =>
    obtain ⟨k, hk, rfl, hkT⟩ := hrel
    have HK := Lib.hid hkT
    clear hkT
    by_cases hlt : k < s.size
    · cases hp : digitB s[k]
      · have he := tw_out (l := bl s) (p := digitB) (k := k) hlt hp
        have HE := Lib.hid he
        clear he
        go_wp2_with (go_at_call 26; go_fit (digit_any _ _); rintro e w' ⟨rfl, rfl⟩)
        go_ret
        exact ⟨ret_int (by have := HK.out; rw [HE.out] at this; omega), rfl⟩
      · have he := tw_in (l := bl s) (p := digitB) (k := k) hlt hp
        have HE := Lib.hid he
        clear he
        go_wp2_with (go_at_call 26; go_fit (digit_any _ _); rintro e w' ⟨rfl, rfl⟩)
        go_round
        case rel => exact ⟨k + 1, by omega, by go_num, by have := HK.out; rw [HE.out] at this; omega⟩
        case measure => simp [intOf]; omega
    · have he := tw_end (l := bl s) (p := digitB) (k := k) (show s.size ≤ k by omega)
      have HE := Lib.hid he
      clear he
      go_wp2
      go_ret
      exact ⟨ret_int (by have := HK.out; rw [HE.out] at this; omega), rfl⟩
theorem run_line (s : ByteArray) (i : Nat) (w : World) (hi : i ≤ s.size) (hs : s.size ≤ 140737488351232) : Calls Tryd.prog 17 #[.string s, .int .i64 i, .func (.func 18) #[] #[]] w fun e w' => e = .returned (.int .i64 ((i + twK lineB (bl s) i : Nat) : Int)) ∧ w = w' := by
  have hT : ∃ T, i + twK lineB (bl s) i = T := ⟨_, rfl⟩
  obtain ⟨T, hT⟩ := hT
  rw [hT]
  have HT := Lib.hid hT
  clear hT
  go_enter Tryd.func17, Tryd.ntmps17
  go_wp2
  go_loop [1] (fun v => ∃ k : Nat, k ≤ s.size ∧ v = .int .i64 k ∧ k + twK lineB (bl s) k = T) (fun v => s.size - (intOf v).toNat)
  case atStart => exact ⟨i, hi, rfl, HT.out⟩
  case round =>
    obtain ⟨k, hk, rfl, hkT⟩ := hrel
    have HK := Lib.hid hkT
    clear hkT
    by_cases hlt : k < s.size
    · cases hp : lineB s[k]
      · have he := tw_out (l := bl s) (p := lineB) (k := k) hlt hp
        have HE := Lib.hid he
        clear he
        go_wp2_with (go_at_call 18; go_fit (line_any _ _); rintro e w' ⟨rfl, rfl⟩)
        go_ret
        exact ⟨ret_int (by have := HK.out; rw [HE.out] at this; omega), rfl⟩
      · have he := tw_in (l := bl s) (p := lineB) (k := k) hlt hp
        have HE := Lib.hid he
        clear he
        go_wp2_with (go_at_call 18; go_fit (line_any _ _); rintro e w' ⟨rfl, rfl⟩)
        go_round
        case rel => exact ⟨k + 1, by omega, by go_num, by have := HK.out; rw [HE.out] at this; omega⟩
        case measure => simp [intOf]; omega
    · have he := tw_end (l := bl s) (p := lineB) (k := k) (show s.size ≤ k by omega)
      have HE := Lib.hid he
      clear he
      go_wp2
      go_ret
      exact ⟨ret_int (by have := HK.out; rw [HE.out] at this; omega), rfl⟩

/-- Does a full stop at this place end a term? -/
def endK (l : List UInt8) (i : Nat) : Bool := l[i]? == some 46 && endB (l.drop (i + 1))
theorem endK_at {l : List UInt8} {i : Nat} (h : i < l.length) : endK l i = (l[i] == 46 && endB (l.drop (i + 1))) := by
  unfold endK
  rw [List.getElem?_eq_getElem h]
  rfl
theorem sub_bl (s : ByteArray) (i : Nat) (h : i ≤ s.size) : bl (s.extract i s.size) = (bl s).drop i := by
  simp only [bl, ByteArray.data_extract, Array.toList_extract, List.extract_eq_take_drop]
  rw [List.take_of_length_le (by simp)]
end Go.Proofs.YtdjdkhbaemjnnaaDoor
