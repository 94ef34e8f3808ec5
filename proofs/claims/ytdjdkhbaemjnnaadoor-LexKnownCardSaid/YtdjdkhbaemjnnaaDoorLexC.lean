/- Package lex: the end; symbols. -/
import Derived.Test.YtdjdkhbaemjnnaaDoorLexB
namespace Go.Proofs.YtdjdkhbaemjnnaaDoor
open Go.RowKit
set_option linter.unusedVariables false

theorem sub_ne (s : ByteArray) (i : Nat) (h : i < s.size) : (s.extract i s.size).toList ≠ [] := by
  rw [Lib.toList_data]
  show bl (s.extract i s.size) ≠ []
  rw [sub_bl s i (by omega)]
  intro e
  have h1 := congrArg List.length e
  rw [List.length_drop, bl_len] at h1
  simp at h1
  omega
theorem sub_get (s : ByteArray) (i : Nat) (h : i < s.size) (h0 : 0 < (s.extract i s.size).size) : (s.extract i s.size)[0] = s[i] := by
  simp only [ByteArray.getElem_extract]
  congr 1
theorem sub_size (s : ByteArray) (i : Nat) : (s.extract i s.size).size = s.size - i := by simp
theorem i64_u8 {c d : UInt8} (h : (c.toNat : Int) = (d.toNat : Int)) : c = d := UInt8.toNat_inj.1 (by omega)
theorem ends_other (s : ByteArray) (i : Nat) (w : World) (hi : i < s.size) (hs : s.size ≤ 140737488351232) (h : ((s[i].toNat : Int) != 46) = true) : Calls Tryd.prog 27 #[.string s, .int .i64 i] w fun e w' => e = .returned (.bool false) ∧ w = w' := by
  go_enter Tryd.func27, Tryd.ntmps27
  go_wp2
  go_ret
  exact ⟨rfl, rfl⟩
theorem ends_last (s : ByteArray) (i : Nat) (w : World) (hi : i + 1 = s.size) (hs : s.size ≤ 140737488351232) (h : (((s[i]'(by omega)).toNat : Int) != 46) = false) : Calls Tryd.prog 27 #[.string s, .int .i64 i] w fun e w' => e = .returned (.bool true) ∧ w = w' := by
  go_enter Tryd.func27, Tryd.ntmps27
  go_wp2
  go_ret
  exact ⟨rfl, rfl⟩
theorem ends_next (s : ByteArray) (i : Nat) (w : World) (hi : i + 1 < s.size) (hs : s.size ≤ 140737488351232) (h : (((s[i]'(by omega)).toNat : Int) != 46) = false) : Calls Tryd.prog 27 #[.string s, .int .i64 i] w fun e w' => e = .returned (.bool (blankB (s[i+1]) || s[i+1] == 37)) ∧ w = w' := by
  have hg := sub_get s (i + 1) hi (by rw [sub_size]; omega)
  have hn := sub_ne s (i + 1) hi
  have he : (s.extract (i + 1) s.size).toList.isEmpty = false := by
    cases h : (s.extract (i + 1) s.size).toList with
    | nil => exact absurd h hn
    | cons a r => rfl
  by_cases hd : s[i + 1] = 37
  · have hv : (s[i + 1].toNat : Int) = 37 := by rw [hd]; rfl
    have HD := Lib.hid (show (blankB s[i + 1] || s[i + 1] == 37) = true by rw [hd]; rfl)
    clear hd
    go_enter Tryd.func27, Tryd.ntmps27
    go_wp2_with (go_at_call 16; go_fit (blank_any _ _); rintro e w' ⟨rfl, rfl⟩)
    go_ret
    exact ⟨ret_bool (by rw [HD.out] <;> simp [hv]), rfl⟩
  · have hv : ¬ (s[i + 1].toNat : Int) = 37 := fun e => hd (i64_u8 (by rw [e]; rfl))
    have HD := Lib.hid (show (blankB s[i + 1] || s[i + 1] == 37) = blankB s[i + 1] by rw [beq_false_of_ne hd, Bool.or_false])
    clear hd
    go_enter Tryd.func27, Tryd.ntmps27
    go_wp2_with (go_at_call 16; go_fit (blank_any _ _); rintro e w' ⟨rfl, rfl⟩)
    go_ret
    exact ⟨ret_bool (by rw [HD.out] <;> simp [hv]), rfl⟩
theorem ends_any (s : ByteArray) (i : Nat) (w : World) (hi : i < s.size) (hs : s.size ≤ 140737488351232) : Calls Tryd.prog 27 #[.string s, .int .i64 i] w fun e w' => e = .returned (.bool (endK (bl s) i)) ∧ w = w' := by
  rw [endK_at (l := bl s) hi]
  rw [bl_get s i hi]
  cases h : ((s[i].toNat : Int) != 46)
  · have hc : (s[i] == 46) = true := by
      simp only [bne_eq_false_iff_eq] at h
      exact beq_iff_eq.2 (i64_u8 (by rw [h]; rfl))
    rw [hc, Bool.true_and]
    by_cases hl : i + 1 = s.size
    · have e : (bl s).drop (i + 1) = [] := List.drop_eq_nil_of_le (by rw [bl_len]; omega)
      rw [e]
      exact ends_last s i w hl hs h
    · have hl' : i + 1 < s.size := by omega
      have e : (bl s).drop (i + 1) = s[i + 1] :: (bl s).drop (i + 2) := List.drop_eq_getElem_cons (l := bl s) (by rw [bl_len]; exact hl')
      rw [e]
      exact ends_next s i w hl' hs h
  · have hc : (s[i] == 46) = false := by
      apply beq_false_of_ne
      intro e
      rw [e] at h
      exact absurd h (by decide)
    rw [hc, Bool.false_and]
    exact ends_other s i w hi hs h

/-- As many symbols as follow, from a place on. -/
def symK (l : List UInt8) (k : Nat) : Nat := symRun (l.drop k)
theorem symK_in {l : List UInt8} {k : Nat} (h : k < l.length) (hp : symB l[k] = true) (he : endK l k = false) : symK l k = symK l (k + 1) + 1 := by
  unfold symK
  rw [endK_at h] at he
  rw [List.drop_eq_getElem_cons h, symRun, hp, he]
  rfl
theorem symK_out {l : List UInt8} {k : Nat} (h : k < l.length) (hp : symB l[k] = false) : symK l k = 0 := by
  unfold symK
  rw [List.drop_eq_getElem_cons h, symRun, hp]
  rfl
theorem symK_stop {l : List UInt8} {k : Nat} (h : k < l.length) (he : endK l k = true) : symK l k = 0 := by
  unfold symK
  rw [endK_at h] at he
  rw [List.drop_eq_getElem_cons h, symRun, he, Bool.not_true, Bool.and_false]
  rfl
theorem symK_end {l : List UInt8} {k : Nat} (h : l.length ≤ k) : symK l k = 0 := by
  unfold symK
  rw [List.drop_eq_nil_of_le h]; rfl
theorem symbols_any (s : ByteArray) (i : Nat) (w : World) (hi : i ≤ s.size) (hs : s.size ≤ 140737488351232) : Calls Tryd.prog 28 #[.string s, .int .i64 i] w fun e w' => e = .returned (.int .i64 ((i + symK (bl s) i : Nat) : Int)) ∧ w = w' := by
  have hT : ∃ T, i + symK (bl s) i = T := ⟨_, rfl⟩
  obtain ⟨T, hT⟩ := hT
  rw [hT]
  have HT := Lib.hid hT
  clear hT
  go_enter Tryd.func28, Tryd.ntmps28
  go_wp2
  go_loop [1] (fun v => ∃ k : Nat, k ≤ s.size ∧ v = .int .i64 k ∧ k + symK (bl s) k = T) (fun v => s.size - (intOf v).toNat)
  case atStart => exact ⟨i, hi, rfl, HT.out⟩
  case round =>
    obtain ⟨k, hk, rfl, hkT⟩ := hrel
    have HK := Lib.hid hkT
    clear hkT
    by_cases hlt : k < s.size
    · have E := fun w => ends_any s k w hlt hs
      cases hp : symB s[k]
      · have he := symK_out (l := bl s) (k := k) hlt hp
        have HE := Lib.hid he
        clear he
        go_wp2_with (first | (go_at_call 16; go_fit (sym_any _ _); rintro e w' ⟨rfl, rfl⟩) | (go_at_call 27; go_fit (E _); rintro e w' ⟨rfl, rfl⟩))
        go_ret
        exact ⟨ret_int (by have := HK.out; rw [HE.out] at this; omega), rfl⟩
      · have he1 := symK_in (l := bl s) (k := k) hlt hp
        have he2 := symK_stop (l := bl s) (k := k) hlt
        have H1 := Lib.hid he1
        have H2 := Lib.hid he2
        clear he1 he2
        generalize endK (bl s) k = b at E H1 H2
        cases b
        · go_wp2_with (first | (go_at_call 16; go_fit (sym_any _ _); rintro e w' ⟨rfl, rfl⟩) | (go_at_call 27; go_fit (E _); rintro e w' ⟨rfl, rfl⟩))
          go_round
          case rel => exact ⟨k + 1, by omega, by go_num, by have := HK.out; rw [H1.out (by trivial)] at this; omega⟩
          case measure => simp [intOf]; omega
        · go_wp2_with (first | (go_at_call 16; go_fit (sym_any _ _); rintro e w' ⟨rfl, rfl⟩) | (go_at_call 27; go_fit (E _); rintro e w' ⟨rfl, rfl⟩))
          go_ret
          exact ⟨ret_int (by have := HK.out; rw [H2.out (by trivial)] at this; omega), rfl⟩
    · have he := symK_end (l := bl s) (k := k) (show s.size ≤ k by omega)
      have HE := Lib.hid he
      clear he
      go_wp2
      go_ret
      exact ⟨ret_int (by have := HK.out; rw [HE.out] at this; omega), rfl⟩
end Go.Proofs.YtdjdkhbaemjnnaaDoor
