import Derived.Test.YtaojalicnnnkmaaGreatDoorHgaad
import Derived.Lib.ParseIntBTie
import Derived.Laws.IdiomStrings
import Derived.Stop.Joined
import Derived.Lib.AtoiErrMem
import Derived.Lib.SmallJoins
import Derived.Test.YtaojalicnnnkmaaGreatDoorHgaaa
import Derived.OwnWalk
set_option linter.unusedVariables false
set_option linter.unusedSimpArgs false
/- Package lex: the end; symbols. -/
namespace Go.Proofs.YtaojalicnnnkmaaGreatDoor
open Go.RowKit
set_option linter.unusedVariables false

theorem sub_ne (s : ByteArray) (i : Nat) (h : i < s.size) : (s.extract i s.size).toList ≠ [] := by
  rw [Lib.toList_data]
  show bl (s.extract i s.size) ≠ []
  rw [sub_bl s i (by omega)]
  intro e
  have h1 := congrArg List.length e
  rw [List.length_drop, bl_len] at h1
  simp at h1
  omega
theorem sub_get (s : ByteArray) (i : Nat) (h : i < s.size) (h0 : 0 < (s.extract i s.size).size) : (s.extract i s.size)[0] = s[i] := by
  simp only [ByteArray.getElem_extract]
  congr 1
theorem sub_size (s : ByteArray) (i : Nat) : (s.extract i s.size).size = s.size - i := by simp
theorem i64_u8 {c d : UInt8} (h : (c.toNat : Int) = (d.toNat : Int)) : c = d := UInt8.toNat_inj.1 (by omega)
theorem ends_other (s : ByteArray) (i : Nat) (w : World) (hi : i < s.size) (hs : s.size ≤ 140737488351232) (h : ((s[i].toNat : Int) != 46) = true) : Calls Tryz.prog 109 #[.string s, .int .i64 i] w fun e w' => e = .returned (.bool false) ∧ w = w' := by
  go_enter Tryz.func109, Tryz.ntmps109
  go_wp2
  go_ret
  exact ⟨rfl, rfl⟩
theorem ends_last (s : ByteArray) (i : Nat) (w : World) (hi : i + 1 = s.size) (hs : s.size ≤ 140737488351232) (h : (((s[i]'(by omega)).toNat : Int) != 46) = false) : Calls Tryz.prog 109 #[.string s, .int .i64 i] w fun e w' => e = .returned (.bool true) ∧ w = w' := by
  go_enter Tryz.func109, Tryz.ntmps109
  go_wp2
  go_ret
  exact ⟨rfl, rfl⟩
theorem ends_next (s : ByteArray) (i : Nat) (w : World) (hi : i + 1 < s.size) (hs : s.size ≤ 140737488351232) (h : (((s[i]'(by omega)).toNat : Int) != 46) = false) : Calls Tryz.prog 109 #[.string s, .int .i64 i] w fun e w' => e = .returned (.bool (blankB (s[i+1]) || s[i+1] == 37)) ∧ w = w' := by
  have hg := sub_get s (i + 1) hi (by rw [sub_size]; omega)
  have hn := sub_ne s (i + 1) hi
  have he : (s.extract (i + 1) s.size).toList.isEmpty = false := by
    cases h : (s.extract (i + 1) s.size).toList with
    | nil => exact absurd h hn
    | cons a r => rfl
  by_cases hd : s[i + 1] = 37
  · have hv : (s[i + 1].toNat : Int) = 37 := by rw [hd]; rfl
    have HD := Lib.hid (show (blankB s[i + 1] || s[i + 1] == 37) = true by rw [hd]; rfl)
    clear hd
    go_enter Tryz.func109, Tryz.ntmps109
    go_wp2_with (go_at_call 90; go_fit (blank_any _ _); rintro e w' ⟨rfl, rfl⟩)
    go_ret
    exact ⟨ret_bool (by rw [HD.out] <;> simp [hv]), rfl⟩
  · have hv : ¬ (s[i + 1].toNat : Int) = 37 := fun e => hd (i64_u8 (by rw [e]; rfl))
    have HD := Lib.hid (show (blankB s[i + 1] || s[i + 1] == 37) = blankB s[i + 1] by rw [beq_false_of_ne hd, Bool.or_false])
    clear hd
    go_enter Tryz.func109, Tryz.ntmps109
    go_wp2_with (go_at_call 90; go_fit (blank_any _ _); rintro e w' ⟨rfl, rfl⟩)
    go_ret
    exact ⟨ret_bool (by rw [HD.out] <;> simp [hv]), rfl⟩
theorem ends_any (s : ByteArray) (i : Nat) (w : World) (hi : i < s.size) (hs : s.size ≤ 140737488351232) : Calls Tryz.prog 109 #[.string s, .int .i64 i] w fun e w' => e = .returned (.bool (endK (bl s) i)) ∧ w = w' := by
  rw [endK_at (l := bl s) hi]
  rw [bl_get s i hi]
  cases h : ((s[i].toNat : Int) != 46)
  · have hc : (s[i] == 46) = true := by
      simp only [bne_eq_false_iff_eq] at h
      exact beq_iff_eq.2 (i64_u8 (by rw [h]; rfl))
    rw [hc, Bool.true_and]
    by_cases hl : i + 1 = s.size
    · have e : (bl s).drop (i + 1) = [] := List.drop_eq_nil_of_le (by rw [bl_len]; omega)
      rw [e]
      exact ends_last s i w hl hs h
    · have hl' : i + 1 < s.size := by omega
      have e : (bl s).drop (i + 1) = s[i + 1] :: (bl s).drop (i + 2) := List.drop_eq_getElem_cons (l := bl s) (by rw [bl_len]; exact hl')
      rw [e]
      exact ends_next s i w hl' hs h
  · have hc : (s[i] == 46) = false := by
      apply beq_false_of_ne
      intro e
      rw [e] at h
      exact absurd h (by decide)
    rw [hc, Bool.false_and]
    exact ends_other s i w hi hs h

/-- As many symbols as follow, from a place on. -/
def symK (l : List UInt8) (k : Nat) : Nat := symRun (l.drop k)
theorem symK_in {l : List UInt8} {k : Nat} (h : k < l.length) (hp : symB l[k] = true) (he : endK l k = false) : symK l k = symK l (k + 1) + 1 := by
  unfold symK
  rw [endK_at h] at he
  rw [List.drop_eq_getElem_cons h, symRun, hp, he]
  rfl
theorem symK_out {l : List UInt8} {k : Nat} (h : k < l.length) (hp : symB l[k] = false) : symK l k = 0 := by
  unfold symK
  rw [List.drop_eq_getElem_cons h, symRun, hp]
  rfl
theorem symK_stop {l : List UInt8} {k : Nat} (h : k < l.length) (he : endK l k = true) : symK l k = 0 := by
  unfold symK
  rw [endK_at h] at he
  rw [List.drop_eq_getElem_cons h, symRun, he, Bool.not_true, Bool.and_false]
  rfl
theorem symK_end {l : List UInt8} {k : Nat} (h : l.length ≤ k) : symK l k = 0 := by
  unfold symK
  rw [List.drop_eq_nil_of_le h]; rfl
theorem symbols_any (s : ByteArray) (i : Nat) (w : World) (hi : i ≤ s.size) (hs : s.size ≤ 140737488351232) : Calls Tryz.prog 110 #[.string s, .int .i64 i] w fun e w' => e = .returned (.int .i64 ((i + symK (bl s) i : Nat) : Int)) ∧ w = w' := by
  have hT : ∃ T, i + symK (bl s) i = T := ⟨_, rfl⟩
  obtain ⟨T, hT⟩ := hT
  rw [hT]
  have HT := Lib.hid hT
  clear hT
  go_enter Tryz.func110, Tryz.ntmps110
  go_wp2
  go_loop [1] (fun v => ∃ k : Nat, k ≤ s.size ∧ v = .int .i64 k ∧ k + symK (bl s) k = T) (fun v => s.size - (intOf v).toNat)
  case atStart => exact ⟨i, hi, rfl, HT.out⟩
  case round =>
    obtain ⟨k, hk, rfl, hkT⟩ := hrel
    have HK := Lib.hid hkT
    clear hkT
    by_cases hlt : k < s.size
    · have E := fun w => ends_any s k w hlt hs
      cases hp : symB s[k]
      · have he := symK_out (l := bl s) (k := k) hlt hp
        have HE := Lib.hid he
        clear he
        go_wp2_with (first | (go_at_call 90; go_fit (sym_any _ _); rintro e w' ⟨rfl, rfl⟩) | (go_at_call 109; go_fit (E _); rintro e w' ⟨rfl, rfl⟩))
        go_ret
        exact ⟨ret_int (by have := HK.out; rw [HE.out] at this; omega), rfl⟩
      · have he1 := symK_in (l := bl s) (k := k) hlt hp
        have he2 := symK_stop (l := bl s) (k := k) hlt
        have H1 := Lib.hid he1
        have H2 := Lib.hid he2
        clear he1 he2
        generalize endK (bl s) k = b at E H1 H2
        cases b
        · go_wp2_with (first | (go_at_call 90; go_fit (sym_any _ _); rintro e w' ⟨rfl, rfl⟩) | (go_at_call 109; go_fit (E _); rintro e w' ⟨rfl, rfl⟩))
          go_round
          case rel => exact ⟨k + 1, by omega, by go_num, by have := HK.out; rw [H1.out (by trivial)] at this; omega⟩
          case measure => simp [intOf]; omega
        · go_wp2_with (first | (go_at_call 90; go_fit (sym_any _ _); rintro e w' ⟨rfl, rfl⟩) | (go_at_call 109; go_fit (E _); rintro e w' ⟨rfl, rfl⟩))
          go_ret
          exact ⟨ret_int (by have := HK.out; rw [H2.out (by trivial)] at this; omega), rfl⟩
    · have he := symK_end (l := bl s) (k := k) (show s.size ≤ k by omega)
      have HE := Lib.hid he
      clear he
      go_wp2
      go_ret
      exact ⟨ret_int (by have := HK.out; rw [HE.out] at this; omega), rfl⟩
end Go.Proofs.YtaojalicnnnkmaaGreatDoor
/- Package lex: what is passed over; what a letter stands for; the value of digits. -/
namespace Go.Proofs.YtaojalicnnnkmaaGreatDoor
open Go.RowKit
set_option linter.unusedVariables false

/-- What is passed over from a place on. -/
def passK (l : List UInt8) (k : Nat) : Nat := passF (l.drop k)
theorem passK_blank {l : List UInt8} {k : Nat} (h : k < l.length) (hp : blankB l[k] = true) : passK l k = passK l (k + 1) + 1 := by
  unfold passK
  rw [List.drop_eq_getElem_cons h, passF_skip (k := 1) (by unfold nextC; rw [if_pos hp]) (Nat.le_refl _), List.drop_succ_cons, List.drop_zero, Nat.add_comm]
theorem passK_line {l : List UInt8} {k : Nat} (h : k < l.length) (hb : blankB l[k] = false) (hp : (l[k] == 37) = true) : passK l k = passK l (k + twK lineB l k) + twK lineB l k := by
  have hl : lineB l[k] = true := by
    have e : l[k] = 37 := by simpa using hp
    rw [e]; rfl
  rw [tw_in h hl]
  unfold passK twK
  rw [List.drop_eq_getElem_cons h]
  rw [passF_skip (k := ((l.drop (k + 1)).takeWhile lineB).length + 1) (by
    unfold nextC
    rw [if_neg (by simp [hb]), if_pos hp]
    rfl) (Nat.le_add_left _ _), ← List.drop_eq_getElem_cons h, List.drop_drop, Nat.add_comm]
theorem passK_stop {l : List UInt8} {k : Nat} (h : k < l.length) (hb : blankB l[k] = false) (hp : (l[k] == 37) = false) : passK l k = 0 := by
  unfold passK
  rw [List.drop_eq_getElem_cons h]
  refine passF_stop (fun j => ?_)
  unfold nextC
  rw [if_neg (by simp [hb]), if_neg (by simp [hp])]
  have nm : ∀ (n : Nat) (s : List UInt8), nameB n s ≠ .skip j := fun n s => by
    unfold nameB
    split
    · intro e; cases e
    · intro e; cases e
  split
  · exact nm _ _
  split
  · intro e; cases e
  split
  · split
    · intro e; cases e
    · intro e; cases e
  split
  · split
    · intro e; cases e
    · split
      · intro e; cases e
      · intro e; cases e
  split
  · intro e; cases e
  split
  · exact nm _ _
  split
  · exact nm _ _
  split
  · exact nm _ _
  split
  · intro e; cases e
  · intro e; cases e
theorem passK_end {l : List UInt8} {k : Nat} (h : l.length ≤ k) : passK l k = 0 := by
  unfold passK
  rw [List.drop_eq_nil_of_le h]; rfl
theorem tw_max (p : UInt8 → Bool) (l : List UInt8) (k : Nat) (h : k ≤ l.length) : k + twK p l k ≤ l.length := by
  have := tw_le p (l.drop k)
  rw [List.length_drop] at this
  unfold twK
  omega
theorem pass_any (s : ByteArray) (i : Nat) (w : World) (hi : i ≤ s.size) (hs : s.size ≤ 140737488351232) : Calls Tryz.prog 77 #[.string s, .int .i64 i] w fun e w' => e = .returned (.int .i64 ((i + passK (bl s) i : Nat) : Int)) ∧ w = w' := by
  have hT : ∃ T, i + passK (bl s) i = T := ⟨_, rfl⟩
  obtain ⟨T, hT⟩ := hT
  rw [hT]
  have HT := Lib.hid hT
  clear hT
  go_enter Tryz.func77, Tryz.ntmps77
  go_wp2
  go_loop [1] (fun v => ∃ k : Nat, k ≤ s.size ∧ v = .int .i64 k ∧ k + passK (bl s) k = T) (fun v => s.size - (intOf v).toNat)
  case atStart => exact ⟨i, hi, rfl, HT.out⟩
  case round =>
    obtain ⟨k, hk, rfl, hkT⟩ := hrel
    have HK := Lib.hid hkT
    clear hkT
    by_cases hlt : k < s.size
    · cases hp : blankB s[k]
      · cases hc : (s[k] == 37)
        · have he := passK_stop (l := bl s) (k := k) hlt hp hc
          have HE := Lib.hid he
          clear he
          have hv : ((s[k].toNat : Int) == 37) = false := by
            apply beq_false_of_ne
            intro e
            have : s[k] = 37 := i64_u8 (by rw [e]; rfl)
            rw [this] at hc
            cases hc
          go_wp2_with (go_at_call 90; go_fit (blank_any _ _); rintro e w' ⟨rfl, rfl⟩)
          go_ret
          exact ⟨ret_int (by have := HK.out; rw [HE.out] at this; omega), rfl⟩
        · have he := passK_line (l := bl s) (k := k) hlt hp hc
          have hl : lineB s[k] = true := by
            have e : s[k] = 37 := by simpa using hc
            rw [e]; rfl
          have ht := tw_in (p := lineB) (l := bl s) (k := k) hlt hl
          have hm := tw_max lineB (bl s) k hk
          rw [bl_len] at hm
          have R := fun w => run_line s k w hk hs
          have hv : (s[k].toNat : Int) = 37 := by
            have e : s[k] = 37 := by simpa using hc
            rw [e]; rfl
          obtain ⟨j, hj⟩ : ∃ j, k + twK lineB (bl s) k = j := ⟨_, rfl⟩
          rw [hj] at R he hm
          have HE := Lib.hid (show j + passK (bl s) j = T by have := HK.out; omega)
          have HJ := Lib.hid (show k < j by omega)
          clear he ht hj HK
          have B := fun w => blank_any 37 w
          rw [show (((37 : UInt8).toNat : Nat) : Int) = 37 from rfl, show blankB 37 = false from rfl] at B
          go_wp2_with (first | (go_at_call 90; go_fit (B _); rintro e w' ⟨rfl, rfl⟩) | (go_at_call 91; go_fit (R _); rintro e w' ⟨rfl, rfl⟩))
          go_round
          case rel => exact ⟨j, hm, rfl, HE.out⟩
          case measure => have := HJ.out; simp [intOf]; omega
      · have he := passK_blank (l := bl s) (k := k) hlt hp
        have HE := Lib.hid he
        clear he
        go_wp2_with (go_at_call 90; go_fit (blank_any _ _); rintro e w' ⟨rfl, rfl⟩)
        go_round
        case rel => exact ⟨k + 1, by omega, by go_num, by have := HK.out; rw [HE.out] at this; omega⟩
        case measure => simp [intOf]; omega
    · have he := passK_end (l := bl s) (k := k) (show s.size ≤ k by omega)
      have HE := Lib.hid he
      clear he
      go_wp2
      go_ret
      exact ⟨ret_int (by have := HK.out; rw [HE.out] at this; omega), rfl⟩

theorem u8_ne {c d : UInt8} (h : (c == d) = false) : ((c.toNat : Int) == (d.toNat : Int)) = false := by
  apply beq_false_of_ne
  intro e
  rw [i64_u8 e] at h
  simp at h
end Go.Proofs.YtaojalicnnnkmaaGreatDoor
/- How digits read as a number: the value, or too great. Nothing here is walked. -/
namespace Go.Proofs.YtaojalicnnnkmaaGreatDoor

theorem num_mono : ∀ (l : List UInt8) (a : Nat), a ≤ l.foldl (fun n c => n * 10 + (c.toNat - 48)) a
  | [], a => Nat.le_refl _
  | c :: r, a => by
    rw [List.foldl_cons]
    exact Nat.le_trans (by omega) (num_mono r _)
theorem digit_nat {c : UInt8} (h : digitB c = true) : 48 ≤ c.toNat ∧ c.toNat ≤ 57 := by
  rw [digit_eq] at h
  simp at h
  omega
theorem uint_val : ∀ (l : List UInt8) (a : Nat), l.all digitB = true → a < 18446744073709551616 →
    Lib.parseUint10 a l = if l.foldl (fun n c => n * 10 + (c.toNat - 48)) a < 18446744073709551616 then .ok (l.foldl (fun n c => n * 10 + (c.toNat - 48)) a) else .range
  | [], a, _, ha => by
    rw [Lib.parseUint10, List.foldl_nil, if_pos ha]
  | c :: r, a, h, ha => by
    simp only [List.all_cons, Bool.and_eq_true] at h
    have hm := num_mono r (a * 10 + (c.toNat - 48))
    rw [Lib.parseUint10, if_pos (digit_nat h.1), List.foldl_cons]
    by_cases h1 : 1844674407370955162 ≤ a
    · rw [if_pos h1, if_neg (by omega)]
    rw [if_neg h1]
    by_cases h2 : 18446744073709551616 ≤ a * 10 + (c.toNat - 48)
    · rw [if_pos h2, if_neg (by omega)]
    rw [if_neg h2]
    exact uint_val r _ h.2 (by omega)
theorem int_val {l : List UInt8} (h : l.all digitB = true) (hne : l ≠ []) : Lib.parseIntB 64 l = if numB l ≤ 9223372036854775807 then .ok (numB l : Int) else .range := by
  rw [Lib.parseIntB_64]
  cases l with
  | nil => exact absurd rfl hne
  | cons c r =>
    have hd := digit_nat (List.all_eq_true.1 h c (by simp))
    have hu := uint_val (c :: r) 0 h (by omega)
    unfold numB
    obtain ⟨v, hv⟩ : ∃ v, (c :: r).foldl (fun n c => n * 10 + (c.toNat - 48)) 0 = v := ⟨_, rfl⟩
    rw [hv] at hu ⊢
    have hm : Lib.parseMag (c :: r) = if v < 18446744073709551616 then .ok v else .range := by
      unfold Lib.parseMag
      rw [if_neg (by simp), hu]
    simp only [Lib.atoiAll]
    rw [if_neg (by omega), hm]
    by_cases h1 : v < 18446744073709551616
    · rw [if_pos h1]
      simp only
      by_cases h2 : v ≤ 9223372036854775807
      · rw [if_neg (by omega), if_neg (by omega), if_neg (by omega), if_pos h2]
      · rw [if_pos (by omega), if_neg h2]
    · rw [if_neg h1, if_neg (by omega)]
end Go.Proofs.YtaojalicnnnkmaaGreatDoor
/- Package lex: what a letter behind a '\' stands for; the value of digits; rows of bytes. -/
namespace Go.Proofs.YtaojalicnnnkmaaGreatDoor
open Go.RowKit
set_option linter.unusedVariables false

def escH : List UInt8 → Option UInt8
  | [] => none
  | d :: _ => escB d
theorem meant_empty (w : World) : Calls Tryz.prog 112 #[.string ⟨#[]⟩] w fun e w' => e = .returned (.tuple #[.int .u8 0, .bool false]) ∧ w = w' := by
  go_enter Tryz.func112, Tryz.ntmps112
  go_wp2
  go_ret2
  exact ⟨rfl, rfl⟩
theorem ne_of_pos {q : ByteArray} (h : 0 < q.size) : q.toList.isEmpty = false := by
  rw [Lib.toList_data]
  have h2 : q.data.toList.length = q.size := rfl
  cases hq : q.data.toList with
  | nil => rw [hq] at h2; simp at h2; omega
  | cons a r => rfl
theorem meant_some (q : ByteArray) (d : UInt8) (w : World) (h : escH (bl q) = some d) (hs : q.size ≤ 140737488351232) : Calls Tryz.prog 112 #[.string q] w fun e w' => e = .returned (.tuple #[.int .u8 d.toNat, .bool true]) ∧ w = w' := by
  have hp : 0 < q.size := by
    rcases Nat.eq_zero_or_pos q.size with h0 | h0
    · rw [bl_nil h0] at h; cases h
    · exact h0
  have hh : escB q[0] = some d := by
    have e : bl q = q[0] :: (bl q).drop 1 := by
      have := List.drop_eq_getElem_cons (l := bl q) (i := 0) hp
      rw [List.drop_zero] at this
      exact this
    rw [e] at h
    exact h
  have hne := ne_of_pos hp
  clear h
  unfold escB at hh
  split at hh
  · rename_i hc
    have hv : (q[0].toNat : Int) = 110 := by rw [show q[0] = 110 by simpa using hc]; rfl
    cases hh
    clear hc
    go_enter Tryz.func112, Tryz.ntmps112
    go_wp2
    go_ret2
    exact ⟨rfl, rfl⟩
  split at hh
  · rename_i hc
    have hv : (q[0].toNat : Int) = 116 := by rw [show q[0] = 116 by simpa using hc]; rfl
    cases hh
    clear hc
    go_enter Tryz.func112, Tryz.ntmps112
    go_wp2
    go_ret2
    exact ⟨rfl, rfl⟩
  split at hh
  · rename_i hc
    have hv : (q[0].toNat : Int) = 92 := by rw [show q[0] = 92 by simpa using hc]; rfl
    cases hh
    clear hc
    go_enter Tryz.func112, Tryz.ntmps112
    go_wp2
    go_ret2
    exact ⟨rfl, rfl⟩
  split at hh
  · rename_i hc
    have hv : (q[0].toNat : Int) = 39 := by rw [show q[0] = 39 by simpa using hc]; rfl
    cases hh
    clear hc
    go_enter Tryz.func112, Tryz.ntmps112
    go_wp2
    go_ret2
    exact ⟨rfl, rfl⟩
  · cases hh
theorem meant_none (q : ByteArray) (w : World) (h : escH (bl q) = none) (hs : q.size ≤ 140737488351232) : Calls Tryz.prog 112 #[.string q] w fun e w' => e = .returned (.tuple #[.int .u8 0, .bool false]) ∧ w = w' := by
  by_cases h0 : q.size = 0
  · obtain rfl : q = ⟨#[]⟩ := bl_inj (bl_nil h0)
    exact meant_empty w
  have hp : 0 < q.size := by omega
  have hh : escB q[0] = none := by
    have e : bl q = q[0] :: (bl q).drop 1 := by
      have := List.drop_eq_getElem_cons (l := bl q) (i := 0) hp
      rw [List.drop_zero] at this
      exact this
    rw [e] at h
    exact h
  have hne := ne_of_pos hp
  clear h
  unfold escB at hh
  cases h1 : (q[0] == 110)
  · cases h2 : (q[0] == 116)
    · cases h3 : (q[0] == 92)
      · cases h4 : (q[0] == 39)
        · have g1 := u8_ne h1
          have g2 := u8_ne h2
          have g3 := u8_ne h3
          have g4 := u8_ne h4
          have e1 : ((110 : UInt8).toNat : Int) = 110 := rfl
          have e2 : ((116 : UInt8).toNat : Int) = 116 := rfl
          have e3 : ((92 : UInt8).toNat : Int) = 92 := rfl
          have e4 : ((39 : UInt8).toNat : Int) = 39 := rfl
          rw [e1] at g1
          rw [e2] at g2
          rw [e3] at g3
          rw [e4] at g4
          clear hh h1 h2 h3 h4 e1 e2 e3 e4
          go_enter Tryz.func112, Tryz.ntmps112
          go_wp2
          go_ret2
          exact ⟨rfl, rfl⟩
        · rw [h1, h2, h3, h4] at hh; cases hh
      · rw [h1, h2, h3] at hh; cases hh
    · rw [h1, h2] at hh; cases hh
  · rw [h1] at hh; cases hh

theorem gRange : Tryz.prog.globalNamed "strconv.ErrRange" = some 2 := by kernel_rfl
/-- strconv's ErrRange is an error. -/
def Err (w : World) : Prop := ∃ tp p, w.var? Tryz.prog "strconv.ErrRange" = some #[.iface tp p]
theorem Err.ext {w w' : World} (h : Err w) (hb : Below w.heap.size w w') : Err w' := by
  obtain ⟨tp, p, h⟩ := h
  exact ⟨tp, p, Joins.var_stays gRange h hb (Nat.le_refl _)⟩
theorem parseInt_ok (s : ByteArray) {w : World} {v : Int} (hs : s.size ≤ 140737488351232) (h : Lib.parseIntB 64 (bl s) = .ok v) : Calls Tryz.prog 114 #[.string s, .int .i64 10, .int .i64 64] w fun e w' => e = .returned (.tuple #[.int .i64 v, .nilIface]) ∧ Below w.heap.size w w' :=
  (Tryz.strconv_ParseInt_10_at64_ok s (by omega) v h w).mono fun e w' h => ⟨h.1, by
    rcases h.2 with rfl | ⟨t, rfl⟩
    · exact Below.refl _ _
    · exact Lib.bytesWorld_below _ _ _⟩
theorem parseInt_range (s : ByteArray) {w : World} (he : Err w) (hs : s.size ≤ 140737488351232) (h : Lib.parseIntB 64 (bl s) = .range) : Calls Tryz.prog 114 #[.string s, .int .i64 10, .int .i64 64] w fun e w' => (∃ (x : Int) (t : TypeId) (q : Value), e = .returned (.tuple #[.int .i64 x, .iface t q])) ∧ Below w.heap.size w w' := by
  obtain ⟨tp, p, he⟩ := he
  refine (Tryz.strconv_ParseInt_10_at64_range_var s (by omega) h tp p w he).mono fun e w' h => ?_
  obtain ⟨N, h1, _, _, h4⟩ := h
  exact ⟨⟨_, _, _, h1⟩, h4⟩
theorem value_ok (s : ByteArray) {w : World} (hs : s.size ≤ 140737488351232) (hd : (bl s).all digitB = true) (hne : bl s ≠ []) (hv : numB (bl s) ≤ 9223372036854775807) : Calls Tryz.prog 95 #[.string s] w fun e w' => e = .returned (.tuple #[.int .i64 (numB (bl s)), .int .i64 0]) ∧ Below w.heap.size w w' := by
  have hp := int_val hd hne
  rw [if_pos hv] at hp
  have P := fun w => @parseInt_ok s w _ hs hp
  clear hp hd hne hv
  generalize numB (bl s) = n at P
  go_enter Tryz.func95, Tryz.ntmps95
  (go_wp2_with fail; go_fit (P _); rintro e w1 ⟨rfl, b1⟩)
  go_wp2
  go_ret2
  exact ⟨rfl, b1⟩
theorem value_over (s : ByteArray) {w : World} (he : Err w) (hs : s.size ≤ 140737488351232) (hd : (bl s).all digitB = true) (hne : bl s ≠ []) (hv : ¬ numB (bl s) ≤ 9223372036854775807) : Calls Tryz.prog 95 #[.string s] w fun e w' => e = .returned (.tuple #[.int .i64 0, .int .i64 3]) ∧ Below w.heap.size w w' := by
  have hp := int_val hd hne
  rw [if_neg hv] at hp
  have P := fun w h => @parseInt_range s w h hs hp
  clear hp hd hne hv
  go_enter Tryz.func95, Tryz.ntmps95
  (go_wp2_with fail; go_fit (P _ he); rintro e w1 ⟨⟨x, t, q, rfl⟩, b1⟩)
  go_wp2
  go_ret2
  exact ⟨rfl, b1⟩

/-- A row of bytes of the call's own. -/
def bytesV (l : List UInt8) : List Value := l.map fun c => .int .u8 (c.toNat : Int)
def RowB (w : World) (base : Nat) (v : Value) (l : List UInt8) : Prop := w.ownsRow base 5 1 v l.length (bytesV l)
theorem RowB.nil (w : World) (base : Nat) : RowB w base (.slice none 0 0) [] := World.ownsRow_nil _ _ _ _
theorem conv_row {w : World} {base : Nat} {v : Value} {l : List UInt8} (h : RowB w base v l) : (convert 167 9 v).run Tryz.prog w = .ok (.string ⟨l.toArray⟩) w := by
  rcases h.2 with ⟨rfl, h0⟩ | ⟨g, cap, cur, rfl, hg, hcur, h1, h2, h3, h4⟩
  · obtain rfl : l = [] := List.length_eq_zero_iff.1 h0
    have := run_convert_bytes_string (P := Tryz.prog) w 167 9 5 none 0 0 Tryz.underlying167 Tryz.underlying5 Tryz.underlying9
    rw [this]
    rfl
  · refine run_convert_bytes_back (P := Tryz.prog) w 167 9 5 ⟨g, 0, none⟩ cap l Tryz.underlying167 Tryz.underlying5 Tryz.underlying9 (fun j hj => ?_)
    rw [add_plain]
    simp only [World.cell?, hcur, Option.isSome_none]
    have h5 : (cur.toList.take (l.length * 1))[j]? = some (.int .u8 (l[j].toNat : Int)) := by
      rw [h4]
      simp [bytesV, List.getElem?_eq_getElem hj]
    rw [List.getElem?_take] at h5
    split at h5
    · simpa using h5
    · cases h5
end Go.Proofs.YtaojalicnnnkmaaGreatDoor
/- Package lex: a quoted name. -/
namespace Go.Proofs.YtaojalicnnnkmaaGreatDoor
open Go.RowKit
set_option linter.unusedVariables false

theorem drop_at {l : List UInt8} {i : Nat} (h : i < l.length) : l.drop i = l[i] :: l.drop (i + 1) := List.drop_eq_getElem_cons h
theorem quo_end {l : List UInt8} {i : Nat} (h : l.length ≤ i) : quoB (l.drop i) = none := by
  rw [List.drop_eq_nil_of_le h]; rfl
theorem quo_shut {l : List UInt8} {i : Nat} (h : i < l.length) (hc : (l[i] == 39) = true) (hp : Lib.hasPrefix (l.drop i) [39, 39] = false) : quoB (l.drop i) = some ([], 1) := by
  rw [drop_at h] at hp ⊢
  have e : l[i] = 39 := by simpa using hc
  cases hr : l.drop (i + 1) with
  | nil => rw [quoB, if_pos hc]
  | cons d r =>
    rw [quoB, if_pos hc, if_neg]
    intro hd
    rw [hr, e, show d = 39 by simpa using hd] at hp
    simp [Lib.hasPrefix] at hp
theorem quo_two {l : List UInt8} {i : Nat} (h : i < l.length) (hc : (l[i] == 39) = true) (hp : Lib.hasPrefix (l.drop i) [39, 39] = true) : i + 2 ≤ l.length ∧ quoB (l.drop i) = (quoB (l.drop (i + 2))).map fun p => (39 :: p.1, p.2 + 2) := by
  rw [drop_at h] at hp ⊢
  have e : l[i] = 39 := by simpa using hc
  cases hr : l.drop (i + 1) with
  | nil => rw [hr] at hp; simp [Lib.hasPrefix] at hp
  | cons d r =>
    have hl : i + 2 ≤ l.length := by
      have := congrArg List.length hr
      rw [List.length_drop] at this
      simp at this
      omega
    have hr2 : l.drop (i + 2) = r := by
      have h2 := drop_at (l := l) (i := i + 1) (by omega)
      rw [hr] at h2
      exact (List.cons.inj h2).2.symm
    rw [hr] at hp
    refine ⟨hl, ?_⟩
    rw [quoB, if_pos hc, if_pos, hr2]
    simp [Lib.hasPrefix] at hp
    simp [← hp.2]
theorem quo_wrong {l : List UInt8} {i : Nat} (h : i < l.length) (hq : (l[i] == 39) = false) (hc : (l[i] == 92) = true) (he : escH (l.drop (i + 1)) = none) : quoB (l.drop i) = none := by
  rw [drop_at h]
  cases hr : l.drop (i + 1) with
  | nil => rw [quoB, if_neg (by simp [hq])]
  | cons d r =>
    rw [hr] at he
    have he' : escB d = none := he
    rw [quoB, if_neg (by simp [hq]), if_pos hc, he']
theorem quo_esc {l : List UInt8} {i : Nat} {d : UInt8} (h : i < l.length) (hq : (l[i] == 39) = false) (hc : (l[i] == 92) = true) (he : escH (l.drop (i + 1)) = some d) : i + 2 ≤ l.length ∧ quoB (l.drop i) = (quoB (l.drop (i + 2))).map fun p => (d :: p.1, p.2 + 2) := by
  rw [drop_at h]
  cases hr : l.drop (i + 1) with
  | nil => rw [hr] at he; cases he
  | cons x r =>
    have hl : i + 2 ≤ l.length := by
      have := congrArg List.length hr
      rw [List.length_drop] at this
      simp at this
      omega
    have hr2 : l.drop (i + 2) = r := by
      have h2 := drop_at (l := l) (i := i + 1) (by omega)
      rw [hr] at h2
      exact (List.cons.inj h2).2.symm
    rw [hr] at he
    have he' : escB x = some d := he
    refine ⟨hl, ?_⟩
    rw [quoB, if_neg (by simp [hq]), if_pos hc, he', hr2]
theorem quo_plain {l : List UInt8} {i : Nat} (h : i < l.length) (hq : (l[i] == 39) = false) (hc : (l[i] == 92) = false) (hs : shownB l[i] = true) : quoB (l.drop i) = (quoB (l.drop (i + 1))).map fun p => (l[i] :: p.1, p.2 + 1) := by
  rw [drop_at h]
  cases hr : l.drop (i + 1) with
  | nil => simp [quoB, hq]
  | cons x r =>
    rw [quoB, if_neg (by simp [hq]), if_neg (by simp [hc]), if_pos (by unfold shownB at hs; exact hs)]
theorem quo_ill {l : List UInt8} {i : Nat} (h : i < l.length) (hq : (l[i] == 39) = false) (hc : (l[i] == 92) = false) (hs : shownB l[i] = false) : quoB (l.drop i) = none := by
  rw [drop_at h]
  cases hr : l.drop (i + 1) with
  | nil => rw [quoB, if_neg (by simp [hq])]
  | cons x r =>
    rw [quoB, if_neg (by simp [hq]), if_neg (by simp [hc]), if_neg]
    unfold shownB at hs
    simp [hs]
/-- What unquote answers. -/
def unqV (i : Nat) : Option (List UInt8 × Nat) → Value
  | none => .tuple #[.string ⟨#[]⟩, .int .i64 0, .int .i64 2]
  | some p => .tuple #[.string ⟨p.1.toArray⟩, .int .i64 ((i + 1 + p.2 : Nat) : Int), .int .i64 0]
theorem infoU8 : (Tryz.prog.info? 5).map (fun i => (i.zero, i.size, i.bytes)) = some (some (.int .u8 0), 1, 1) := by kernel_rfl
theorem bytesV_snoc (l : List UInt8) (c : UInt8) : bytesV (l ++ [c]) = bytesV l ++ [.int .u8 (c.toNat : Int)] := by simp [bytesV]
set_option maxHeartbeats 800000 in
theorem unquote_any (s : ByteArray) (i : Nat) (w : World) (hi : i < s.size) (hs : s.size ≤ 140737488351232) : Calls Tryz.prog 94 #[.string s, .int .i64 i] w fun e w' => e = .returned (unqV i (quoB ((bl s).drop (i + 1)))) ∧ Below w.heap.size w w' := by
  obtain ⟨X, hX⟩ : ∃ X, quoB ((bl s).drop (i + 1)) = X := ⟨_, rfl⟩
  rw [hX]
  have HX := Lib.hid hX
  clear hX
  obtain ⟨i0, hi0, hz0, hs0, hb0⟩ := info_parts infoU8
  go_enter Tryz.func94, Tryz.ntmps94
  go_wp2
  go_loopw [7, 8] (fun o v wr => ∃ (k : Nat) (ao : Option Addr) (cv : Nat) (l : List UInt8), i + 1 ≤ k ∧ k ≤ s.size ∧ v = .int .i64 k ∧ o = .slice ao l.length cv ∧ l.length ≤ k ∧ Hid (RowB wr w.heap.size o l) ∧ Hid (Below w.heap.size w wr) ∧
      Hid (X = (quoB ((bl s).drop k)).map fun p => (l ++ p.1, k - (i + 1) + p.2))) (fun _ v _ => s.size - (intOf v).toNat)
  case atStart => exact ⟨i + 1, none, 0, [], Nat.le_refl _, by omega, by go_num, rfl, by simp, Lib.hid (RowB.nil _ _), Lib.hid (Below.refl _ _), Lib.hid (by
    rw [HX.out]
    cases X with
    | none => rfl
    | some p => simp)⟩
  case round =>
    obtain ⟨k, ao, cv, l, hik, hk, rfl, rfl, hlk, HR, HB, HQ⟩ := hrel
    by_cases hlt : k < s.size
    · have hv : ((bl s)[k]'hlt) = s[k] := rfl
      cases hq : (s[k] == 39)
      · have gq := u8_ne hq
        rw [show ((39 : UInt8).toNat : Int) = 39 from rfl] at gq
        cases hc : (s[k] == 92)
        · have gc := u8_ne hc
          rw [show ((92 : UInt8).toNat : Int) = 92 from rfl] at gc
          cases hsh : shownB s[k]
          · have he := quo_ill (l := bl s) (i := k) hlt hq hc hsh
            have hxn : X = none := by rw [HQ.out, he]; rfl
            have SH := fun w => shown_any s[k] w
            rw [hsh] at SH
            subst hxn
            clear HX HQ he hq hc hsh
            go_wp2_with (go_at_call 113; go_fit (SH _); rintro e w' ⟨rfl, rfl⟩)
            go_ret3
            exact ⟨rfl, HB.out⟩
          · have he := quo_plain (l := bl s) (i := k) hlt hq hc hsh
            have HN : Hid (X = (quoB ((bl s).drop (k + 1))).map fun p => ((l ++ [s[k]]) ++ p.1, k + 1 - (i + 1) + p.2)) := Lib.hid (by
              rw [HQ.out, he, hv]
              cases quoB ((bl s).drop (k + 1)) with
              | none => rfl
              | some p => simp; omega)
            have SH := fun w => shown_any s[k] w
            rw [hsh] at SH
            clear HX HQ he hq hc hsh
            go_wp2_with (first | (go_at_call 113; go_fit (SH _); rintro e w' ⟨rfl, rfl⟩) | (at_builtin; refine wpList_append_own _ rfl _ _ 167 rfl w.heap.size 5 i0 (.int .u8 0) 1 1 Tryz.underlying167 hi0 hz0 hs0 hb0 rfl (by decide) _ _ _ rfl (HR.out.alloc _) ⟨wr.heap.size, 0, none⟩ 1 1 [.int .u8 (s[k].toNat : Int)] rfl rfl (cell_one_new _ _ _) (fun x hx => by simp at hx; subst hx; rfl) (by unfold maxLen; omega) (by omega) (by have := HB.out.size; simp; omega) ?_; intro v' w3 hown' hgrow3 hnil3))
            go_roundw
            case rel =>
              obtain ⟨g3, cap3, hv3⟩ : ∃ g3 cap3, v' = .slice (some ⟨g3, 0, none⟩) (l.length + 1) cap3 := by
                rcases hown'.2 with ⟨_, h⟩ | ⟨g3, cap3, _, h, _⟩
                · omega
                · exact ⟨g3, cap3, h⟩
              refine ⟨k + 1, some ⟨g3, 0, none⟩, cap3, l ++ [s[k]], by omega, by omega, by go_num, by rw [hv3]; simp, by simp; omega, Lib.hid ?_, Lib.hid ?_, HN⟩
              · unfold RowB
                rw [bytesV_snoc, List.length_append]
                exact hown'
              · exact (HB.out.alloc HB.out.size _).grown hgrow3 (by have := HB.out.size; simp; omega) (fun q hq => (HR.out.lt q hq).1)
            case measure => simp [intOf]; omega
        · have gc : (s[k].toNat : Int) = 92 := by rw [show s[k] = 92 by simpa using hc]; rfl
          have hq1 : bl (s.extract (k + 1) s.size) = (bl s).drop (k + 1) := sub_bl s (k + 1) (by omega)
          have hq2 : (s.extract (k + 1) s.size).size ≤ 140737488351232 := by rw [sub_size]; omega
          cases hes : escH ((bl s).drop (k + 1)) with
          | none =>
            have he := quo_wrong (l := bl s) (i := k) hlt hq hc hes
            have hxn : X = none := by rw [HQ.out, he]; rfl
            have M := fun w => meant_none (s.extract (k + 1) s.size) w (by rw [hq1]; exact hes) hq2
            subst hxn
            clear HX HQ he hq hc hes hq1 hq2 hv gq
            go_wp2_with (go_at_call 112; go_fit (M _); rintro e w' ⟨rfl, rfl⟩)
            go_ret3
            exact ⟨rfl, HB.out⟩
          | some d =>
            obtain ⟨hk2, he⟩ := quo_esc (l := bl s) (i := k) hlt hq hc hes
            have hk2' : k + 2 ≤ s.size := hk2
            have HN : Hid (X = (quoB ((bl s).drop (k + 2))).map fun p => ((l ++ [d]) ++ p.1, k + 2 - (i + 1) + p.2)) := Lib.hid (by
              rw [HQ.out, he]
              cases quoB ((bl s).drop (k + 2)) with
              | none => rfl
              | some p => simp; omega)
            have M := fun w => meant_some (s.extract (k + 1) s.size) d w (by rw [hq1]; exact hes) hq2
            clear HX HQ he hq hc hes hq1 hq2 hv gq hk2
            go_wp2_with (first | (go_at_call 112; go_fit (M _); rintro e w' ⟨rfl, rfl⟩) | (at_builtin; refine wpList_append_own _ rfl _ _ 167 rfl w.heap.size 5 i0 (.int .u8 0) 1 1 Tryz.underlying167 hi0 hz0 hs0 hb0 rfl (by decide) _ _ _ rfl (HR.out.alloc _) ⟨wr.heap.size, 0, none⟩ 1 1 [.int .u8 (d.toNat : Int)] rfl rfl (cell_one_new _ _ _) (fun x hx => by simp at hx; subst hx; rfl) (by unfold maxLen; omega) (by omega) (by have := HB.out.size; simp; omega) ?_; intro v' w3 hown' hgrow3 hnil3))
            go_roundw
            case rel =>
              obtain ⟨g3, cap3, hv3⟩ : ∃ g3 cap3, v' = .slice (some ⟨g3, 0, none⟩) (l.length + 1) cap3 := by
                rcases hown'.2 with ⟨_, h⟩ | ⟨g3, cap3, _, h, _⟩
                · omega
                · exact ⟨g3, cap3, h⟩
              refine ⟨k + 2, some ⟨g3, 0, none⟩, cap3, l ++ [d], by omega, by omega, by go_num, by rw [hv3]; simp, by simp; omega, Lib.hid ?_, Lib.hid ?_, HN⟩
              · unfold RowB
                rw [bytesV_snoc, List.length_append]
                exact hown'
              · exact (HB.out.alloc HB.out.size _).grown hgrow3 (by have := HB.out.size; simp; omega) (fun q hq => (HR.out.lt q hq).1)
            case measure => simp [intOf]; omega
      · have gc : (s[k].toNat : Int) = 39 := by rw [show s[k] = 39 by simpa using hq]; rfl
        have P := fun w => prefix_any (s.extract k s.size) ⟨#[39, 39]⟩ w
        rw [show bl (s.extract k s.size) = (bl s).drop k from sub_bl s k (by omega), show bl (⟨#[39, 39]⟩ : ByteArray) = [39, 39] from rfl] at P
        cases hpf : Lib.hasPrefix ((bl s).drop k) [39, 39]
        · rw [hpf] at P
          have he := quo_shut (l := bl s) (i := k) hlt hq hpf
          have hxn : X = some (l, k - (i + 1) + 1) := by rw [HQ.out, he]; simp
          have CV := conv_row HR.out
          subst hxn
          clear HX HQ he hq hpf hv
          go_wp2_with (go_at_call 111; go_fit (P _); rintro e w' ⟨rfl, rfl⟩)
          go_ret3
          refine ⟨?_, HB.out⟩
          unfold unqV
          simp only
          rw [show i + 1 + (k - (i + 1) + 1) = k + 1 by omega]
          rfl
        · rw [hpf] at P
          obtain ⟨hk2, he⟩ := quo_two (l := bl s) (i := k) hlt hq hpf
          have hk2' : k + 2 ≤ s.size := hk2
          have HN : Hid (X = (quoB ((bl s).drop (k + 2))).map fun p => ((l ++ [39]) ++ p.1, k + 2 - (i + 1) + p.2)) := Lib.hid (by
            rw [HQ.out, he]
            cases quoB ((bl s).drop (k + 2)) with
            | none => rfl
            | some p => simp; omega)
          clear HX HQ he hq hpf hv hk2
          go_wp2_with (first | (go_at_call 111; go_fit (P _); rintro e w' ⟨rfl, rfl⟩) | (at_builtin; refine wpList_append_own _ rfl _ _ 167 rfl w.heap.size 5 i0 (.int .u8 0) 1 1 Tryz.underlying167 hi0 hz0 hs0 hb0 rfl (by decide) _ _ _ rfl (HR.out.alloc _) ⟨wr.heap.size, 0, none⟩ 1 1 [.int .u8 39] rfl rfl (cell_one_new _ _ _) (fun x hx => by simp at hx; subst hx; rfl) (by unfold maxLen; omega) (by omega) (by have := HB.out.size; simp; omega) ?_; intro v' w3 hown' hgrow3 hnil3))
          go_roundw
          case rel =>
            obtain ⟨g3, cap3, hv3⟩ : ∃ g3 cap3, v' = .slice (some ⟨g3, 0, none⟩) (l.length + 1) cap3 := by
              rcases hown'.2 with ⟨_, h⟩ | ⟨g3, cap3, _, h, _⟩
              · omega
              · exact ⟨g3, cap3, h⟩
            refine ⟨k + 2, some ⟨g3, 0, none⟩, cap3, l ++ [39], by omega, by omega, by go_num, by rw [hv3]; simp, by simp; omega, Lib.hid ?_, Lib.hid ?_, HN⟩
            · unfold RowB
              rw [bytesV_snoc, List.length_append]
              exact hown'
            · exact (HB.out.alloc HB.out.size _).grown hgrow3 (by have := HB.out.size; simp; omega) (fun q hq => (HR.out.lt q hq).1)
          case measure => simp [intOf]; omega
    · have he := quo_end (l := bl s) (i := k) (show s.size ≤ k by omega)
      have hxn : X = none := by rw [HQ.out, he]; rfl
      subst hxn
      go_wp2
      go_ret3
      exact ⟨rfl, HB.out⟩
end Go.Proofs.YtaojalicnnnkmaaGreatDoor
/- Package lex: the kind of what begins at a place, and where it ends. -/
namespace Go.Proofs.YtaojalicnnnkmaaGreatDoor
open Go.RowKit
set_option linter.unusedVariables false

def pieceP (bs bg bd q be y o p1 p2 m : Bool) (i rw_ rd rs : Nat) : Nat × Nat :=
  if bs then (1, rw_) else if bg then (3, rw_) else if bd then (4, rd) else if q then (2, i) else if be then (6, i + 1) else if y then (1, rs) else if o then (1, i + 1) else if p1 || p2 then (1, i + 2) else if m then (5, i + 1) else (0, i)
def pairV (p : Nat × Nat) : Value := .tuple #[.int .i64 (p.1 : Int), .int .i64 (p.2 : Int)]
section
set_option maxHeartbeats 800000
theorem piece_core {s : ByteArray} {i : Nat} (w : World) (hi : i < s.size) (hs : s.size ≤ 140737488351232) {bs bg bd q be y o p1 p2 m : Bool} {rw_ rd rs : Nat}
    (S : ∀ w, Calls Tryz.prog 105 #[.int .u8 s[i].toNat] w fun e w' => e = .returned (.bool bs) ∧ w = w')
    (G : ∀ w, Calls Tryz.prog 107 #[.int .u8 s[i].toNat] w fun e w' => e = .returned (.bool bg) ∧ w = w')
    (D : ∀ w, Calls Tryz.prog 108 #[.int .u8 s[i].toNat] w fun e w' => e = .returned (.bool bd) ∧ w = w')
    (Q : ((s[i].toNat : Int) == 39) = q)
    (E : ∀ w, Calls Tryz.prog 109 #[.string s, .int .i64 i] w fun e w' => e = .returned (.bool be) ∧ w = w')
    (Y : ∀ w, Calls Tryz.prog 90 #[.string ⟨#[43, 45, 42, 47, 92, 94, 60, 62, 61, 126, 58, 46, 63, 64, 35, 38, 36]⟩, .int .u8 s[i].toNat] w fun e w' => e = .returned (.bool y) ∧ w = w')
    (O : ∀ w, Calls Tryz.prog 90 #[.string ⟨#[59, 33]⟩, .int .u8 s[i].toNat] w fun e w' => e = .returned (.bool o) ∧ w = w')
    (P1 : ∀ w, Calls Tryz.prog 111 #[.string (s.extract i s.size), .string ⟨#[91, 93]⟩] w fun e w' => e = .returned (.bool p1) ∧ w = w')
    (P2 : ∀ w, Calls Tryz.prog 111 #[.string (s.extract i s.size), .string ⟨#[123, 125]⟩] w fun e w' => e = .returned (.bool p2) ∧ w = w')
    (M : ∀ w, Calls Tryz.prog 90 #[.string ⟨#[40, 41, 91, 93, 123, 125, 44, 124]⟩, .int .u8 s[i].toNat] w fun e w' => e = .returned (.bool m) ∧ w = w')
    (RW : ∀ w, Calls Tryz.prog 91 #[.string s, .int .i64 i, .func (.func 106) #[] #[]] w fun e w' => e = .returned (.int .i64 (rw_ : Int)) ∧ w = w')
    (RD : ∀ w, Calls Tryz.prog 91 #[.string s, .int .i64 i, .func (.func 108) #[] #[]] w fun e w' => e = .returned (.int .i64 (rd : Int)) ∧ w = w')
    (YR : ∀ w, Calls Tryz.prog 110 #[.string s, .int .i64 i] w fun e w' => e = .returned (.int .i64 (rs : Int)) ∧ w = w') :
    Calls Tryz.prog 93 #[.string s, .int .i64 i] w fun e w' => e = .returned (pairV (pieceP bs bg bd q be y o p1 p2 m i rw_ rd rs)) ∧ w = w' := by
  cases bs
  · cases bg
    · cases bd
      · cases q
        · cases be
          · cases y
            · cases o
              · cases p1
                · cases p2
                  · cases m
                    · go_enter Tryz.func93, Tryz.ntmps93
                      go_wp2_with (first | (go_at_call 105; go_fit (S _); rintro e w' ⟨rfl, rfl⟩) | (go_at_call 107; go_fit (G _); rintro e w' ⟨rfl, rfl⟩) | (go_at_call 108; go_fit (D _); rintro e w' ⟨rfl, rfl⟩) | (go_at_call 109; go_fit (E _); rintro e w' ⟨rfl, rfl⟩) | (go_at_call 110; go_fit (YR _); rintro e w' ⟨rfl, rfl⟩) | (go_at_call 90; (first | go_fit (Y _) | go_fit (O _) | go_fit (M _)); rintro e w' ⟨rfl, rfl⟩) | (go_at_call 111; (first | go_fit (P1 _) | go_fit (P2 _)); rintro e w' ⟨rfl, rfl⟩) | (go_at_call 91; (first | go_fit (RW _) | go_fit (RD _)); rintro e w' ⟨rfl, rfl⟩))
                      go_ret2
                      exact ⟨rfl, rfl⟩
                    · go_enter Tryz.func93, Tryz.ntmps93
                      go_wp2_with (first | (go_at_call 105; go_fit (S _); rintro e w' ⟨rfl, rfl⟩) | (go_at_call 107; go_fit (G _); rintro e w' ⟨rfl, rfl⟩) | (go_at_call 108; go_fit (D _); rintro e w' ⟨rfl, rfl⟩) | (go_at_call 109; go_fit (E _); rintro e w' ⟨rfl, rfl⟩) | (go_at_call 110; go_fit (YR _); rintro e w' ⟨rfl, rfl⟩) | (go_at_call 90; (first | go_fit (Y _) | go_fit (O _) | go_fit (M _)); rintro e w' ⟨rfl, rfl⟩) | (go_at_call 111; (first | go_fit (P1 _) | go_fit (P2 _)); rintro e w' ⟨rfl, rfl⟩) | (go_at_call 91; (first | go_fit (RW _) | go_fit (RD _)); rintro e w' ⟨rfl, rfl⟩))
                      go_ret2
                      exact ⟨rfl, rfl⟩
                  · go_enter Tryz.func93, Tryz.ntmps93
                    go_wp2_with (first | (go_at_call 105; go_fit (S _); rintro e w' ⟨rfl, rfl⟩) | (go_at_call 107; go_fit (G _); rintro e w' ⟨rfl, rfl⟩) | (go_at_call 108; go_fit (D _); rintro e w' ⟨rfl, rfl⟩) | (go_at_call 109; go_fit (E _); rintro e w' ⟨rfl, rfl⟩) | (go_at_call 110; go_fit (YR _); rintro e w' ⟨rfl, rfl⟩) | (go_at_call 90; (first | go_fit (Y _) | go_fit (O _) | go_fit (M _)); rintro e w' ⟨rfl, rfl⟩) | (go_at_call 111; (first | go_fit (P1 _) | go_fit (P2 _)); rintro e w' ⟨rfl, rfl⟩) | (go_at_call 91; (first | go_fit (RW _) | go_fit (RD _)); rintro e w' ⟨rfl, rfl⟩))
                    go_ret2
                    exact ⟨rfl, rfl⟩
                · go_enter Tryz.func93, Tryz.ntmps93
                  go_wp2_with (first | (go_at_call 105; go_fit (S _); rintro e w' ⟨rfl, rfl⟩) | (go_at_call 107; go_fit (G _); rintro e w' ⟨rfl, rfl⟩) | (go_at_call 108; go_fit (D _); rintro e w' ⟨rfl, rfl⟩) | (go_at_call 109; go_fit (E _); rintro e w' ⟨rfl, rfl⟩) | (go_at_call 110; go_fit (YR _); rintro e w' ⟨rfl, rfl⟩) | (go_at_call 90; (first | go_fit (Y _) | go_fit (O _) | go_fit (M _)); rintro e w' ⟨rfl, rfl⟩) | (go_at_call 111; (first | go_fit (P1 _) | go_fit (P2 _)); rintro e w' ⟨rfl, rfl⟩) | (go_at_call 91; (first | go_fit (RW _) | go_fit (RD _)); rintro e w' ⟨rfl, rfl⟩))
                  go_ret2
                  exact ⟨rfl, rfl⟩
              · go_enter Tryz.func93, Tryz.ntmps93
                go_wp2_with (first | (go_at_call 105; go_fit (S _); rintro e w' ⟨rfl, rfl⟩) | (go_at_call 107; go_fit (G _); rintro e w' ⟨rfl, rfl⟩) | (go_at_call 108; go_fit (D _); rintro e w' ⟨rfl, rfl⟩) | (go_at_call 109; go_fit (E _); rintro e w' ⟨rfl, rfl⟩) | (go_at_call 110; go_fit (YR _); rintro e w' ⟨rfl, rfl⟩) | (go_at_call 90; (first | go_fit (Y _) | go_fit (O _) | go_fit (M _)); rintro e w' ⟨rfl, rfl⟩) | (go_at_call 111; (first | go_fit (P1 _) | go_fit (P2 _)); rintro e w' ⟨rfl, rfl⟩) | (go_at_call 91; (first | go_fit (RW _) | go_fit (RD _)); rintro e w' ⟨rfl, rfl⟩))
                go_ret2
                exact ⟨rfl, rfl⟩
            · go_enter Tryz.func93, Tryz.ntmps93
              go_wp2_with (first | (go_at_call 105; go_fit (S _); rintro e w' ⟨rfl, rfl⟩) | (go_at_call 107; go_fit (G _); rintro e w' ⟨rfl, rfl⟩) | (go_at_call 108; go_fit (D _); rintro e w' ⟨rfl, rfl⟩) | (go_at_call 109; go_fit (E _); rintro e w' ⟨rfl, rfl⟩) | (go_at_call 110; go_fit (YR _); rintro e w' ⟨rfl, rfl⟩) | (go_at_call 90; (first | go_fit (Y _) | go_fit (O _) | go_fit (M _)); rintro e w' ⟨rfl, rfl⟩) | (go_at_call 111; (first | go_fit (P1 _) | go_fit (P2 _)); rintro e w' ⟨rfl, rfl⟩) | (go_at_call 91; (first | go_fit (RW _) | go_fit (RD _)); rintro e w' ⟨rfl, rfl⟩))
              go_ret2
              exact ⟨rfl, rfl⟩
          · go_enter Tryz.func93, Tryz.ntmps93
            go_wp2_with (first | (go_at_call 105; go_fit (S _); rintro e w' ⟨rfl, rfl⟩) | (go_at_call 107; go_fit (G _); rintro e w' ⟨rfl, rfl⟩) | (go_at_call 108; go_fit (D _); rintro e w' ⟨rfl, rfl⟩) | (go_at_call 109; go_fit (E _); rintro e w' ⟨rfl, rfl⟩) | (go_at_call 110; go_fit (YR _); rintro e w' ⟨rfl, rfl⟩) | (go_at_call 90; (first | go_fit (Y _) | go_fit (O _) | go_fit (M _)); rintro e w' ⟨rfl, rfl⟩) | (go_at_call 111; (first | go_fit (P1 _) | go_fit (P2 _)); rintro e w' ⟨rfl, rfl⟩) | (go_at_call 91; (first | go_fit (RW _) | go_fit (RD _)); rintro e w' ⟨rfl, rfl⟩))
            go_ret2
            exact ⟨rfl, rfl⟩
        · go_enter Tryz.func93, Tryz.ntmps93
          go_wp2_with (first | (go_at_call 105; go_fit (S _); rintro e w' ⟨rfl, rfl⟩) | (go_at_call 107; go_fit (G _); rintro e w' ⟨rfl, rfl⟩) | (go_at_call 108; go_fit (D _); rintro e w' ⟨rfl, rfl⟩) | (go_at_call 109; go_fit (E _); rintro e w' ⟨rfl, rfl⟩) | (go_at_call 110; go_fit (YR _); rintro e w' ⟨rfl, rfl⟩) | (go_at_call 90; (first | go_fit (Y _) | go_fit (O _) | go_fit (M _)); rintro e w' ⟨rfl, rfl⟩) | (go_at_call 111; (first | go_fit (P1 _) | go_fit (P2 _)); rintro e w' ⟨rfl, rfl⟩) | (go_at_call 91; (first | go_fit (RW _) | go_fit (RD _)); rintro e w' ⟨rfl, rfl⟩))
          go_ret2
          exact ⟨rfl, rfl⟩
      · go_enter Tryz.func93, Tryz.ntmps93
        go_wp2_with (first | (go_at_call 105; go_fit (S _); rintro e w' ⟨rfl, rfl⟩) | (go_at_call 107; go_fit (G _); rintro e w' ⟨rfl, rfl⟩) | (go_at_call 108; go_fit (D _); rintro e w' ⟨rfl, rfl⟩) | (go_at_call 109; go_fit (E _); rintro e w' ⟨rfl, rfl⟩) | (go_at_call 110; go_fit (YR _); rintro e w' ⟨rfl, rfl⟩) | (go_at_call 90; (first | go_fit (Y _) | go_fit (O _) | go_fit (M _)); rintro e w' ⟨rfl, rfl⟩) | (go_at_call 111; (first | go_fit (P1 _) | go_fit (P2 _)); rintro e w' ⟨rfl, rfl⟩) | (go_at_call 91; (first | go_fit (RW _) | go_fit (RD _)); rintro e w' ⟨rfl, rfl⟩))
        go_ret2
        exact ⟨rfl, rfl⟩
    · go_enter Tryz.func93, Tryz.ntmps93
      go_wp2_with (first | (go_at_call 105; go_fit (S _); rintro e w' ⟨rfl, rfl⟩) | (go_at_call 107; go_fit (G _); rintro e w' ⟨rfl, rfl⟩) | (go_at_call 108; go_fit (D _); rintro e w' ⟨rfl, rfl⟩) | (go_at_call 109; go_fit (E _); rintro e w' ⟨rfl, rfl⟩) | (go_at_call 110; go_fit (YR _); rintro e w' ⟨rfl, rfl⟩) | (go_at_call 90; (first | go_fit (Y _) | go_fit (O _) | go_fit (M _)); rintro e w' ⟨rfl, rfl⟩) | (go_at_call 111; (first | go_fit (P1 _) | go_fit (P2 _)); rintro e w' ⟨rfl, rfl⟩) | (go_at_call 91; (first | go_fit (RW _) | go_fit (RD _)); rintro e w' ⟨rfl, rfl⟩))
      go_ret2
      exact ⟨rfl, rfl⟩
  · go_enter Tryz.func93, Tryz.ntmps93
    go_wp2_with (first | (go_at_call 105; go_fit (S _); rintro e w' ⟨rfl, rfl⟩) | (go_at_call 107; go_fit (G _); rintro e w' ⟨rfl, rfl⟩) | (go_at_call 108; go_fit (D _); rintro e w' ⟨rfl, rfl⟩) | (go_at_call 109; go_fit (E _); rintro e w' ⟨rfl, rfl⟩) | (go_at_call 110; go_fit (YR _); rintro e w' ⟨rfl, rfl⟩) | (go_at_call 90; (first | go_fit (Y _) | go_fit (O _) | go_fit (M _)); rintro e w' ⟨rfl, rfl⟩) | (go_at_call 111; (first | go_fit (P1 _) | go_fit (P2 _)); rintro e w' ⟨rfl, rfl⟩) | (go_at_call 91; (first | go_fit (RW _) | go_fit (RD _)); rintro e w' ⟨rfl, rfl⟩))
    go_ret2
    exact ⟨rfl, rfl⟩
end
end Go.Proofs.YtaojalicnnnkmaaGreatDoor
/- Package lex: what piece tells is what the document says stands next. Nothing here is walked but by contract. -/
namespace Go.Proofs.YtaojalicnnnkmaaGreatDoor
open Go.RowKit
set_option linter.unusedVariables false

def pieceK (l : List UInt8) (i : Nat) (c : UInt8) : Nat × Nat :=
  pieceP (smallB c) (greatB c) (digitB c) (c == 39) (endK l i) (symB c) (soloB c) (Lib.hasPrefix (l.drop i) [91, 93]) (Lib.hasPrefix (l.drop i) [123, 125]) (markB c) i (i + twK wordB l i) (i + twK digitB l i) (i + symK l i)
theorem piece_any (s : ByteArray) (i : Nat) (w : World) (hi : i < s.size) (hs : s.size ≤ 140737488351232) : Calls Tryz.prog 93 #[.string s, .int .i64 i] w fun e w' => e = .returned (pairV (pieceK (bl s) i s[i])) ∧ w = w' := by
  have hx : bl (s.extract i s.size) = (bl s).drop i := sub_bl s i (by omega)
  refine piece_core w hi hs (fun w => small_any _ w) (fun w => great_any _ w) (fun w => digit_any _ w) ?_ (fun w => ends_any s i w hi hs) (fun w => sym_any _ w) (fun w => solo_any _ w) (fun w => ?_) (fun w => ?_) (fun w => mark_any _ w)
    (fun w => run_word s i w (by omega) hs) (fun w => run_digit s i w (by omega) hs) (fun w => symbols_any s i w (by omega) hs)
  · rw [Bool.eq_iff_iff]
    simp only [beq_iff_eq]
    constructor
    · intro h; exact i64_u8 (by rw [h]; rfl)
    · intro h; rw [h]; rfl
  · have := prefix_any (s.extract i s.size) ⟨#[91, 93]⟩ w
    rw [hx] at this
    exact this
  · have := prefix_any (s.extract i s.size) ⟨#[123, 125]⟩ w
    rw [hx] at this
    exact this
theorem tw_take (p : UInt8 → Bool) : ∀ l : List UInt8, (l.take (l.takeWhile p).length).all p = true
  | [] => by simp
  | c :: r => by
    rw [List.takeWhile_cons]
    by_cases h : p c = true
    · rw [if_pos h]
      simp only [List.length_cons, List.take_succ_cons, List.all_cons, h, Bool.true_and]
      exact tw_take p r
    · rw [if_neg h]
      simp
/-- What stands next, by its kind. -/
theorem piece_next {l : List UInt8} {i : Nat} (h : i < l.length) (hns : ∀ k, nextC l[i] (l.drop (i + 1)) ≠ .skip k) :
    (∃ k, 1 ≤ k ∧ i + k ≤ l.length ∧ pieceK l i l[i] = (1, i + k) ∧ nextC l[i] (l.drop (i + 1)) = nameB k (l.drop i)) ∨
    (pieceK l i l[i] = (2, i) ∧ nextC l[i] (l.drop (i + 1)) = (match quoB (l.drop (i + 1)) with | none => .bad false | some p => if decide (p.1.length ≤ 64) then tokB 2 p.1 0 (p.2 + 1) (l.drop i) else .bad true)) ∨
    (∃ k, 1 ≤ k ∧ i + k ≤ l.length ∧ pieceK l i l[i] = (3, i + k) ∧ nextC l[i] (l.drop (i + 1)) = tokB 3 ((l.drop i).take k) 0 k (l.drop i)) ∨
    (∃ k, 1 ≤ k ∧ i + k ≤ l.length ∧ ((l.drop i).take k).all digitB = true ∧ pieceK l i l[i] = (4, i + k) ∧ nextC l[i] (l.drop (i + 1)) = if decide (numB ((l.drop i).take k) ≤ 9223372036854775807) then tokB 4 [] (numB ((l.drop i).take k)) k (l.drop i) else .bad true) ∨
    (pieceK l i l[i] = (5, i + 1) ∧ nextC l[i] (l.drop (i + 1)) = tokB 5 ((l.drop i).take 1) 0 1 (l.drop i)) ∨
    (pieceK l i l[i] = (6, i + 1) ∧ nextC l[i] (l.drop (i + 1)) = tokB 6 [] 0 1 (l.drop i)) ∨
    (pieceK l i l[i] = (0, i) ∧ nextC l[i] (l.drop (i + 1)) = .bad false) := by
  have hd := drop_at h
  have he := endK_at h
  have hw : wordB l[i] = (smallB l[i] || greatB l[i] || digitB l[i]) := rfl
  have htw := tw_max wordB l i (by omega)
  have htd := tw_max digitB l i (by omega)
  have hsy : symK l i ≤ l.length - i := by
    have := sym_le (l.drop i)
    rw [List.length_drop] at this
    exact this
  have hsk : symK l i = symRun (l[i] :: l.drop (i + 1)) := by unfold symK; rw [hd]
  have htk : ∀ p : UInt8 → Bool, p l[i] = true → twK p l i = ((l.drop (i + 1)).takeWhile p).length + 1 := fun p hp => tw_in h hp
  unfold pieceK pieceP
  generalize hc : l[i] = c at *
  generalize hr : l.drop (i + 1) = r at *
  have hns' := hns
  unfold nextC at hns ⊢
  by_cases h1 : blankB c = true
  · rw [if_pos h1] at hns; exact absurd rfl (hns 1)
  rw [if_neg h1]
  rw [if_neg h1] at hns
  by_cases h2 : (c == 37) = true
  · rw [if_pos h2] at hns; exact absurd rfl (hns _)
  rw [if_neg h2]
  clear hns
  by_cases h3 : smallB c = true
  · left
    have hp : wordB c = true := by rw [hw, h3]; rfl
    refine ⟨twK wordB l i, by rw [htk _ hp]; omega, htw, by rw [if_pos h3], ?_⟩
    rw [if_pos h3, htk _ hp, hd]
  rw [if_neg h3, if_neg h3]
  by_cases h4 : greatB c = true
  · right; right; left
    have hp : wordB c = true := by rw [hw, h4]; simp
    refine ⟨twK wordB l i, by rw [htk _ hp]; omega, htw, by rw [if_pos h4], ?_⟩
    rw [if_pos h4, htk _ hp, hd]
  rw [if_neg h4, if_neg h4]
  by_cases h5 : digitB c = true
  · right; right; right; left
    refine ⟨twK digitB l i, by rw [htk _ h5]; omega, htd, tw_take digitB (l.drop i), by rw [if_pos h5], ?_⟩
    rw [if_pos h5, htk _ h5, hd]
  rw [if_neg h5, if_neg h5]
  by_cases h6 : (c == 39) = true
  · right; left
    refine ⟨by rw [if_pos h6], ?_⟩
    rw [if_pos h6, hd]
    cases quoB r <;> rfl
  rw [if_neg h6, if_neg h6]
  by_cases h7 : (c == 46 && endB r) = true
  · right; right; right; right; right; left
    rw [he, h7]
    refine ⟨by rw [if_pos rfl], ?_⟩
    rw [if_pos rfl, hd]
  rw [he, if_neg h7, if_neg h7]
  by_cases h8 : symB c = true
  · left
    refine ⟨symK l i, by rw [hsk]; exact sym_pos h8 h7, by omega, by rw [if_pos h8], ?_⟩
    rw [if_pos h8, hd, hsk]
  rw [if_neg h8, if_neg h8]
  by_cases h9 : (c == 59 || c == 33) = true
  · left
    refine ⟨1, Nat.le_refl _, by omega, by rw [if_pos (show soloB c = true from h9)], ?_⟩
    rw [if_pos h9, hd]
  rw [if_neg h9, if_neg (show ¬ soloB c = true from h9)]
  have hpp : (Lib.hasPrefix (l.drop i) [91, 93] || Lib.hasPrefix (l.drop i) [123, 125]) = ((c == 91 && r.head? == some 93) || (c == 123 && r.head? == some 125)) := by
    rw [hd]
    have one : ∀ a b : UInt8, Lib.hasPrefix (c :: r) [a, b] = (c == a && r.head? == some b) := fun a b => by
      unfold Lib.hasPrefix
      cases r with
      | nil => simp [List.isPrefixOf]
      | cons x r =>
        simp only [List.isPrefixOf, Bool.and_true, List.head?_cons]
        rw [Bool.eq_iff_iff]
        simp only [Bool.and_eq_true, beq_iff_eq, Option.some.injEq]
        constructor
        · rintro ⟨h1, h2⟩; exact ⟨h1.symm, h2.symm⟩
        · rintro ⟨h1, h2⟩; exact ⟨h1.symm, h2.symm⟩
    rw [one, one]
  rw [hpp]
  by_cases h10 : ((c == 91 && r.head? == some 93) || (c == 123 && r.head? == some 125)) = true
  · left
    have hl : 1 ≤ r.length := by
      cases r with
      | nil => simp at h10
      | cons x r => simp
    refine ⟨2, by omega, ?_, by rw [if_pos h10], ?_⟩
    · rw [← hr, List.length_drop] at hl; omega
    · rw [if_pos h10, hd]
  rw [if_neg h10, if_neg h10]
  by_cases h11 : [40, 41, 91, 93, 123, 125, 44, 124].contains c = true
  · right; right; right; right; left
    refine ⟨by rw [if_pos (show markB c = true from h11)], ?_⟩
    rw [if_pos h11, hd]
    rfl
  rw [if_neg h11, if_neg (show ¬ markB c = true from h11)]
  right; right; right; right; right; right
  exact ⟨rfl, rfl⟩
end Go.Proofs.YtaojalicnnnkmaaGreatDoor
