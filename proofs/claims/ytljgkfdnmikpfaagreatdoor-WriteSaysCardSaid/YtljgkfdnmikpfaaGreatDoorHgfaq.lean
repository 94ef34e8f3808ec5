import Derived.Test.YtljgkfdnmikpfaaGreatDoorHgfaf
import Derived.Test.YtljgkfdnmikpfaaGreatDoorHgfap
import Derived.Test.YtljgkfdnmikpfaaGreatDoorHgfah
import Derived.Test.YtljgkfdnmikpfaaGreatDoorHgfag
set_option linter.unusedVariables false
set_option linter.unusedSimpArgs false
/- The document's own letters (sizarref1): each small function says what the plain functions on bytes say. -/
namespace Go.Proofs.YtljgkfdnmikpfaaGreatDoor
open Go.RowKit
set_option linter.unusedVariables false
set_option maxRecDepth 100000

theorem rsmall_any (c : UInt8) (w : World) : Calls Tryz.prog 151 #[.int .u8 c.toNat] w fun e w' => e = .returned (.bool (smallB c)) ∧ w = w' := by
  go_enter Tryz.func151, Tryz.ntmps151
  go_wp2
  all_goals go_ret
  all_goals exact ⟨ret_bool (by rw [small_eq]; simp_all; try omega), rfl⟩
theorem rgreat_any (c : UInt8) (w : World) : Calls Tryz.prog 152 #[.int .u8 c.toNat] w fun e w' => e = .returned (.bool (greatB c)) ∧ w = w' := by
  have hg := great_eq c
  cases h1 : decide (65 ≤ (c.toNat : Int)) <;> cases h2 : decide ((c.toNat : Int) ≤ 90) <;> cases h3 : ((c.toNat : Int) == 95)
  all_goals
    rw [h1, h2, h3] at hg
    have HG := Lib.hid hg
    clear hg
    simp only [decide_eq_true_eq, decide_eq_false_iff_not] at h1 h2
    go_enter Tryz.func152, Tryz.ntmps152
    go_wp2
    go_ret
    exact ⟨ret_bool (by rw [HG.out]; rfl), rfl⟩
theorem rdigit_any (c : UInt8) (w : World) : Calls Tryz.prog 154 #[.int .u8 c.toNat] w fun e w' => e = .returned (.bool (digitB c)) ∧ w = w' := by
  go_enter Tryz.func154, Tryz.ntmps154
  go_wp2
  all_goals go_ret
  all_goals exact ⟨ret_bool (by rw [digit_eq]; simp_all; try omega), rfl⟩
theorem rword_any (c : UInt8) (w : World) : Calls Tryz.prog 153 #[.int .u8 c.toNat] w fun e w' => e = .returned (.bool (wordB c)) ∧ w = w' := by
  have hw : wordB c = (smallB c || greatB c || digitB c) := rfl
  have HW := Lib.hid hw
  clear hw
  have A := fun w => rsmall_any c w
  have B := fun w => rgreat_any c w
  have D := fun w => rdigit_any c w
  generalize smallB c = x at A HW
  generalize greatB c = y at B HW
  generalize digitB c = z at D HW
  cases x
  · cases y
    · go_enter Tryz.func153, Tryz.ntmps153
      go_wp2_with (first | (go_at_call 151; go_fit (A _); rintro e w' ⟨rfl, rfl⟩) | (go_at_call 152; go_fit (B _); rintro e w' ⟨rfl, rfl⟩) | (go_at_call 154; go_fit (D _); rintro e w' ⟨rfl, rfl⟩))
      go_ret
      exact ⟨ret_bool (by rw [HW.out]; rfl), rfl⟩
    · go_enter Tryz.func153, Tryz.ntmps153
      go_wp2_with (first | (go_at_call 151; go_fit (A _); rintro e w' ⟨rfl, rfl⟩) | (go_at_call 152; go_fit (B _); rintro e w' ⟨rfl, rfl⟩) | (go_at_call 154; go_fit (D _); rintro e w' ⟨rfl, rfl⟩))
      go_ret
      exact ⟨ret_bool (by rw [HW.out]; rfl), rfl⟩
  · go_enter Tryz.func153, Tryz.ntmps153
    go_wp2_with (first | (go_at_call 151; go_fit (A _); rintro e w' ⟨rfl, rfl⟩) | (go_at_call 152; go_fit (B _); rintro e w' ⟨rfl, rfl⟩) | (go_at_call 154; go_fit (D _); rintro e w' ⟨rfl, rfl⟩))
    go_ret
    exact ⟨ret_bool (by rw [HW.out]; rfl), rfl⟩
theorem blank_eq : ∀ c, blankB c = ((c.toNat : Int) == 32 || (c.toNat : Int) == 9 || (c.toNat : Int) == 10 || (c.toNat : Int) == 13) := u8_all (by decide +kernel)
theorem rblank_any (c : UInt8) (w : World) : Calls Tryz.prog 113 #[.int .u8 c.toNat] w fun e w' => e = .returned (.bool (blankB c)) ∧ w = w' := by
  have hg := blank_eq c
  cases h1 : ((c.toNat : Int) == 32) <;> cases h2 : ((c.toNat : Int) == 9) <;> cases h3 : ((c.toNat : Int) == 10) <;> cases h4 : ((c.toNat : Int) == 13)
  all_goals
    rw [h1, h2, h3, h4] at hg
    have HG := Lib.hid hg
    clear hg
    (try simp only [beq_iff_eq] at h1)
    (try simp only [beq_iff_eq] at h2)
    (try simp only [beq_iff_eq] at h3)
    (try simp only [beq_iff_eq] at h4)
    first
    | (exfalso; omega)
    | (go_enter Tryz.func113, Tryz.ntmps113
       go_wp2
       go_ret
       exact ⟨ret_bool (by rw [HG.out]; rfl), rfl⟩)
/-! Symbols. -/
abbrev symS : ByteArray := ⟨#[43, 45, 42, 47, 92, 94, 60, 62, 61, 126, 58, 46, 63, 64, 35, 38, 36]⟩
theorem sym_none {c : UInt8} (h : ∀ k, k < 17 → (bl symS)[k]? ≠ some c) : symB c = false := by
  cases hs : symB c with
  | false => rfl
  | true =>
    exfalso
    have hm : c ∈ bl symS := List.contains_iff_mem.1 hs
    obtain ⟨k, hk, rfl⟩ := List.mem_iff_getElem.1 hm
    exact h k hk (List.getElem?_eq_getElem hk)
theorem sym_some {c : UInt8} {k : Nat} (hk : (bl symS)[k]? = some c) : symB c = true := by
  exact List.contains_iff_mem.2 (List.mem_of_getElem? hk)
theorem rsym_any (c : UInt8) (w : World) : Calls Tryz.prog 158 #[.int .u8 c.toNat] w fun e w' => e = .returned (.bool (symB c)) ∧ w = w' := by
  obtain ⟨y, hy⟩ : ∃ y, symB c = y := ⟨_, rfl⟩
  have HY := Lib.hid hy
  rw [hy]
  clear hy
  have hsz : symS.size = 17 := rfl
  go_enter Tryz.func158, Tryz.ntmps158
  go_wp2_with fail
  go_loop [4] (fun v => ∃ k : Nat, k ≤ 17 ∧ v = .int .i64 k ∧ Hid (∀ j, j < k → (bl symS)[j]? ≠ some c)) (fun v => 17 - (intOf v).toNat)
  case atStart => exact ⟨0, by omega, rfl, Lib.hid fun j h => absurd h (Nat.not_lt_zero j)⟩
  case round =>
    obtain ⟨k, hk, rfl, HK⟩ := hrel
    by_cases hlt : k < 17
    · have hlt' : k < symS.size := by omega
      have hg : (bl symS)[k]? = some symS[k] := List.getElem?_eq_getElem (l := bl symS) hlt'
      have HG := Lib.hid hg
      clear hg
      cases hq : ((symS[k].toNat : Int) == (c.toNat : Int))
      · have hne : ¬ symS[k] = c := fun e => by rw [e] at hq; simp at hq
        have HN := Lib.hid hne
        clear hne
        go_wp2
        go_round
        case rel => exact ⟨k + 1, by omega, by go_num, Lib.hid fun j hj => by
          by_cases e : j = k
          · subst e; rw [HG.out]; exact fun h => HN.out (Option.some.inj h)
          · exact HK.out j (by omega)⟩
        case measure => simp [intOf]; omega
      · have he : symS[k] = c := i64_u8 (eq_of_beq hq)
        obtain rfl : y = true := by have h1 := HG.out; rw [he] at h1; rw [← HY.out]; exact sym_some h1
        clear he
        go_wp2
        go_ret
        exact ⟨rfl, rfl⟩
    · obtain rfl : k = 17 := by omega
      obtain rfl : y = false := by rw [← HY.out]; exact sym_none (fun j hj => HK.out j hj)
      go_wp2
      go_ret
      exact ⟨rfl, rfl⟩
/-! The end. -/
theorem rends_out (s : ByteArray) (i : Nat) (w : World) (hi : i = s.size) (hs : s.size ≤ 140737488351232) : Calls Tryz.prog 157 #[.string s, .int .i64 i] w fun e w' => e = .returned (.bool false) ∧ w = w' := by
  go_enter Tryz.func157, Tryz.ntmps157
  go_wp2
  go_ret
  exact ⟨rfl, rfl⟩
theorem rends_other (s : ByteArray) (i : Nat) (w : World) (hi : i < s.size) (hs : s.size ≤ 140737488351232) (h : ((s[i].toNat : Int) == 46) = false) : Calls Tryz.prog 157 #[.string s, .int .i64 i] w fun e w' => e = .returned (.bool false) ∧ w = w' := by
  go_enter Tryz.func157, Tryz.ntmps157
  go_wp2
  go_ret
  exact ⟨rfl, rfl⟩
theorem rends_last (s : ByteArray) (i : Nat) (w : World) (hi : i + 1 = s.size) (hs : s.size ≤ 140737488351232) (h : (((s[i]'(by omega)).toNat : Int)) = 46) : Calls Tryz.prog 157 #[.string s, .int .i64 i] w fun e w' => e = .returned (.bool true) ∧ w = w' := by
  have hq : ((i : Int) + 1 == (s.size : Int)) = true := by rw [beq_iff_eq]; omega
  go_enter Tryz.func157, Tryz.ntmps157
  go_wp2
  go_ret
  exact ⟨rfl, rfl⟩
theorem rends_next (s : ByteArray) (i : Nat) (w : World) (hi : i + 1 < s.size) (hs : s.size ≤ 140737488351232) (h : (((s[i]'(by omega)).toNat : Int)) = 46) : Calls Tryz.prog 157 #[.string s, .int .i64 i] w fun e w' => e = .returned (.bool (blankB s[i + 1] || s[i + 1] == 37)) ∧ w = w' := by
  have hq : ((i : Int) + 1 == (s.size : Int)) = false := beq_false_of_ne (by omega)
  obtain ⟨c, hc⟩ : ∃ c, s[i + 1] = c := ⟨_, rfl⟩
  have hc' : ∀ h, s[i + 1]'h = c := fun _ => hc
  rw [hc]
  have A := fun w => rblank_any c w
  obtain ⟨y, hy⟩ : ∃ y, blankB c = y := ⟨_, rfl⟩
  rw [hy] at A ⊢
  have HY := Lib.hid hy
  clear hy hc
  cases y
  · cases hd : (c == 37)
    · have hv : ((c.toNat : Int) == 37) = false := beq_false_of_ne fun e => by rw [show c = 37 from i64_u8 (by rw [e]; rfl)] at hd; exact absurd hd (by decide)
      go_enter Tryz.func157, Tryz.ntmps157
      go_wp2_with (go_at_call 113; go_fit (A _); rintro e w' ⟨rfl, rfl⟩)
      go_ret
      exact ⟨rfl, rfl⟩
    · obtain rfl : c = 37 := eq_of_beq hd
      have A : ∀ w, Calls Tryz.prog 113 #[.int .u8 37] w fun e w' => e = .returned (.bool false) ∧ w = w' := fun w => rblank_any 37 w
      go_enter Tryz.func157, Tryz.ntmps157
      go_wp2_with (go_at_call 113; go_fit (A _); rintro e w' ⟨rfl, rfl⟩)
      go_ret
      exact ⟨rfl, rfl⟩
  · go_enter Tryz.func157, Tryz.ntmps157
    go_wp2_with (go_at_call 113; go_fit (A _); rintro e w' ⟨rfl, rfl⟩)
    go_ret
    exact ⟨rfl, rfl⟩
theorem rends_any (s : ByteArray) (i : Nat) (w : World) (hi : i ≤ s.size) (hs : s.size ≤ 140737488351232) : Calls Tryz.prog 157 #[.string s, .int .i64 i] w fun e w' => e = .returned (.bool (endK (bl s) i)) ∧ w = w' := by
  by_cases hlt : i < s.size
  · rw [endK_at (l := bl s) hlt, bl_get s i hlt]
    cases h : ((s[i].toNat : Int) == 46)
    · have hc : (s[i] == 46) = false := beq_false_of_ne fun e => by rw [e] at h; exact absurd h (by decide)
      rw [hc]
      exact rends_other s i w hlt hs h
    · have hc : s[i] = 46 := i64_u8 (by rw [eq_of_beq h]; rfl)
      have hv : (s[i].toNat : Int) = 46 := eq_of_beq h
      rw [show (s[i] == 46) = true by rw [hc]; rfl, Bool.true_and]
      by_cases hl : i + 1 = s.size
      · rw [List.drop_eq_nil_of_le (by rw [bl_len]; omega)]
        exact rends_last s i w hl hs hv
      · have hl' : i + 1 < s.size := by omega
        rw [List.drop_eq_getElem_cons (l := bl s) (show i + 1 < (bl s).length from hl')]
        exact rends_next s i w hl' hs hv
  · have : endK (bl s) i = false := by unfold endK; rw [List.getElem?_eq_none (by rw [bl_len]; omega)]; rfl
    rw [this]
    exact rends_out s i w (by omega) hs
/-! Digits. -/
theorem numB_go (l : List UInt8) (k : Nat) (h : k < l.length) : numB (l.take (k + 1)) = numB (l.take k) * 10 + (l[k].toNat - 48) := by
  unfold numB
  rw [List.take_succ_eq_append_getElem h, List.foldl_append]
  rfl
theorem numB_le (l : List UInt8) (k : Nat) : numB (l.take k) ≤ numB l := by
  have h := num_mono (l.drop k) (numB (l.take k))
  unfold numB at h ⊢
  rw [← List.foldl_append, List.take_append_drop] at h
  exact h
/-- What digits read as. -/
def numR (l : List UInt8) : Int × Int := if numB l ≤ 9223372036854775807 then ((numB l : Nat), 0) else (0, 3)
set_option maxHeartbeats 1000000 in
theorem rnum_any (s : ByteArray) (w : World) (hs : s.size ≤ 140737488351232) (hn : 0 < s.size) (hd : (bl s).all digitB = true) : Calls Tryz.prog 155 #[.string s] w fun e w' => e = Ret2 (numR (bl s)) ∧ w = w' := by
  have HDG := Lib.hid (show ∀ j (h : j < s.size), digitB s[j] = true from fun j h => List.all_eq_true.1 hd _ (List.getElem_mem (l := bl s) h))
  clear hd
  obtain ⟨x1, x2, hx⟩ : ∃ x1 x2, numR (bl s) = (x1, x2) := ⟨_, _, rfl⟩
  rw [hx]
  have HX := Lib.hid hx
  clear hx
  have hc : ((s[0].toNat : Int) == 45) = false := beq_false_of_ne fun e => by have := digit_nat (HDG.out 0 hn); omega
  have hse : ¬ s = ByteArray.empty := fun e => by subst e; exact absurd hn (by decide)
  go_enter Tryz.func155, Tryz.ntmps155
  go_wp2
  go_loop [6] (fun i => ∃ k : Nat, k ≤ s.size ∧ i = .int .i64 k) (fun i => s.size - (intOf i).toNat)
  case atStart => exact ⟨0, by omega, rfl⟩
  case round =>
    obtain ⟨k, hk, rfl⟩ := hrel
    by_cases hlt : k < s.size
    · have D := fun w => rdigit_any s[k] w
      rw [HDG.out k hlt] at D
      (go_wp2_with fail; go_fit (D _); rintro e w' ⟨rfl, rfl⟩)
      go_wp2
      go_round
      case rel => exact ⟨k + 1, by omega, by go_num⟩
      case measure => simp [intOf]; omega
    · obtain rfl : k = s.size := by omega
      go_wp2
      go_loop [4, 7] (fun i n => ∃ (j q : Nat), j ≤ s.size ∧ q ≤ 9223372036854775807 ∧ i = .int .i64 j ∧ n = .int .i64 q ∧ Hid (numB ((bl s).take j) = q)) (fun i _ => s.size - (intOf i).toNat)
      case atStart => exact ⟨0, 0, by omega, by omega, rfl, rfl, Lib.hid rfl⟩
      case round =>
        obtain ⟨j, q, hj, hq, rfl, rfl, HQ⟩ := hrel
        by_cases hjl : j < s.size
        · have hdig := digit_nat (HDG.out j hjl)
          have hgo := numB_go (bl s) j hjl
          rw [HQ.out, bl_get s j hjl] at hgo
          have hle := numB_le (bl s) (j + 1)
          rw [hgo] at hle
          have HGO := Lib.hid hgo
          have hX := HX.out
          unfold numR at hX
          have M := fun w => @r_mul q 10 w (by unfold R; omega) (by decide)
          have u1 : IntKind.u8.wrap ((s[j].toNat : Int) - 48) = (s[j].toNat : Int) - 48 := by rw [IntKind.wrap_u8]; omega
          have u2 : IntKind.i64.wrap ((s[j].toNat : Int) - 48) = (s[j].toNat : Int) - 48 := wrap_in (by unfold R; omega)
          have u3 : IntKind.i64.wrap (-((s[j].toNat : Int) - 48)) = -((s[j].toNat : Int) - 48) := wrap_in (by unfold R; omega)
          have u4 : IntKind.i64.wrap (0 - ((s[j].toNat : Int) - 48)) = -((s[j].toNat : Int) - 48) := by rw [wrap_in (by unfold R; omega)]; omega
          by_cases hm : (q : Int) * 10 ≤ 9223372036854775807
          · rw [ex_in (show R ((q : Int) * 10) by unfold R; omega)] at M
            have A := fun w => @r_add ((q : Int) * 10) ((s[j].toNat : Int) - 48) w (by unfold R; omega) (by unfold R; omega)
            by_cases hf : q * 10 + (s[j].toNat - 48) ≤ 9223372036854775807
            · have hE : (q : Int) * 10 + ((s[j].toNat : Int) - 48) = ((q * 10 + (s[j].toNat - 48) : Nat) : Int) := by omega
              rw [ex_in (show R ((q : Int) * 10 + ((s[j].toNat : Int) - 48)) by unfold R; omega), hE] at A
              obtain ⟨y, hy⟩ : ∃ y : Nat, q * 10 + (s[j].toNat - 48) = y := ⟨_, rfl⟩
              rw [hy] at A hgo hf
              have HN := Lib.hid hgo
              clear hE hX hle hgo HGO hy
              obtain ⟨m, hm'⟩ : ∃ m : Int, (q : Int) * 10 = m := ⟨_, rfl⟩
              rw [hm'] at M A hm
              clear hm' HQ
              (go_wp2_with fail; go_fit (M _); rintro e w' ⟨rfl, rfl⟩)
              (go_wp2_with fail; go_fit (A _); rintro e w' ⟨rfl, rfl⟩)
              (go_wp2_with fail; go_fit (A _); rintro e w' ⟨rfl, rfl⟩)
              go_wp2
              go_round
              case rel => exact ⟨j + 1, y, by omega, hf, by go_num, by go_num, HN⟩
              case measure => simp [intOf]; omega
            · rw [ex_out (show ¬ R ((q : Int) * 10 + ((s[j].toNat : Int) - 48)) by unfold R; omega)] at A
              rw [if_neg (by omega)] at hX
              obtain ⟨rfl, rfl⟩ : x1 = 0 ∧ x2 = 3 := by cases hX; exact ⟨rfl, rfl⟩
              obtain ⟨m, hm'⟩ : ∃ m : Int, (q : Int) * 10 = m := ⟨_, rfl⟩
              rw [hm'] at M A hm
              clear hm' HQ hX hle hgo HGO hf
              (go_wp2_with fail; go_fit (M _); rintro e w' ⟨rfl, rfl⟩)
              (go_wp2_with fail; go_fit (A _); rintro e w' ⟨rfl, rfl⟩)
              (go_wp2_with fail; go_fit (A _); rintro e w' ⟨rfl, rfl⟩)
              go_wp2
              go_ret2
              exact ⟨rfl, rfl⟩
          · rw [ex_out (show ¬ R ((q : Int) * 10) by unfold R; omega)] at M
            have A := fun w => @r_add 0 ((s[j].toNat : Int) - 48) w (by decide) (by unfold R; omega)
            rw [Int.zero_add, ex_in (show R ((s[j].toNat : Int) - 48) by unfold R; omega)] at A
            rw [if_neg (by omega)] at hX
            obtain ⟨rfl, rfl⟩ : x1 = 0 ∧ x2 = 3 := by cases hX; exact ⟨rfl, rfl⟩
            clear HQ hX hle hgo HGO hm
            (go_wp2_with fail; go_fit (M _); rintro e w' ⟨rfl, rfl⟩)
            (go_wp2_with fail; go_fit (A _); rintro e w' ⟨rfl, rfl⟩)
            (go_wp2_with fail; go_fit (A _); rintro e w' ⟨rfl, rfl⟩)
            go_wp2
            go_ret2
            exact ⟨rfl, rfl⟩
        · obtain rfl : j = s.size := by omega
          have hX := HX.out
          have ht : (bl s).take s.size = bl s := List.take_of_length_le (by rw [bl_len]; exact Nat.le_refl _)
          have hQ := HQ.out
          rw [ht] at hQ
          unfold numR at hX
          rw [hQ, if_pos hq] at hX
          obtain ⟨rfl, rfl⟩ : x1 = (q : Int) ∧ x2 = 0 := by cases hX; exact ⟨rfl, rfl⟩
          clear HQ hX ht hQ HX
          go_wp2
          go_ret2
          exact ⟨rfl, rfl⟩
end Go.Proofs.YtljgkfdnmikpfaaGreatDoor
/- The document's own token (sizarref1.one): words. -/
namespace Go.Proofs.YtljgkfdnmikpfaaGreatDoor
open Go.RowKit
set_option linter.unusedVariables false
set_option maxRecDepth 100000

/-- A token as it is answered, where it stands not told yet. -/
abbrev rtokV (k : Int) (t : ByteArray) (n : Int) : Value := .agg #[.int .i64 k, .string t, .int .i64 n, .bool false, .int .i64 0]
abbrev roneV (k : Int) (t : ByteArray) (n : Int) (b e : Int) : Ending := .returned (.tuple #[rtokV k t n, .int .i64 b, .int .i64 e])
set_option maxHeartbeats 1000000 in
theorem rone_great (s : ByteArray) (i : Nat) (w : World) (hi : i < s.size) (hs : s.size ≤ 140737488351232) (hsm : smallB s[i] = false) (hg : greatB s[i] = true) {T : Nat} (hT : i + twK wordB (bl s) i = T) :
    Calls Tryz.prog 114 #[.string s, .int .i64 i] w fun e w' => e = roneV 3 (s.extract i T) 0 T 0 ∧ Below w.heap.size w w' := by
  have hTs : T ≤ s.size := by rw [← hT]; exact tw_max wordB (bl s) i (Nat.le_of_lt hi)
  have hiT : i ≤ T := by omega
  have HT := Lib.hid hT
  obtain ⟨c, hc⟩ : ∃ c, s[i] = c := ⟨_, rfl⟩
  have hc' : ∀ h, s[i]'h = c := fun _ => hc
  rw [hc] at hsm hg
  have A := fun w => rsmall_any c w
  have B := fun w => rgreat_any c w
  rw [hsm] at A
  rw [hg] at B
  clear hsm hg hT hc
  obtain ⟨w1, hw1, hb1, hz1, hx1⟩ := box_new w #[.int .i64 0, .string ⟨#[]⟩, .int .i64 0, .bool false, .int .i64 0] 138
  obtain ⟨r0, r1, r2, r3, r4, rf⟩ := hx1.five
  go_enter Tryz.func114, Tryz.ntmps114
  go_wp2_with fail
  (try rw [hw1])
  clear hw1 hz1 hx1
  go_wp2_with (first | (go_at_call 151; go_fit (A _); rintro e w' ⟨rfl, rfl⟩) | (go_at_call 152; go_fit (B _); rintro e w' ⟨rfl, rfl⟩) | fail)
  go_loop [8] (fun v => ∃ k : Nat, i ≤ k ∧ k ≤ s.size ∧ v = .int .i64 k ∧ k + twK wordB (bl s) k = T) (fun v => s.size - (intOf v).toNat)
  case atStart => exact ⟨i, Nat.le_refl _, by omega, rfl, HT.out⟩
  case round =>
    obtain ⟨k, hik, hk, rfl, hkT⟩ := hrel
    have HK := Lib.hid hkT
    clear hkT
    by_cases hlt : k < s.size
    · cases hp : wordB s[k]
      · have he := tw_out (l := bl s) (p := wordB) (k := k) hlt hp
        have W := fun w => rword_any s[k] w
        rw [hp] at W
        have hkT := HK.out
        rw [he] at hkT
        obtain rfl : k = T := by omega
        clear he hp HK HT hkT
        go_wp2_with (first | (go_at_call 153; go_fit (W _); rintro e w' ⟨rfl, rfl⟩) | (go_at_call 152; go_fit (B _); rintro e w' ⟨rfl, rfl⟩) | fail)
        refine bodyPost_ret (v := .tuple #[rtokV 3 (s.extract i k) 0, .int .i64 k, .int .i64 0]) (by rw [results_cell3 rfl]; go_simp; (try rfl)) rfl ?_
        refine And.intro rfl ?_
        repeat' (first | with_reducible exact hb1 | with_reducible refine Below.setCell ?_ ?_ _ | exact Nat.le_refl _)
      · have he := tw_in (l := bl s) (p := wordB) (k := k) hlt hp
        have HE := Lib.hid he
        have W := fun w => rword_any s[k] w
        rw [hp] at W
        clear he hp
        go_wp2_with (first | (go_at_call 153; go_fit (W _); rintro e w' ⟨rfl, rfl⟩) | fail)
        go_round
        case rel => exact ⟨k + 1, by omega, by omega, by go_num, by have := HK.out; rw [HE.out] at this; omega⟩
        case measure => simp [intOf]; omega
    · have he := tw_end (l := bl s) (p := wordB) (k := k) (show s.size ≤ k by omega)
      have hkT := HK.out
      rw [he] at hkT
      obtain rfl : k = T := by omega
      clear he HK HT hkT
      go_wp2_with (first | (go_at_call 152; go_fit (B _); rintro e w' ⟨rfl, rfl⟩) | fail)
      refine bodyPost_ret (v := .tuple #[rtokV 3 (s.extract i k) 0, .int .i64 k, .int .i64 0]) (by rw [results_cell3 rfl]; go_simp; (try rfl)) rfl ?_
      refine And.intro rfl ?_
      repeat' (first | with_reducible exact hb1 | with_reducible refine Below.setCell ?_ ?_ _ | exact Nat.le_refl _)
set_option maxHeartbeats 1000000 in
theorem rone_small (s : ByteArray) (i : Nat) (w : World) (hi : i < s.size) (hs : s.size ≤ 140737488351232) (hsm : smallB s[i] = true) (hg : greatB s[i] = false) {T : Nat} (hT : i + twK wordB (bl s) i = T) (h64 : (T : Int) - i ≤ 64) :
    Calls Tryz.prog 114 #[.string s, .int .i64 i] w fun e w' => e = roneV 1 (s.extract i T) 0 T 0 ∧ Below w.heap.size w w' := by
  have hTs : T ≤ s.size := by rw [← hT]; exact tw_max wordB (bl s) i (Nat.le_of_lt hi)
  have hiT : i ≤ T := by omega
  have HT := Lib.hid hT
  obtain ⟨c, hc⟩ : ∃ c, s[i] = c := ⟨_, rfl⟩
  have hc' : ∀ h, s[i]'h = c := fun _ => hc
  rw [hc] at hsm hg
  have A := fun w => rsmall_any c w
  have B := fun w => rgreat_any c w
  rw [hsm] at A
  rw [hg] at B
  clear hsm hg hT hc
  obtain ⟨w1, hw1, hb1, hz1, hx1⟩ := box_new w #[.int .i64 0, .string ⟨#[]⟩, .int .i64 0, .bool false, .int .i64 0] 138
  obtain ⟨r0, r1, r2, r3, r4, rf⟩ := hx1.five
  go_enter Tryz.func114, Tryz.ntmps114
  go_wp2_with fail
  (try rw [hw1])
  clear hw1 hz1 hx1
  go_wp2_with (first | (go_at_call 151; go_fit (A _); rintro e w' ⟨rfl, rfl⟩) | (go_at_call 152; go_fit (B _); rintro e w' ⟨rfl, rfl⟩) | fail)
  go_loop [8] (fun v => ∃ k : Nat, i ≤ k ∧ k ≤ s.size ∧ v = .int .i64 k ∧ k + twK wordB (bl s) k = T) (fun v => s.size - (intOf v).toNat)
  case atStart => exact ⟨i, Nat.le_refl _, by omega, rfl, HT.out⟩
  case round =>
    obtain ⟨k, hik, hk, rfl, hkT⟩ := hrel
    have HK := Lib.hid hkT
    clear hkT
    by_cases hlt : k < s.size
    · cases hp : wordB s[k]
      · have he := tw_out (l := bl s) (p := wordB) (k := k) hlt hp
        have W := fun w => rword_any s[k] w
        rw [hp] at W
        have hkT := HK.out
        rw [he] at hkT
        obtain rfl : k = T := by omega
        clear he hp HK HT hkT
        go_wp2_with (first | (go_at_call 153; go_fit (W _); rintro e w' ⟨rfl, rfl⟩) | (go_at_call 152; go_fit (B _); rintro e w' ⟨rfl, rfl⟩) | fail)
        refine bodyPost_ret (v := .tuple #[rtokV 1 (s.extract i k) 0, .int .i64 k, .int .i64 0]) (by rw [results_cell3 rfl]; go_simp; (try rfl)) rfl ?_
        refine And.intro rfl ?_
        repeat' (first | with_reducible exact hb1 | with_reducible refine Below.setCell ?_ ?_ _ | exact Nat.le_refl _)
      · have he := tw_in (l := bl s) (p := wordB) (k := k) hlt hp
        have HE := Lib.hid he
        have W := fun w => rword_any s[k] w
        rw [hp] at W
        clear he hp
        go_wp2_with (first | (go_at_call 153; go_fit (W _); rintro e w' ⟨rfl, rfl⟩) | fail)
        go_round
        case rel => exact ⟨k + 1, by omega, by omega, by go_num, by have := HK.out; rw [HE.out] at this; omega⟩
        case measure => simp [intOf]; omega
    · have he := tw_end (l := bl s) (p := wordB) (k := k) (show s.size ≤ k by omega)
      have hkT := HK.out
      rw [he] at hkT
      obtain rfl : k = T := by omega
      clear he HK HT hkT
      go_wp2_with (first | (go_at_call 152; go_fit (B _); rintro e w' ⟨rfl, rfl⟩) | fail)
      refine bodyPost_ret (v := .tuple #[rtokV 1 (s.extract i k) 0, .int .i64 k, .int .i64 0]) (by rw [results_cell3 rfl]; go_simp; (try rfl)) rfl ?_
      refine And.intro rfl ?_
      repeat' (first | with_reducible exact hb1 | with_reducible refine Below.setCell ?_ ?_ _ | exact Nat.le_refl _)
set_option maxHeartbeats 1000000 in
theorem rone_long (s : ByteArray) (i : Nat) (w : World) (hi : i < s.size) (hs : s.size ≤ 140737488351232) (hsm : smallB s[i] = true) (hg : greatB s[i] = false) {T : Nat} (hT : i + twK wordB (bl s) i = T) (h64 : 64 < (T : Int) - i) :
    Calls Tryz.prog 114 #[.string s, .int .i64 i] w fun e w' => e = roneV 0 ⟨#[]⟩ 0 0 3 ∧ Below w.heap.size w w' := by
  have hTs : T ≤ s.size := by rw [← hT]; exact tw_max wordB (bl s) i (Nat.le_of_lt hi)
  have hiT : i ≤ T := by omega
  have HT := Lib.hid hT
  obtain ⟨c, hc⟩ : ∃ c, s[i] = c := ⟨_, rfl⟩
  have hc' : ∀ h, s[i]'h = c := fun _ => hc
  rw [hc] at hsm hg
  have A := fun w => rsmall_any c w
  have B := fun w => rgreat_any c w
  rw [hsm] at A
  rw [hg] at B
  clear hsm hg hT hc
  obtain ⟨w1, hw1, hb1, hz1, hx1⟩ := box_new w #[.int .i64 0, .string ⟨#[]⟩, .int .i64 0, .bool false, .int .i64 0] 138
  obtain ⟨r0, r1, r2, r3, r4, rf⟩ := hx1.five
  go_enter Tryz.func114, Tryz.ntmps114
  go_wp2_with fail
  (try rw [hw1])
  clear hw1 hz1 hx1
  go_wp2_with (first | (go_at_call 151; go_fit (A _); rintro e w' ⟨rfl, rfl⟩) | (go_at_call 152; go_fit (B _); rintro e w' ⟨rfl, rfl⟩) | fail)
  go_loop [8] (fun v => ∃ k : Nat, i ≤ k ∧ k ≤ s.size ∧ v = .int .i64 k ∧ k + twK wordB (bl s) k = T) (fun v => s.size - (intOf v).toNat)
  case atStart => exact ⟨i, Nat.le_refl _, by omega, rfl, HT.out⟩
  case round =>
    obtain ⟨k, hik, hk, rfl, hkT⟩ := hrel
    have HK := Lib.hid hkT
    clear hkT
    by_cases hlt : k < s.size
    · cases hp : wordB s[k]
      · have he := tw_out (l := bl s) (p := wordB) (k := k) hlt hp
        have W := fun w => rword_any s[k] w
        rw [hp] at W
        have hkT := HK.out
        rw [he] at hkT
        obtain rfl : k = T := by omega
        clear he hp HK HT hkT
        go_wp2_with (first | (go_at_call 153; go_fit (W _); rintro e w' ⟨rfl, rfl⟩) | (go_at_call 152; go_fit (B _); rintro e w' ⟨rfl, rfl⟩) | fail)
        refine bodyPost_ret (v := .tuple #[rtokV 0 ⟨#[]⟩ 0, .int .i64 0, .int .i64 3]) (by rw [results_cell3 rfl]; go_simp; (try rfl)) rfl ?_
        refine And.intro rfl ?_
        repeat' (first | with_reducible exact hb1 | with_reducible refine Below.setCell ?_ ?_ _ | exact Nat.le_refl _)
      · have he := tw_in (l := bl s) (p := wordB) (k := k) hlt hp
        have HE := Lib.hid he
        have W := fun w => rword_any s[k] w
        rw [hp] at W
        clear he hp
        go_wp2_with (first | (go_at_call 153; go_fit (W _); rintro e w' ⟨rfl, rfl⟩) | fail)
        go_round
        case rel => exact ⟨k + 1, by omega, by omega, by go_num, by have := HK.out; rw [HE.out] at this; omega⟩
        case measure => simp [intOf]; omega
    · have he := tw_end (l := bl s) (p := wordB) (k := k) (show s.size ≤ k by omega)
      have hkT := HK.out
      rw [he] at hkT
      obtain rfl : k = T := by omega
      clear he HK HT hkT
      go_wp2_with (first | (go_at_call 152; go_fit (B _); rintro e w' ⟨rfl, rfl⟩) | fail)
      refine bodyPost_ret (v := .tuple #[rtokV 0 ⟨#[]⟩ 0, .int .i64 0, .int .i64 3]) (by rw [results_cell3 rfl]; go_simp; (try rfl)) rfl ?_
      refine And.intro rfl ?_
      repeat' (first | with_reducible exact hb1 | with_reducible refine Below.setCell ?_ ?_ _ | exact Nat.le_refl _)
end Go.Proofs.YtljgkfdnmikpfaaGreatDoor
/- The document's own token (sizarref1.one): digits. -/
namespace Go.Proofs.YtljgkfdnmikpfaaGreatDoor
open Go.RowKit
set_option linter.unusedVariables false
set_option maxRecDepth 100000

set_option maxHeartbeats 1000000 in
theorem rone_digit (s : ByteArray) (i : Nat) (w : World) (hi : i < s.size) (hs : s.size ≤ 140737488351232) (hsm : smallB s[i] = false) (hg : greatB s[i] = false) (hd : digitB s[i] = true) {T : Nat} (hT : i + twK digitB (bl s) i = T) {x e : Int} (hx : numR (bl (s.extract i T)) = (x, e)) :
    Calls Tryz.prog 114 #[.string s, .int .i64 i] w fun q w' => q = roneV 4 ⟨#[]⟩ x T e ∧ Below w.heap.size w w' := by
  have hTs : T ≤ s.size := by rw [← hT]; exact tw_max digitB (bl s) i (Nat.le_of_lt hi)
  have hiT : i < T := by have := tw_in (l := bl s) (p := digitB) (k := i) hi hd; omega
  have hex : bl (s.extract i T) = ((bl s).drop i).take (T - i) := by
    have := take_ext s i (T - i)
    rw [show i + (T - i) = T by omega] at this
    rw [← this]
  have N := fun w => rnum_any (s.extract i T) w (by simp; omega) (by simp; omega) (by rw [hex, show T - i = ((bl s).drop i |>.takeWhile digitB).length by unfold twK at hT; omega]; exact tw_take digitB _)
  rw [hx] at N
  have HT := Lib.hid hT
  obtain ⟨c, hc⟩ : ∃ c, s[i] = c := ⟨_, rfl⟩
  have hc' : ∀ h, s[i]'h = c := fun _ => hc
  rw [hc] at hsm hg hd
  have A := fun w => rsmall_any c w
  have B := fun w => rgreat_any c w
  have G := fun w => rdigit_any c w
  rw [hsm] at A
  rw [hg] at B
  rw [hd] at G
  clear hsm hg hT hc hd hex hx
  obtain ⟨w1, hw1, hb1, hz1, hx1⟩ := box_new w #[.int .i64 0, .string ⟨#[]⟩, .int .i64 0, .bool false, .int .i64 0] 138
  obtain ⟨r0, r1, r2, r3, r4, rf⟩ := hx1.five
  go_enter Tryz.func114, Tryz.ntmps114
  go_wp2_with fail
  (try rw [hw1])
  clear hw1 hz1 hx1
  go_wp2_with (first | (go_at_call 151; go_fit (A _); rintro e w' ⟨rfl, rfl⟩) | (go_at_call 152; go_fit (B _); rintro e w' ⟨rfl, rfl⟩) | (go_at_call 154; go_fit (G _); rintro e w' ⟨rfl, rfl⟩) | fail)
  go_loop [8] (fun v => ∃ k : Nat, i ≤ k ∧ k ≤ s.size ∧ v = .int .i64 k ∧ k + twK digitB (bl s) k = T) (fun v => s.size - (intOf v).toNat)
  case atStart => exact ⟨i, Nat.le_refl _, by omega, rfl, HT.out⟩
  case round =>
    obtain ⟨k, hik, hk, rfl, hkT⟩ := hrel
    have HK := Lib.hid hkT
    clear hkT
    by_cases hlt : k < s.size
    · cases hp : digitB s[k]
      · have he := tw_out (l := bl s) (p := digitB) (k := k) hlt hp
        have DG := fun w => rdigit_any s[k] w
        rw [hp] at DG
        have hkT := HK.out
        rw [he] at hkT
        obtain rfl : k = T := by omega
        clear he hp HK HT hkT
        go_wp2_with (first | (go_at_call 154; go_fit (DG _); rintro e w' ⟨rfl, rfl⟩) | (go_at_call 155; go_fit (N _); rintro e w' ⟨rfl, rfl⟩) | fail)
        refine bodyPost_ret (v := .tuple #[rtokV 4 ⟨#[]⟩ x, .int .i64 k, .int .i64 e]) (by rw [results_cell3 rfl]; go_simp; (try rfl)) rfl ?_
        refine And.intro rfl ?_
        repeat' (first | with_reducible exact hb1 | with_reducible refine Below.setCell ?_ ?_ _ | exact Nat.le_refl _)
      · have he := tw_in (l := bl s) (p := digitB) (k := k) hlt hp
        have HE := Lib.hid he
        have DG := fun w => rdigit_any s[k] w
        rw [hp] at DG
        clear he hp
        go_wp2_with (first | (go_at_call 154; go_fit (DG _); rintro e w' ⟨rfl, rfl⟩) | fail)
        go_round
        case rel => exact ⟨k + 1, by omega, by omega, by go_num, by have := HK.out; rw [HE.out] at this; omega⟩
        case measure => simp [intOf]; omega
    · have he := tw_end (l := bl s) (p := digitB) (k := k) (show s.size ≤ k by omega)
      have hkT := HK.out
      rw [he] at hkT
      obtain rfl : k = T := by omega
      clear he HK HT hkT
      go_wp2_with (first | (go_at_call 155; go_fit (N _); rintro e w' ⟨rfl, rfl⟩) | fail)
      refine bodyPost_ret (v := .tuple #[rtokV 4 ⟨#[]⟩ x, .int .i64 k, .int .i64 e]) (by rw [results_cell3 rfl]; go_simp; (try rfl)) rfl ?_
      refine And.intro rfl ?_
      repeat' (first | with_reducible exact hb1 | with_reducible refine Below.setCell ?_ ?_ _ | exact Nat.le_refl _)
end Go.Proofs.YtljgkfdnmikpfaaGreatDoor
/- The document's own token (sizarref1.one): the end, marks, names of their own. -/
namespace Go.Proofs.YtljgkfdnmikpfaaGreatDoor
open Go.RowKit
set_option linter.unusedVariables false
set_option maxRecDepth 100000

set_option maxHeartbeats 1000000 in
theorem rone_end (s : ByteArray) (i : Nat) (w : World) (hi : i < s.size) (hs : s.size ≤ 140737488351232) (hc : s[i] = 46) (hE : endK (bl s) i = true) :
    Calls Tryz.prog 114 #[.string s, .int .i64 i] w fun e w' => e = roneV 6 ⟨#[]⟩ 0 (i + 1) 0 ∧ Below w.heap.size w w' := by
  have hc' : ∀ h, s[i]'h = 46 := fun _ => hc
  have A : ∀ w, Calls Tryz.prog 151 #[.int .u8 46] w fun e w' => e = .returned (.bool false) ∧ w = w' := fun w => rsmall_any 46 w
  have B : ∀ w, Calls Tryz.prog 152 #[.int .u8 46] w fun e w' => e = .returned (.bool false) ∧ w = w' := fun w => rgreat_any 46 w
  have G : ∀ w, Calls Tryz.prog 154 #[.int .u8 46] w fun e w' => e = .returned (.bool false) ∧ w = w' := fun w => rdigit_any 46 w
  have E : ∀ w, Calls Tryz.prog 157 #[.string s, .int .i64 i] w fun e w' => e = .returned (.bool true) ∧ w = w' := fun w => hE ▸ rends_any s i w (by omega) hs
  clear hc
  obtain ⟨w1, hw1, hb1, hz1, hx1⟩ := box_new w #[.int .i64 0, .string ⟨#[]⟩, .int .i64 0, .bool false, .int .i64 0] 138
  obtain ⟨r0, r1, r2, r3, r4, rf⟩ := hx1.five
  go_enter Tryz.func114, Tryz.ntmps114
  go_wp2_with fail
  (try rw [hw1])
  clear hw1 hz1 hx1
  go_wp2_with (first | (go_at_call 151; go_fit (A _); rintro e w' ⟨rfl, rfl⟩) | (go_at_call 152; go_fit (B _); rintro e w' ⟨rfl, rfl⟩) | (go_at_call 154; go_fit (G _); rintro e w' ⟨rfl, rfl⟩) | (go_at_call 157; go_fit (E _); rintro e w' ⟨rfl, rfl⟩) | fail)
  refine bodyPost_ret (v := .tuple #[rtokV 6 ⟨#[]⟩ 0, .int .i64 (i + 1), .int .i64 0]) (by rw [results_cell3 rfl]; go_simp; (try rfl)) rfl ?_
  refine And.intro rfl ?_
  repeat' (first | with_reducible exact hb1 | with_reducible refine Below.setCell ?_ ?_ _ | exact Nat.le_refl _)
set_option maxHeartbeats 1000000 in
theorem rone_59 (s : ByteArray) (i : Nat) (w : World) (hi : i < s.size) (hs : s.size ≤ 140737488351232) (hc : s[i] = 59) :
    Calls Tryz.prog 114 #[.string s, .int .i64 i] w fun e w' => e = roneV 1 (s.extract i (i + 1)) 0 (i + 1) 0 ∧ Below w.heap.size w w' := by
  have hc' : ∀ h, s[i]'h = 59 := fun _ => hc
  have A : ∀ w, Calls Tryz.prog 151 #[.int .u8 59] w fun e w' => e = .returned (.bool false) ∧ w = w' := fun w => rsmall_any 59 w
  have B : ∀ w, Calls Tryz.prog 152 #[.int .u8 59] w fun e w' => e = .returned (.bool false) ∧ w = w' := fun w => rgreat_any 59 w
  have G : ∀ w, Calls Tryz.prog 154 #[.int .u8 59] w fun e w' => e = .returned (.bool false) ∧ w = w' := fun w => rdigit_any 59 w
  have E : ∀ w, Calls Tryz.prog 157 #[.string s, .int .i64 i] w fun e w' => e = .returned (.bool false) ∧ w = w' := fun w => (show endK (bl s) i = false from by rw [endK_at (l := bl s) hi, bl_get s i hi, hc]; rfl) ▸ rends_any s i w (by omega) hs
  clear hc
  obtain ⟨w1, hw1, hb1, hz1, hx1⟩ := box_new w #[.int .i64 0, .string ⟨#[]⟩, .int .i64 0, .bool false, .int .i64 0] 138
  obtain ⟨r0, r1, r2, r3, r4, rf⟩ := hx1.five
  go_enter Tryz.func114, Tryz.ntmps114
  go_wp2_with fail
  (try rw [hw1])
  clear hw1 hz1 hx1
  go_wp2_with (first | (go_at_call 151; go_fit (A _); rintro e w' ⟨rfl, rfl⟩) | (go_at_call 152; go_fit (B _); rintro e w' ⟨rfl, rfl⟩) | (go_at_call 154; go_fit (G _); rintro e w' ⟨rfl, rfl⟩) | (go_at_call 157; go_fit (E _); rintro e w' ⟨rfl, rfl⟩) | fail)
  refine bodyPost_ret (v := .tuple #[rtokV 1 (s.extract i (i + 1)) 0, .int .i64 (i + 1), .int .i64 0]) (by rw [results_cell3 rfl]; go_simp; (try rfl)) rfl ?_
  refine And.intro rfl ?_
  repeat' (first | with_reducible exact hb1 | with_reducible refine Below.setCell ?_ ?_ _ | exact Nat.le_refl _)
set_option maxHeartbeats 1000000 in
theorem rone_33 (s : ByteArray) (i : Nat) (w : World) (hi : i < s.size) (hs : s.size ≤ 140737488351232) (hc : s[i] = 33) :
    Calls Tryz.prog 114 #[.string s, .int .i64 i] w fun e w' => e = roneV 1 (s.extract i (i + 1)) 0 (i + 1) 0 ∧ Below w.heap.size w w' := by
  have hc' : ∀ h, s[i]'h = 33 := fun _ => hc
  have A : ∀ w, Calls Tryz.prog 151 #[.int .u8 33] w fun e w' => e = .returned (.bool false) ∧ w = w' := fun w => rsmall_any 33 w
  have B : ∀ w, Calls Tryz.prog 152 #[.int .u8 33] w fun e w' => e = .returned (.bool false) ∧ w = w' := fun w => rgreat_any 33 w
  have G : ∀ w, Calls Tryz.prog 154 #[.int .u8 33] w fun e w' => e = .returned (.bool false) ∧ w = w' := fun w => rdigit_any 33 w
  have E : ∀ w, Calls Tryz.prog 157 #[.string s, .int .i64 i] w fun e w' => e = .returned (.bool false) ∧ w = w' := fun w => (show endK (bl s) i = false from by rw [endK_at (l := bl s) hi, bl_get s i hi, hc]; rfl) ▸ rends_any s i w (by omega) hs
  clear hc
  obtain ⟨w1, hw1, hb1, hz1, hx1⟩ := box_new w #[.int .i64 0, .string ⟨#[]⟩, .int .i64 0, .bool false, .int .i64 0] 138
  obtain ⟨r0, r1, r2, r3, r4, rf⟩ := hx1.five
  go_enter Tryz.func114, Tryz.ntmps114
  go_wp2_with fail
  (try rw [hw1])
  clear hw1 hz1 hx1
  go_wp2_with (first | (go_at_call 151; go_fit (A _); rintro e w' ⟨rfl, rfl⟩) | (go_at_call 152; go_fit (B _); rintro e w' ⟨rfl, rfl⟩) | (go_at_call 154; go_fit (G _); rintro e w' ⟨rfl, rfl⟩) | (go_at_call 157; go_fit (E _); rintro e w' ⟨rfl, rfl⟩) | fail)
  refine bodyPost_ret (v := .tuple #[rtokV 1 (s.extract i (i + 1)) 0, .int .i64 (i + 1), .int .i64 0]) (by rw [results_cell3 rfl]; go_simp; (try rfl)) rfl ?_
  refine And.intro rfl ?_
  repeat' (first | with_reducible exact hb1 | with_reducible refine Below.setCell ?_ ?_ _ | exact Nat.le_refl _)
set_option maxHeartbeats 1000000 in
theorem rone_91_pair (s : ByteArray) (i : Nat) (w : World) (hi : i < s.size) (hs : s.size ≤ 140737488351232) (hc : s[i] = 91) (h2 : i + 1 < s.size) (hd : s[i + 1] = 93) :
    Calls Tryz.prog 114 #[.string s, .int .i64 i] w fun e w' => e = roneV 1 (s.extract i (i + 2)) 0 (i + 2) 0 ∧ Below w.heap.size w w' := by
  have hc' : ∀ h, s[i]'h = 91 := fun _ => hc
  have A : ∀ w, Calls Tryz.prog 151 #[.int .u8 91] w fun e w' => e = .returned (.bool false) ∧ w = w' := fun w => rsmall_any 91 w
  have B : ∀ w, Calls Tryz.prog 152 #[.int .u8 91] w fun e w' => e = .returned (.bool false) ∧ w = w' := fun w => rgreat_any 91 w
  have G : ∀ w, Calls Tryz.prog 154 #[.int .u8 91] w fun e w' => e = .returned (.bool false) ∧ w = w' := fun w => rdigit_any 91 w
  have E : ∀ w, Calls Tryz.prog 157 #[.string s, .int .i64 i] w fun e w' => e = .returned (.bool false) ∧ w = w' := fun w => (show endK (bl s) i = false from by rw [endK_at (l := bl s) hi, bl_get s i hi, hc]; rfl) ▸ rends_any s i w (by omega) hs
  have hd' : ∀ h, s[i + 1]'h = 93 := fun _ => hd
  clear hd
  clear hc
  obtain ⟨w1, hw1, hb1, hz1, hx1⟩ := box_new w #[.int .i64 0, .string ⟨#[]⟩, .int .i64 0, .bool false, .int .i64 0] 138
  obtain ⟨r0, r1, r2, r3, r4, rf⟩ := hx1.five
  go_enter Tryz.func114, Tryz.ntmps114
  go_wp2_with fail
  (try rw [hw1])
  clear hw1 hz1 hx1
  go_wp2_with (first | (go_at_call 151; go_fit (A _); rintro e w' ⟨rfl, rfl⟩) | (go_at_call 152; go_fit (B _); rintro e w' ⟨rfl, rfl⟩) | (go_at_call 154; go_fit (G _); rintro e w' ⟨rfl, rfl⟩) | (go_at_call 157; go_fit (E _); rintro e w' ⟨rfl, rfl⟩) | fail)
  refine bodyPost_ret (v := .tuple #[rtokV 1 (s.extract i (i + 2)) 0, .int .i64 (i + 2), .int .i64 0]) (by rw [results_cell3 rfl]; go_simp; (try rfl)) rfl ?_
  refine And.intro rfl ?_
  repeat' (first | with_reducible exact hb1 | with_reducible refine Below.setCell ?_ ?_ _ | exact Nat.le_refl _)
set_option maxHeartbeats 1000000 in
theorem rone_123_pair (s : ByteArray) (i : Nat) (w : World) (hi : i < s.size) (hs : s.size ≤ 140737488351232) (hc : s[i] = 123) (h2 : i + 1 < s.size) (hd : s[i + 1] = 125) :
    Calls Tryz.prog 114 #[.string s, .int .i64 i] w fun e w' => e = roneV 1 (s.extract i (i + 2)) 0 (i + 2) 0 ∧ Below w.heap.size w w' := by
  have hc' : ∀ h, s[i]'h = 123 := fun _ => hc
  have A : ∀ w, Calls Tryz.prog 151 #[.int .u8 123] w fun e w' => e = .returned (.bool false) ∧ w = w' := fun w => rsmall_any 123 w
  have B : ∀ w, Calls Tryz.prog 152 #[.int .u8 123] w fun e w' => e = .returned (.bool false) ∧ w = w' := fun w => rgreat_any 123 w
  have G : ∀ w, Calls Tryz.prog 154 #[.int .u8 123] w fun e w' => e = .returned (.bool false) ∧ w = w' := fun w => rdigit_any 123 w
  have E : ∀ w, Calls Tryz.prog 157 #[.string s, .int .i64 i] w fun e w' => e = .returned (.bool false) ∧ w = w' := fun w => (show endK (bl s) i = false from by rw [endK_at (l := bl s) hi, bl_get s i hi, hc]; rfl) ▸ rends_any s i w (by omega) hs
  have hd' : ∀ h, s[i + 1]'h = 125 := fun _ => hd
  clear hd
  clear hc
  obtain ⟨w1, hw1, hb1, hz1, hx1⟩ := box_new w #[.int .i64 0, .string ⟨#[]⟩, .int .i64 0, .bool false, .int .i64 0] 138
  obtain ⟨r0, r1, r2, r3, r4, rf⟩ := hx1.five
  go_enter Tryz.func114, Tryz.ntmps114
  go_wp2_with fail
  (try rw [hw1])
  clear hw1 hz1 hx1
  go_wp2_with (first | (go_at_call 151; go_fit (A _); rintro e w' ⟨rfl, rfl⟩) | (go_at_call 152; go_fit (B _); rintro e w' ⟨rfl, rfl⟩) | (go_at_call 154; go_fit (G _); rintro e w' ⟨rfl, rfl⟩) | (go_at_call 157; go_fit (E _); rintro e w' ⟨rfl, rfl⟩) | fail)
  refine bodyPost_ret (v := .tuple #[rtokV 1 (s.extract i (i + 2)) 0, .int .i64 (i + 2), .int .i64 0]) (by rw [results_cell3 rfl]; go_simp; (try rfl)) rfl ?_
  refine And.intro rfl ?_
  repeat' (first | with_reducible exact hb1 | with_reducible refine Below.setCell ?_ ?_ _ | exact Nat.le_refl _)
end Go.Proofs.YtljgkfdnmikpfaaGreatDoor
