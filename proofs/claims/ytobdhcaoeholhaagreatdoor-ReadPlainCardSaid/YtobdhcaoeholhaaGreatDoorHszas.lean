import Derived.Test.YtobdhcaoeholhaaGreatDoorHszar
set_option linter.unusedVariables false
set_option linter.unusedSimpArgs false
/- The document's own token (sizarref1.one): digits. -/
namespace Go.Proofs.YtobdhcaoeholhaaGreatDoor
open Go.RowKit
set_option linter.unusedVariables false
set_option maxRecDepth 100000

set_option maxHeartbeats 1000000 in
theorem rone_digit (s : ByteArray) (i : Nat) (w : World) (hi : i < s.size) (hs : s.size ≤ 140737488351232) (hsm : smallB s[i] = false) (hg : greatB s[i] = false) (hd : digitB s[i] = true) {T : Nat} (hT : i + twK digitB (bl s) i = T) {x e : Int} (hx : numR (bl (s.extract i T)) = (x, e)) :
    Calls Tryz.prog 114 #[.string s, .int .i64 i] w fun q w' => q = roneV 4 ⟨#[]⟩ x T e ∧ Below w.heap.size w w' := by
  have hTs : T ≤ s.size := by rw [← hT]; exact tw_max digitB (bl s) i (Nat.le_of_lt hi)
  have hiT : i < T := by have := tw_in (l := bl s) (p := digitB) (k := i) hi hd; omega
  have hex : bl (s.extract i T) = ((bl s).drop i).take (T - i) := by
    have := take_ext s i (T - i)
    rw [show i + (T - i) = T by omega] at this
    rw [← this]
  have N := fun w => rnum_any (s.extract i T) w (by simp; omega) (by simp; omega) (by rw [hex, show T - i = ((bl s).drop i |>.takeWhile digitB).length by unfold twK at hT; omega]; exact tw_take digitB _)
  rw [hx] at N
  have HT := Lib.hid hT
  obtain ⟨c, hc⟩ : ∃ c, s[i] = c := ⟨_, rfl⟩
  have hc' : ∀ h, s[i]'h = c := fun _ => hc
  rw [hc] at hsm hg hd
  have A := fun w => rsmall_any c w
  have B := fun w => rgreat_any c w
  have G := fun w => rdigit_any c w
  rw [hsm] at A
  rw [hg] at B
  rw [hd] at G
  clear hsm hg hT hc hd hex hx
  obtain ⟨w1, hw1, hb1, hz1, hx1⟩ := box_new w #[.int .i64 0, .string ⟨#[]⟩, .int .i64 0, .bool false, .int .i64 0] 138
  obtain ⟨r0, r1, r2, r3, r4, rf⟩ := hx1.five
  go_enter Tryz.func114, Tryz.ntmps114
  go_wp2_with fail
  (try rw [hw1])
  clear hw1 hz1 hx1
  go_wp2_with (first | (go_at_call 151; go_fit (A _); rintro e w' ⟨rfl, rfl⟩) | (go_at_call 152; go_fit (B _); rintro e w' ⟨rfl, rfl⟩) | (go_at_call 154; go_fit (G _); rintro e w' ⟨rfl, rfl⟩) | fail)
  go_loop [8] (fun v => ∃ k : Nat, i ≤ k ∧ k ≤ s.size ∧ v = .int .i64 k ∧ k + twK digitB (bl s) k = T) (fun v => s.size - (intOf v).toNat)
  case atStart => exact ⟨i, Nat.le_refl _, by omega, rfl, HT.out⟩
  case round =>
    obtain ⟨k, hik, hk, rfl, hkT⟩ := hrel
    have HK := Lib.hid hkT
    clear hkT
    by_cases hlt : k < s.size
    · cases hp : digitB s[k]
      · have he := tw_out (l := bl s) (p := digitB) (k := k) hlt hp
        have DG := fun w => rdigit_any s[k] w
        rw [hp] at DG
        have hkT := HK.out
        rw [he] at hkT
        obtain rfl : k = T := by omega
        clear he hp HK HT hkT
        go_wp2_with (first | (go_at_call 154; go_fit (DG _); rintro e w' ⟨rfl, rfl⟩) | (go_at_call 155; go_fit (N _); rintro e w' ⟨rfl, rfl⟩) | fail)
        refine bodyPost_ret (v := .tuple #[rtokV 4 ⟨#[]⟩ x, .int .i64 k, .int .i64 e]) (by rw [results_cell3 rfl]; go_simp; (try rfl)) rfl ?_
        refine And.intro rfl ?_
        repeat' (first | with_reducible exact hb1 | with_reducible refine Below.setCell ?_ ?_ _ | exact Nat.le_refl _)
      · have he := tw_in (l := bl s) (p := digitB) (k := k) hlt hp
        have HE := Lib.hid he
        have DG := fun w => rdigit_any s[k] w
        rw [hp] at DG
        clear he hp
        go_wp2_with (first | (go_at_call 154; go_fit (DG _); rintro e w' ⟨rfl, rfl⟩) | fail)
        go_round
        case rel => exact ⟨k + 1, by omega, by omega, by go_num, by have := HK.out; rw [HE.out] at this; omega⟩
        case measure => simp [intOf]; omega
    · have he := tw_end (l := bl s) (p := digitB) (k := k) (show s.size ≤ k by omega)
      have hkT := HK.out
      rw [he] at hkT
      obtain rfl : k = T := by omega
      clear he HK HT hkT
      go_wp2_with (first | (go_at_call 155; go_fit (N _); rintro e w' ⟨rfl, rfl⟩) | fail)
      refine bodyPost_ret (v := .tuple #[rtokV 4 ⟨#[]⟩ x, .int .i64 k, .int .i64 e]) (by rw [results_cell3 rfl]; go_simp; (try rfl)) rfl ?_
      refine And.intro rfl ?_
      repeat' (first | with_reducible exact hb1 | with_reducible refine Below.setCell ?_ ?_ _ | exact Nat.le_refl _)
end Go.Proofs.YtobdhcaoeholhaaGreatDoor
/- The document's own token (sizarref1.one): the end, marks, names of their own. -/
namespace Go.Proofs.YtobdhcaoeholhaaGreatDoor
open Go.RowKit
set_option linter.unusedVariables false
set_option maxRecDepth 100000

set_option maxHeartbeats 1000000 in
theorem rone_end (s : ByteArray) (i : Nat) (w : World) (hi : i < s.size) (hs : s.size ≤ 140737488351232) (hc : s[i] = 46) (hE : endK (bl s) i = true) :
    Calls Tryz.prog 114 #[.string s, .int .i64 i] w fun e w' => e = roneV 6 ⟨#[]⟩ 0 (i + 1) 0 ∧ Below w.heap.size w w' := by
  have hc' : ∀ h, s[i]'h = 46 := fun _ => hc
  have A : ∀ w, Calls Tryz.prog 151 #[.int .u8 46] w fun e w' => e = .returned (.bool false) ∧ w = w' := fun w => rsmall_any 46 w
  have B : ∀ w, Calls Tryz.prog 152 #[.int .u8 46] w fun e w' => e = .returned (.bool false) ∧ w = w' := fun w => rgreat_any 46 w
  have G : ∀ w, Calls Tryz.prog 154 #[.int .u8 46] w fun e w' => e = .returned (.bool false) ∧ w = w' := fun w => rdigit_any 46 w
  have E : ∀ w, Calls Tryz.prog 157 #[.string s, .int .i64 i] w fun e w' => e = .returned (.bool true) ∧ w = w' := fun w => hE ▸ rends_any s i w (by omega) hs
  clear hc
  obtain ⟨w1, hw1, hb1, hz1, hx1⟩ := box_new w #[.int .i64 0, .string ⟨#[]⟩, .int .i64 0, .bool false, .int .i64 0] 138
  obtain ⟨r0, r1, r2, r3, r4, rf⟩ := hx1.five
  go_enter Tryz.func114, Tryz.ntmps114
  go_wp2_with fail
  (try rw [hw1])
  clear hw1 hz1 hx1
  go_wp2_with (first | (go_at_call 151; go_fit (A _); rintro e w' ⟨rfl, rfl⟩) | (go_at_call 152; go_fit (B _); rintro e w' ⟨rfl, rfl⟩) | (go_at_call 154; go_fit (G _); rintro e w' ⟨rfl, rfl⟩) | (go_at_call 157; go_fit (E _); rintro e w' ⟨rfl, rfl⟩) | fail)
  refine bodyPost_ret (v := .tuple #[rtokV 6 ⟨#[]⟩ 0, .int .i64 (i + 1), .int .i64 0]) (by rw [results_cell3 rfl]; go_simp; (try rfl)) rfl ?_
  refine And.intro rfl ?_
  repeat' (first | with_reducible exact hb1 | with_reducible refine Below.setCell ?_ ?_ _ | exact Nat.le_refl _)
set_option maxHeartbeats 1000000 in
theorem rone_59 (s : ByteArray) (i : Nat) (w : World) (hi : i < s.size) (hs : s.size ≤ 140737488351232) (hc : s[i] = 59) :
    Calls Tryz.prog 114 #[.string s, .int .i64 i] w fun e w' => e = roneV 1 (s.extract i (i + 1)) 0 (i + 1) 0 ∧ Below w.heap.size w w' := by
  have hc' : ∀ h, s[i]'h = 59 := fun _ => hc
  have A : ∀ w, Calls Tryz.prog 151 #[.int .u8 59] w fun e w' => e = .returned (.bool false) ∧ w = w' := fun w => rsmall_any 59 w
  have B : ∀ w, Calls Tryz.prog 152 #[.int .u8 59] w fun e w' => e = .returned (.bool false) ∧ w = w' := fun w => rgreat_any 59 w
  have G : ∀ w, Calls Tryz.prog 154 #[.int .u8 59] w fun e w' => e = .returned (.bool false) ∧ w = w' := fun w => rdigit_any 59 w
  have E : ∀ w, Calls Tryz.prog 157 #[.string s, .int .i64 i] w fun e w' => e = .returned (.bool false) ∧ w = w' := fun w => (show endK (bl s) i = false from by rw [endK_at (l := bl s) hi, bl_get s i hi, hc]; rfl) ▸ rends_any s i w (by omega) hs
  clear hc
  obtain ⟨w1, hw1, hb1, hz1, hx1⟩ := box_new w #[.int .i64 0, .string ⟨#[]⟩, .int .i64 0, .bool false, .int .i64 0] 138
  obtain ⟨r0, r1, r2, r3, r4, rf⟩ := hx1.five
  go_enter Tryz.func114, Tryz.ntmps114
  go_wp2_with fail
  (try rw [hw1])
  clear hw1 hz1 hx1
  go_wp2_with (first | (go_at_call 151; go_fit (A _); rintro e w' ⟨rfl, rfl⟩) | (go_at_call 152; go_fit (B _); rintro e w' ⟨rfl, rfl⟩) | (go_at_call 154; go_fit (G _); rintro e w' ⟨rfl, rfl⟩) | (go_at_call 157; go_fit (E _); rintro e w' ⟨rfl, rfl⟩) | fail)
  refine bodyPost_ret (v := .tuple #[rtokV 1 (s.extract i (i + 1)) 0, .int .i64 (i + 1), .int .i64 0]) (by rw [results_cell3 rfl]; go_simp; (try rfl)) rfl ?_
  refine And.intro rfl ?_
  repeat' (first | with_reducible exact hb1 | with_reducible refine Below.setCell ?_ ?_ _ | exact Nat.le_refl _)
set_option maxHeartbeats 1000000 in
theorem rone_33 (s : ByteArray) (i : Nat) (w : World) (hi : i < s.size) (hs : s.size ≤ 140737488351232) (hc : s[i] = 33) :
    Calls Tryz.prog 114 #[.string s, .int .i64 i] w fun e w' => e = roneV 1 (s.extract i (i + 1)) 0 (i + 1) 0 ∧ Below w.heap.size w w' := by
  have hc' : ∀ h, s[i]'h = 33 := fun _ => hc
  have A : ∀ w, Calls Tryz.prog 151 #[.int .u8 33] w fun e w' => e = .returned (.bool false) ∧ w = w' := fun w => rsmall_any 33 w
  have B : ∀ w, Calls Tryz.prog 152 #[.int .u8 33] w fun e w' => e = .returned (.bool false) ∧ w = w' := fun w => rgreat_any 33 w
  have G : ∀ w, Calls Tryz.prog 154 #[.int .u8 33] w fun e w' => e = .returned (.bool false) ∧ w = w' := fun w => rdigit_any 33 w
  have E : ∀ w, Calls Tryz.prog 157 #[.string s, .int .i64 i] w fun e w' => e = .returned (.bool false) ∧ w = w' := fun w => (show endK (bl s) i = false from by rw [endK_at (l := bl s) hi, bl_get s i hi, hc]; rfl) ▸ rends_any s i w (by omega) hs
  clear hc
  obtain ⟨w1, hw1, hb1, hz1, hx1⟩ := box_new w #[.int .i64 0, .string ⟨#[]⟩, .int .i64 0, .bool false, .int .i64 0] 138
  obtain ⟨r0, r1, r2, r3, r4, rf⟩ := hx1.five
  go_enter Tryz.func114, Tryz.ntmps114
  go_wp2_with fail
  (try rw [hw1])
  clear hw1 hz1 hx1
  go_wp2_with (first | (go_at_call 151; go_fit (A _); rintro e w' ⟨rfl, rfl⟩) | (go_at_call 152; go_fit (B _); rintro e w' ⟨rfl, rfl⟩) | (go_at_call 154; go_fit (G _); rintro e w' ⟨rfl, rfl⟩) | (go_at_call 157; go_fit (E _); rintro e w' ⟨rfl, rfl⟩) | fail)
  refine bodyPost_ret (v := .tuple #[rtokV 1 (s.extract i (i + 1)) 0, .int .i64 (i + 1), .int .i64 0]) (by rw [results_cell3 rfl]; go_simp; (try rfl)) rfl ?_
  refine And.intro rfl ?_
  repeat' (first | with_reducible exact hb1 | with_reducible refine Below.setCell ?_ ?_ _ | exact Nat.le_refl _)
set_option maxHeartbeats 1000000 in
theorem rone_91_pair (s : ByteArray) (i : Nat) (w : World) (hi : i < s.size) (hs : s.size ≤ 140737488351232) (hc : s[i] = 91) (h2 : i + 1 < s.size) (hd : s[i + 1] = 93) :
    Calls Tryz.prog 114 #[.string s, .int .i64 i] w fun e w' => e = roneV 1 (s.extract i (i + 2)) 0 (i + 2) 0 ∧ Below w.heap.size w w' := by
  have hc' : ∀ h, s[i]'h = 91 := fun _ => hc
  have A : ∀ w, Calls Tryz.prog 151 #[.int .u8 91] w fun e w' => e = .returned (.bool false) ∧ w = w' := fun w => rsmall_any 91 w
  have B : ∀ w, Calls Tryz.prog 152 #[.int .u8 91] w fun e w' => e = .returned (.bool false) ∧ w = w' := fun w => rgreat_any 91 w
  have G : ∀ w, Calls Tryz.prog 154 #[.int .u8 91] w fun e w' => e = .returned (.bool false) ∧ w = w' := fun w => rdigit_any 91 w
  have E : ∀ w, Calls Tryz.prog 157 #[.string s, .int .i64 i] w fun e w' => e = .returned (.bool false) ∧ w = w' := fun w => (show endK (bl s) i = false from by rw [endK_at (l := bl s) hi, bl_get s i hi, hc]; rfl) ▸ rends_any s i w (by omega) hs
  have hd' : ∀ h, s[i + 1]'h = 93 := fun _ => hd
  clear hd
  clear hc
  obtain ⟨w1, hw1, hb1, hz1, hx1⟩ := box_new w #[.int .i64 0, .string ⟨#[]⟩, .int .i64 0, .bool false, .int .i64 0] 138
  obtain ⟨r0, r1, r2, r3, r4, rf⟩ := hx1.five
  go_enter Tryz.func114, Tryz.ntmps114
  go_wp2_with fail
  (try rw [hw1])
  clear hw1 hz1 hx1
  go_wp2_with (first | (go_at_call 151; go_fit (A _); rintro e w' ⟨rfl, rfl⟩) | (go_at_call 152; go_fit (B _); rintro e w' ⟨rfl, rfl⟩) | (go_at_call 154; go_fit (G _); rintro e w' ⟨rfl, rfl⟩) | (go_at_call 157; go_fit (E _); rintro e w' ⟨rfl, rfl⟩) | fail)
  refine bodyPost_ret (v := .tuple #[rtokV 1 (s.extract i (i + 2)) 0, .int .i64 (i + 2), .int .i64 0]) (by rw [results_cell3 rfl]; go_simp; (try rfl)) rfl ?_
  refine And.intro rfl ?_
  repeat' (first | with_reducible exact hb1 | with_reducible refine Below.setCell ?_ ?_ _ | exact Nat.le_refl _)
set_option maxHeartbeats 1000000 in
theorem rone_123_pair (s : ByteArray) (i : Nat) (w : World) (hi : i < s.size) (hs : s.size ≤ 140737488351232) (hc : s[i] = 123) (h2 : i + 1 < s.size) (hd : s[i + 1] = 125) :
    Calls Tryz.prog 114 #[.string s, .int .i64 i] w fun e w' => e = roneV 1 (s.extract i (i + 2)) 0 (i + 2) 0 ∧ Below w.heap.size w w' := by
  have hc' : ∀ h, s[i]'h = 123 := fun _ => hc
  have A : ∀ w, Calls Tryz.prog 151 #[.int .u8 123] w fun e w' => e = .returned (.bool false) ∧ w = w' := fun w => rsmall_any 123 w
  have B : ∀ w, Calls Tryz.prog 152 #[.int .u8 123] w fun e w' => e = .returned (.bool false) ∧ w = w' := fun w => rgreat_any 123 w
  have G : ∀ w, Calls Tryz.prog 154 #[.int .u8 123] w fun e w' => e = .returned (.bool false) ∧ w = w' := fun w => rdigit_any 123 w
  have E : ∀ w, Calls Tryz.prog 157 #[.string s, .int .i64 i] w fun e w' => e = .returned (.bool false) ∧ w = w' := fun w => (show endK (bl s) i = false from by rw [endK_at (l := bl s) hi, bl_get s i hi, hc]; rfl) ▸ rends_any s i w (by omega) hs
  have hd' : ∀ h, s[i + 1]'h = 125 := fun _ => hd
  clear hd
  clear hc
  obtain ⟨w1, hw1, hb1, hz1, hx1⟩ := box_new w #[.int .i64 0, .string ⟨#[]⟩, .int .i64 0, .bool false, .int .i64 0] 138
  obtain ⟨r0, r1, r2, r3, r4, rf⟩ := hx1.five
  go_enter Tryz.func114, Tryz.ntmps114
  go_wp2_with fail
  (try rw [hw1])
  clear hw1 hz1 hx1
  go_wp2_with (first | (go_at_call 151; go_fit (A _); rintro e w' ⟨rfl, rfl⟩) | (go_at_call 152; go_fit (B _); rintro e w' ⟨rfl, rfl⟩) | (go_at_call 154; go_fit (G _); rintro e w' ⟨rfl, rfl⟩) | (go_at_call 157; go_fit (E _); rintro e w' ⟨rfl, rfl⟩) | fail)
  refine bodyPost_ret (v := .tuple #[rtokV 1 (s.extract i (i + 2)) 0, .int .i64 (i + 2), .int .i64 0]) (by rw [results_cell3 rfl]; go_simp; (try rfl)) rfl ?_
  refine And.intro rfl ?_
  repeat' (first | with_reducible exact hb1 | with_reducible refine Below.setCell ?_ ?_ _ | exact Nat.le_refl _)
end Go.Proofs.YtobdhcaoeholhaaGreatDoor
/- The document's own token (sizarref1.one): marks. -/
namespace Go.Proofs.YtobdhcaoeholhaaGreatDoor
open Go.RowKit
set_option linter.unusedVariables false
set_option maxRecDepth 100000

set_option maxHeartbeats 1000000 in
theorem rone_40 (s : ByteArray) (i : Nat) (w : World) (hi : i < s.size) (hs : s.size ≤ 140737488351232) (hc : s[i] = 40) :
    Calls Tryz.prog 114 #[.string s, .int .i64 i] w fun e w' => e = roneV 5 (s.extract i (i + 1)) 0 (i + 1) 0 ∧ Below w.heap.size w w' := by
  have hc' : ∀ h, s[i]'h = 40 := fun _ => hc
  have A : ∀ w, Calls Tryz.prog 151 #[.int .u8 40] w fun e w' => e = .returned (.bool false) ∧ w = w' := fun w => rsmall_any 40 w
  have B : ∀ w, Calls Tryz.prog 152 #[.int .u8 40] w fun e w' => e = .returned (.bool false) ∧ w = w' := fun w => rgreat_any 40 w
  have G : ∀ w, Calls Tryz.prog 154 #[.int .u8 40] w fun e w' => e = .returned (.bool false) ∧ w = w' := fun w => rdigit_any 40 w
  have E : ∀ w, Calls Tryz.prog 157 #[.string s, .int .i64 i] w fun e w' => e = .returned (.bool false) ∧ w = w' := fun w => (show endK (bl s) i = false from by rw [endK_at (l := bl s) hi, bl_get s i hi, hc]; rfl) ▸ rends_any s i w (by omega) hs
  clear hc
  obtain ⟨w1, hw1, hb1, hz1, hx1⟩ := box_new w #[.int .i64 0, .string ⟨#[]⟩, .int .i64 0, .bool false, .int .i64 0] 138
  obtain ⟨r0, r1, r2, r3, r4, rf⟩ := hx1.five
  go_enter Tryz.func114, Tryz.ntmps114
  go_wp2_with fail
  (try rw [hw1])
  clear hw1 hz1 hx1
  go_wp2_with (first | (go_at_call 151; go_fit (A _); rintro e w' ⟨rfl, rfl⟩) | (go_at_call 152; go_fit (B _); rintro e w' ⟨rfl, rfl⟩) | (go_at_call 154; go_fit (G _); rintro e w' ⟨rfl, rfl⟩) | (go_at_call 157; go_fit (E _); rintro e w' ⟨rfl, rfl⟩) | fail)
  refine bodyPost_ret (v := .tuple #[rtokV 5 (s.extract i (i + 1)) 0, .int .i64 (i + 1), .int .i64 0]) (by rw [results_cell3 rfl]; go_simp; (try rfl)) rfl ?_
  refine And.intro rfl ?_
  repeat' (first | with_reducible exact hb1 | with_reducible refine Below.setCell ?_ ?_ _ | exact Nat.le_refl _)
set_option maxHeartbeats 1000000 in
theorem rone_41 (s : ByteArray) (i : Nat) (w : World) (hi : i < s.size) (hs : s.size ≤ 140737488351232) (hc : s[i] = 41) :
    Calls Tryz.prog 114 #[.string s, .int .i64 i] w fun e w' => e = roneV 5 (s.extract i (i + 1)) 0 (i + 1) 0 ∧ Below w.heap.size w w' := by
  have hc' : ∀ h, s[i]'h = 41 := fun _ => hc
  have A : ∀ w, Calls Tryz.prog 151 #[.int .u8 41] w fun e w' => e = .returned (.bool false) ∧ w = w' := fun w => rsmall_any 41 w
  have B : ∀ w, Calls Tryz.prog 152 #[.int .u8 41] w fun e w' => e = .returned (.bool false) ∧ w = w' := fun w => rgreat_any 41 w
  have G : ∀ w, Calls Tryz.prog 154 #[.int .u8 41] w fun e w' => e = .returned (.bool false) ∧ w = w' := fun w => rdigit_any 41 w
  have E : ∀ w, Calls Tryz.prog 157 #[.string s, .int .i64 i] w fun e w' => e = .returned (.bool false) ∧ w = w' := fun w => (show endK (bl s) i = false from by rw [endK_at (l := bl s) hi, bl_get s i hi, hc]; rfl) ▸ rends_any s i w (by omega) hs
  clear hc
  obtain ⟨w1, hw1, hb1, hz1, hx1⟩ := box_new w #[.int .i64 0, .string ⟨#[]⟩, .int .i64 0, .bool false, .int .i64 0] 138
  obtain ⟨r0, r1, r2, r3, r4, rf⟩ := hx1.five
  go_enter Tryz.func114, Tryz.ntmps114
  go_wp2_with fail
  (try rw [hw1])
  clear hw1 hz1 hx1
  go_wp2_with (first | (go_at_call 151; go_fit (A _); rintro e w' ⟨rfl, rfl⟩) | (go_at_call 152; go_fit (B _); rintro e w' ⟨rfl, rfl⟩) | (go_at_call 154; go_fit (G _); rintro e w' ⟨rfl, rfl⟩) | (go_at_call 157; go_fit (E _); rintro e w' ⟨rfl, rfl⟩) | fail)
  refine bodyPost_ret (v := .tuple #[rtokV 5 (s.extract i (i + 1)) 0, .int .i64 (i + 1), .int .i64 0]) (by rw [results_cell3 rfl]; go_simp; (try rfl)) rfl ?_
  refine And.intro rfl ?_
  repeat' (first | with_reducible exact hb1 | with_reducible refine Below.setCell ?_ ?_ _ | exact Nat.le_refl _)
set_option maxHeartbeats 1000000 in
theorem rone_93 (s : ByteArray) (i : Nat) (w : World) (hi : i < s.size) (hs : s.size ≤ 140737488351232) (hc : s[i] = 93) :
    Calls Tryz.prog 114 #[.string s, .int .i64 i] w fun e w' => e = roneV 5 (s.extract i (i + 1)) 0 (i + 1) 0 ∧ Below w.heap.size w w' := by
  have hc' : ∀ h, s[i]'h = 93 := fun _ => hc
  have A : ∀ w, Calls Tryz.prog 151 #[.int .u8 93] w fun e w' => e = .returned (.bool false) ∧ w = w' := fun w => rsmall_any 93 w
  have B : ∀ w, Calls Tryz.prog 152 #[.int .u8 93] w fun e w' => e = .returned (.bool false) ∧ w = w' := fun w => rgreat_any 93 w
  have G : ∀ w, Calls Tryz.prog 154 #[.int .u8 93] w fun e w' => e = .returned (.bool false) ∧ w = w' := fun w => rdigit_any 93 w
  have E : ∀ w, Calls Tryz.prog 157 #[.string s, .int .i64 i] w fun e w' => e = .returned (.bool false) ∧ w = w' := fun w => (show endK (bl s) i = false from by rw [endK_at (l := bl s) hi, bl_get s i hi, hc]; rfl) ▸ rends_any s i w (by omega) hs
  clear hc
  obtain ⟨w1, hw1, hb1, hz1, hx1⟩ := box_new w #[.int .i64 0, .string ⟨#[]⟩, .int .i64 0, .bool false, .int .i64 0] 138
  obtain ⟨r0, r1, r2, r3, r4, rf⟩ := hx1.five
  go_enter Tryz.func114, Tryz.ntmps114
  go_wp2_with fail
  (try rw [hw1])
  clear hw1 hz1 hx1
  go_wp2_with (first | (go_at_call 151; go_fit (A _); rintro e w' ⟨rfl, rfl⟩) | (go_at_call 152; go_fit (B _); rintro e w' ⟨rfl, rfl⟩) | (go_at_call 154; go_fit (G _); rintro e w' ⟨rfl, rfl⟩) | (go_at_call 157; go_fit (E _); rintro e w' ⟨rfl, rfl⟩) | fail)
  refine bodyPost_ret (v := .tuple #[rtokV 5 (s.extract i (i + 1)) 0, .int .i64 (i + 1), .int .i64 0]) (by rw [results_cell3 rfl]; go_simp; (try rfl)) rfl ?_
  refine And.intro rfl ?_
  repeat' (first | with_reducible exact hb1 | with_reducible refine Below.setCell ?_ ?_ _ | exact Nat.le_refl _)
set_option maxHeartbeats 1000000 in
theorem rone_125 (s : ByteArray) (i : Nat) (w : World) (hi : i < s.size) (hs : s.size ≤ 140737488351232) (hc : s[i] = 125) :
    Calls Tryz.prog 114 #[.string s, .int .i64 i] w fun e w' => e = roneV 5 (s.extract i (i + 1)) 0 (i + 1) 0 ∧ Below w.heap.size w w' := by
  have hc' : ∀ h, s[i]'h = 125 := fun _ => hc
  have A : ∀ w, Calls Tryz.prog 151 #[.int .u8 125] w fun e w' => e = .returned (.bool false) ∧ w = w' := fun w => rsmall_any 125 w
  have B : ∀ w, Calls Tryz.prog 152 #[.int .u8 125] w fun e w' => e = .returned (.bool false) ∧ w = w' := fun w => rgreat_any 125 w
  have G : ∀ w, Calls Tryz.prog 154 #[.int .u8 125] w fun e w' => e = .returned (.bool false) ∧ w = w' := fun w => rdigit_any 125 w
  have E : ∀ w, Calls Tryz.prog 157 #[.string s, .int .i64 i] w fun e w' => e = .returned (.bool false) ∧ w = w' := fun w => (show endK (bl s) i = false from by rw [endK_at (l := bl s) hi, bl_get s i hi, hc]; rfl) ▸ rends_any s i w (by omega) hs
  clear hc
  obtain ⟨w1, hw1, hb1, hz1, hx1⟩ := box_new w #[.int .i64 0, .string ⟨#[]⟩, .int .i64 0, .bool false, .int .i64 0] 138
  obtain ⟨r0, r1, r2, r3, r4, rf⟩ := hx1.five
  go_enter Tryz.func114, Tryz.ntmps114
  go_wp2_with fail
  (try rw [hw1])
  clear hw1 hz1 hx1
  go_wp2_with (first | (go_at_call 151; go_fit (A _); rintro e w' ⟨rfl, rfl⟩) | (go_at_call 152; go_fit (B _); rintro e w' ⟨rfl, rfl⟩) | (go_at_call 154; go_fit (G _); rintro e w' ⟨rfl, rfl⟩) | (go_at_call 157; go_fit (E _); rintro e w' ⟨rfl, rfl⟩) | fail)
  refine bodyPost_ret (v := .tuple #[rtokV 5 (s.extract i (i + 1)) 0, .int .i64 (i + 1), .int .i64 0]) (by rw [results_cell3 rfl]; go_simp; (try rfl)) rfl ?_
  refine And.intro rfl ?_
  repeat' (first | with_reducible exact hb1 | with_reducible refine Below.setCell ?_ ?_ _ | exact Nat.le_refl _)
set_option maxHeartbeats 1000000 in
theorem rone_44 (s : ByteArray) (i : Nat) (w : World) (hi : i < s.size) (hs : s.size ≤ 140737488351232) (hc : s[i] = 44) :
    Calls Tryz.prog 114 #[.string s, .int .i64 i] w fun e w' => e = roneV 5 (s.extract i (i + 1)) 0 (i + 1) 0 ∧ Below w.heap.size w w' := by
  have hc' : ∀ h, s[i]'h = 44 := fun _ => hc
  have A : ∀ w, Calls Tryz.prog 151 #[.int .u8 44] w fun e w' => e = .returned (.bool false) ∧ w = w' := fun w => rsmall_any 44 w
  have B : ∀ w, Calls Tryz.prog 152 #[.int .u8 44] w fun e w' => e = .returned (.bool false) ∧ w = w' := fun w => rgreat_any 44 w
  have G : ∀ w, Calls Tryz.prog 154 #[.int .u8 44] w fun e w' => e = .returned (.bool false) ∧ w = w' := fun w => rdigit_any 44 w
  have E : ∀ w, Calls Tryz.prog 157 #[.string s, .int .i64 i] w fun e w' => e = .returned (.bool false) ∧ w = w' := fun w => (show endK (bl s) i = false from by rw [endK_at (l := bl s) hi, bl_get s i hi, hc]; rfl) ▸ rends_any s i w (by omega) hs
  clear hc
  obtain ⟨w1, hw1, hb1, hz1, hx1⟩ := box_new w #[.int .i64 0, .string ⟨#[]⟩, .int .i64 0, .bool false, .int .i64 0] 138
  obtain ⟨r0, r1, r2, r3, r4, rf⟩ := hx1.five
  go_enter Tryz.func114, Tryz.ntmps114
  go_wp2_with fail
  (try rw [hw1])
  clear hw1 hz1 hx1
  go_wp2_with (first | (go_at_call 151; go_fit (A _); rintro e w' ⟨rfl, rfl⟩) | (go_at_call 152; go_fit (B _); rintro e w' ⟨rfl, rfl⟩) | (go_at_call 154; go_fit (G _); rintro e w' ⟨rfl, rfl⟩) | (go_at_call 157; go_fit (E _); rintro e w' ⟨rfl, rfl⟩) | fail)
  refine bodyPost_ret (v := .tuple #[rtokV 5 (s.extract i (i + 1)) 0, .int .i64 (i + 1), .int .i64 0]) (by rw [results_cell3 rfl]; go_simp; (try rfl)) rfl ?_
  refine And.intro rfl ?_
  repeat' (first | with_reducible exact hb1 | with_reducible refine Below.setCell ?_ ?_ _ | exact Nat.le_refl _)
set_option maxHeartbeats 1000000 in
theorem rone_124 (s : ByteArray) (i : Nat) (w : World) (hi : i < s.size) (hs : s.size ≤ 140737488351232) (hc : s[i] = 124) :
    Calls Tryz.prog 114 #[.string s, .int .i64 i] w fun e w' => e = roneV 5 (s.extract i (i + 1)) 0 (i + 1) 0 ∧ Below w.heap.size w w' := by
  have hc' : ∀ h, s[i]'h = 124 := fun _ => hc
  have A : ∀ w, Calls Tryz.prog 151 #[.int .u8 124] w fun e w' => e = .returned (.bool false) ∧ w = w' := fun w => rsmall_any 124 w
  have B : ∀ w, Calls Tryz.prog 152 #[.int .u8 124] w fun e w' => e = .returned (.bool false) ∧ w = w' := fun w => rgreat_any 124 w
  have G : ∀ w, Calls Tryz.prog 154 #[.int .u8 124] w fun e w' => e = .returned (.bool false) ∧ w = w' := fun w => rdigit_any 124 w
  have E : ∀ w, Calls Tryz.prog 157 #[.string s, .int .i64 i] w fun e w' => e = .returned (.bool false) ∧ w = w' := fun w => (show endK (bl s) i = false from by rw [endK_at (l := bl s) hi, bl_get s i hi, hc]; rfl) ▸ rends_any s i w (by omega) hs
  clear hc
  obtain ⟨w1, hw1, hb1, hz1, hx1⟩ := box_new w #[.int .i64 0, .string ⟨#[]⟩, .int .i64 0, .bool false, .int .i64 0] 138
  obtain ⟨r0, r1, r2, r3, r4, rf⟩ := hx1.five
  go_enter Tryz.func114, Tryz.ntmps114
  go_wp2_with fail
  (try rw [hw1])
  clear hw1 hz1 hx1
  go_wp2_with (first | (go_at_call 151; go_fit (A _); rintro e w' ⟨rfl, rfl⟩) | (go_at_call 152; go_fit (B _); rintro e w' ⟨rfl, rfl⟩) | (go_at_call 154; go_fit (G _); rintro e w' ⟨rfl, rfl⟩) | (go_at_call 157; go_fit (E _); rintro e w' ⟨rfl, rfl⟩) | fail)
  refine bodyPost_ret (v := .tuple #[rtokV 5 (s.extract i (i + 1)) 0, .int .i64 (i + 1), .int .i64 0]) (by rw [results_cell3 rfl]; go_simp; (try rfl)) rfl ?_
  refine And.intro rfl ?_
  repeat' (first | with_reducible exact hb1 | with_reducible refine Below.setCell ?_ ?_ _ | exact Nat.le_refl _)
set_option maxHeartbeats 1000000 in
theorem rone_91_last (s : ByteArray) (i : Nat) (w : World) (hi : i < s.size) (hs : s.size ≤ 140737488351232) (hc : s[i] = 91) (h2 : s.size ≤ i + 1) :
    Calls Tryz.prog 114 #[.string s, .int .i64 i] w fun e w' => e = roneV 5 (s.extract i (i + 1)) 0 (i + 1) 0 ∧ Below w.heap.size w w' := by
  have hc' : ∀ h, s[i]'h = 91 := fun _ => hc
  have A : ∀ w, Calls Tryz.prog 151 #[.int .u8 91] w fun e w' => e = .returned (.bool false) ∧ w = w' := fun w => rsmall_any 91 w
  have B : ∀ w, Calls Tryz.prog 152 #[.int .u8 91] w fun e w' => e = .returned (.bool false) ∧ w = w' := fun w => rgreat_any 91 w
  have G : ∀ w, Calls Tryz.prog 154 #[.int .u8 91] w fun e w' => e = .returned (.bool false) ∧ w = w' := fun w => rdigit_any 91 w
  have E : ∀ w, Calls Tryz.prog 157 #[.string s, .int .i64 i] w fun e w' => e = .returned (.bool false) ∧ w = w' := fun w => (show endK (bl s) i = false from by rw [endK_at (l := bl s) hi, bl_get s i hi, hc]; rfl) ▸ rends_any s i w (by omega) hs
  clear hc
  obtain ⟨w1, hw1, hb1, hz1, hx1⟩ := box_new w #[.int .i64 0, .string ⟨#[]⟩, .int .i64 0, .bool false, .int .i64 0] 138
  obtain ⟨r0, r1, r2, r3, r4, rf⟩ := hx1.five
  go_enter Tryz.func114, Tryz.ntmps114
  go_wp2_with fail
  (try rw [hw1])
  clear hw1 hz1 hx1
  go_wp2_with (first | (go_at_call 151; go_fit (A _); rintro e w' ⟨rfl, rfl⟩) | (go_at_call 152; go_fit (B _); rintro e w' ⟨rfl, rfl⟩) | (go_at_call 154; go_fit (G _); rintro e w' ⟨rfl, rfl⟩) | (go_at_call 157; go_fit (E _); rintro e w' ⟨rfl, rfl⟩) | fail)
  refine bodyPost_ret (v := .tuple #[rtokV 5 (s.extract i (i + 1)) 0, .int .i64 (i + 1), .int .i64 0]) (by rw [results_cell3 rfl]; go_simp; (try rfl)) rfl ?_
  refine And.intro rfl ?_
  repeat' (first | with_reducible exact hb1 | with_reducible refine Below.setCell ?_ ?_ _ | exact Nat.le_refl _)
set_option maxHeartbeats 1000000 in
theorem rone_91_next (s : ByteArray) (i : Nat) (w : World) (hi : i < s.size) (hs : s.size ≤ 140737488351232) (hc : s[i] = 91) (h2 : i + 1 < s.size) (hd : (((s[i + 1]).toNat : Int) == 93) = false) :
    Calls Tryz.prog 114 #[.string s, .int .i64 i] w fun e w' => e = roneV 5 (s.extract i (i + 1)) 0 (i + 1) 0 ∧ Below w.heap.size w w' := by
  have hc' : ∀ h, s[i]'h = 91 := fun _ => hc
  have A : ∀ w, Calls Tryz.prog 151 #[.int .u8 91] w fun e w' => e = .returned (.bool false) ∧ w = w' := fun w => rsmall_any 91 w
  have B : ∀ w, Calls Tryz.prog 152 #[.int .u8 91] w fun e w' => e = .returned (.bool false) ∧ w = w' := fun w => rgreat_any 91 w
  have G : ∀ w, Calls Tryz.prog 154 #[.int .u8 91] w fun e w' => e = .returned (.bool false) ∧ w = w' := fun w => rdigit_any 91 w
  have E : ∀ w, Calls Tryz.prog 157 #[.string s, .int .i64 i] w fun e w' => e = .returned (.bool false) ∧ w = w' := fun w => (show endK (bl s) i = false from by rw [endK_at (l := bl s) hi, bl_get s i hi, hc]; rfl) ▸ rends_any s i w (by omega) hs
  obtain ⟨d, hd'⟩ : ∃ d, ∀ h, s[i + 1]'h = d := ⟨s[i + 1], fun _ => rfl⟩
  rw [hd'] at hd
  clear hc
  obtain ⟨w1, hw1, hb1, hz1, hx1⟩ := box_new w #[.int .i64 0, .string ⟨#[]⟩, .int .i64 0, .bool false, .int .i64 0] 138
  obtain ⟨r0, r1, r2, r3, r4, rf⟩ := hx1.five
  go_enter Tryz.func114, Tryz.ntmps114
  go_wp2_with fail
  (try rw [hw1])
  clear hw1 hz1 hx1
  go_wp2_with (first | (go_at_call 151; go_fit (A _); rintro e w' ⟨rfl, rfl⟩) | (go_at_call 152; go_fit (B _); rintro e w' ⟨rfl, rfl⟩) | (go_at_call 154; go_fit (G _); rintro e w' ⟨rfl, rfl⟩) | (go_at_call 157; go_fit (E _); rintro e w' ⟨rfl, rfl⟩) | fail)
  refine bodyPost_ret (v := .tuple #[rtokV 5 (s.extract i (i + 1)) 0, .int .i64 (i + 1), .int .i64 0]) (by rw [results_cell3 rfl]; go_simp; (try rfl)) rfl ?_
  refine And.intro rfl ?_
  repeat' (first | with_reducible exact hb1 | with_reducible refine Below.setCell ?_ ?_ _ | exact Nat.le_refl _)
set_option maxHeartbeats 1000000 in
theorem rone_123_last (s : ByteArray) (i : Nat) (w : World) (hi : i < s.size) (hs : s.size ≤ 140737488351232) (hc : s[i] = 123) (h2 : s.size ≤ i + 1) :
    Calls Tryz.prog 114 #[.string s, .int .i64 i] w fun e w' => e = roneV 5 (s.extract i (i + 1)) 0 (i + 1) 0 ∧ Below w.heap.size w w' := by
  have hc' : ∀ h, s[i]'h = 123 := fun _ => hc
  have A : ∀ w, Calls Tryz.prog 151 #[.int .u8 123] w fun e w' => e = .returned (.bool false) ∧ w = w' := fun w => rsmall_any 123 w
  have B : ∀ w, Calls Tryz.prog 152 #[.int .u8 123] w fun e w' => e = .returned (.bool false) ∧ w = w' := fun w => rgreat_any 123 w
  have G : ∀ w, Calls Tryz.prog 154 #[.int .u8 123] w fun e w' => e = .returned (.bool false) ∧ w = w' := fun w => rdigit_any 123 w
  have E : ∀ w, Calls Tryz.prog 157 #[.string s, .int .i64 i] w fun e w' => e = .returned (.bool false) ∧ w = w' := fun w => (show endK (bl s) i = false from by rw [endK_at (l := bl s) hi, bl_get s i hi, hc]; rfl) ▸ rends_any s i w (by omega) hs
  clear hc
  obtain ⟨w1, hw1, hb1, hz1, hx1⟩ := box_new w #[.int .i64 0, .string ⟨#[]⟩, .int .i64 0, .bool false, .int .i64 0] 138
  obtain ⟨r0, r1, r2, r3, r4, rf⟩ := hx1.five
  go_enter Tryz.func114, Tryz.ntmps114
  go_wp2_with fail
  (try rw [hw1])
  clear hw1 hz1 hx1
  go_wp2_with (first | (go_at_call 151; go_fit (A _); rintro e w' ⟨rfl, rfl⟩) | (go_at_call 152; go_fit (B _); rintro e w' ⟨rfl, rfl⟩) | (go_at_call 154; go_fit (G _); rintro e w' ⟨rfl, rfl⟩) | (go_at_call 157; go_fit (E _); rintro e w' ⟨rfl, rfl⟩) | fail)
  refine bodyPost_ret (v := .tuple #[rtokV 5 (s.extract i (i + 1)) 0, .int .i64 (i + 1), .int .i64 0]) (by rw [results_cell3 rfl]; go_simp; (try rfl)) rfl ?_
  refine And.intro rfl ?_
  repeat' (first | with_reducible exact hb1 | with_reducible refine Below.setCell ?_ ?_ _ | exact Nat.le_refl _)
set_option maxHeartbeats 1000000 in
theorem rone_123_next (s : ByteArray) (i : Nat) (w : World) (hi : i < s.size) (hs : s.size ≤ 140737488351232) (hc : s[i] = 123) (h2 : i + 1 < s.size) (hd : (((s[i + 1]).toNat : Int) == 125) = false) :
    Calls Tryz.prog 114 #[.string s, .int .i64 i] w fun e w' => e = roneV 5 (s.extract i (i + 1)) 0 (i + 1) 0 ∧ Below w.heap.size w w' := by
  have hc' : ∀ h, s[i]'h = 123 := fun _ => hc
  have A : ∀ w, Calls Tryz.prog 151 #[.int .u8 123] w fun e w' => e = .returned (.bool false) ∧ w = w' := fun w => rsmall_any 123 w
  have B : ∀ w, Calls Tryz.prog 152 #[.int .u8 123] w fun e w' => e = .returned (.bool false) ∧ w = w' := fun w => rgreat_any 123 w
  have G : ∀ w, Calls Tryz.prog 154 #[.int .u8 123] w fun e w' => e = .returned (.bool false) ∧ w = w' := fun w => rdigit_any 123 w
  have E : ∀ w, Calls Tryz.prog 157 #[.string s, .int .i64 i] w fun e w' => e = .returned (.bool false) ∧ w = w' := fun w => (show endK (bl s) i = false from by rw [endK_at (l := bl s) hi, bl_get s i hi, hc]; rfl) ▸ rends_any s i w (by omega) hs
  obtain ⟨d, hd'⟩ : ∃ d, ∀ h, s[i + 1]'h = d := ⟨s[i + 1], fun _ => rfl⟩
  rw [hd'] at hd
  clear hc
  obtain ⟨w1, hw1, hb1, hz1, hx1⟩ := box_new w #[.int .i64 0, .string ⟨#[]⟩, .int .i64 0, .bool false, .int .i64 0] 138
  obtain ⟨r0, r1, r2, r3, r4, rf⟩ := hx1.five
  go_enter Tryz.func114, Tryz.ntmps114
  go_wp2_with fail
  (try rw [hw1])
  clear hw1 hz1 hx1
  go_wp2_with (first | (go_at_call 151; go_fit (A _); rintro e w' ⟨rfl, rfl⟩) | (go_at_call 152; go_fit (B _); rintro e w' ⟨rfl, rfl⟩) | (go_at_call 154; go_fit (G _); rintro e w' ⟨rfl, rfl⟩) | (go_at_call 157; go_fit (E _); rintro e w' ⟨rfl, rfl⟩) | fail)
  refine bodyPost_ret (v := .tuple #[rtokV 5 (s.extract i (i + 1)) 0, .int .i64 (i + 1), .int .i64 0]) (by rw [results_cell3 rfl]; go_simp; (try rfl)) rfl ?_
  refine And.intro rfl ?_
  repeat' (first | with_reducible exact hb1 | with_reducible refine Below.setCell ?_ ?_ _ | exact Nat.le_refl _)
end Go.Proofs.YtobdhcaoeholhaaGreatDoor
/- The document's own token (sizarref1.one): symbols; none. -/
namespace Go.Proofs.YtobdhcaoeholhaaGreatDoor
open Go.RowKit
set_option linter.unusedVariables false
set_option maxRecDepth 100000

/-- None of the bytes that are told one by one. -/
def restB (c : UInt8) : Bool := !(smallB c) && !(greatB c) && !(digitB c) && ![39, 59, 33, 91, 123, 40, 41, 93, 125, 44, 124].contains c
theorem sym_rest : ∀ c, (!(symB c) || restB c) = true := u8_all (g := fun _ => true) (by decide +kernel)
theorem rest_ne {c : UInt8} (h : restB c = true) (n : UInt8) (hn : n ∈ [39, 59, 33, 91, 123, 40, 41, 93, 125, 44, 124]) : ((c.toNat : Int) == (n.toNat : Int)) = false := by
  apply beq_false_of_ne
  intro e
  obtain rfl := i64_u8 e
  unfold restB at h
  rw [List.contains_iff_mem.2 hn] at h
  simp at h
set_option maxHeartbeats 1000000 in
theorem rone_sym (s : ByteArray) (i : Nat) (w : World) (hi : i < s.size) (hs : s.size ≤ 140737488351232) (hr : restB s[i] = true) (hE : endK (bl s) i = false) (hy : symB s[i] = true) {T : Nat} (hT : i + symK (bl s) i = T) (h64 : (T : Int) - i ≤ 64) :
    Calls Tryz.prog 114 #[.string s, .int .i64 i] w fun e w' => e = roneV 1 (s.extract i T) 0 T 0 ∧ Below w.heap.size w w' := by
  obtain ⟨c, hc⟩ : ∃ c, s[i] = c := ⟨_, rfl⟩
  have hc' : ∀ h, s[i]'h = c := fun _ => hc
  have E := fun w => rends_any s i w (by omega) hs
  rw [hE] at E
  have hTs : T ≤ s.size := by
    have := sym_le ((bl s).drop i)
    rw [List.length_drop] at this
    have h2 : symK (bl s) i = symRun ((bl s).drop i) := rfl
    rw [bl_len] at this
    omega
  have hiT : i ≤ T := by omega
  have HT := Lib.hid hT
  rw [hc] at hr hy
  have h3 : smallB c = false ∧ greatB c = false ∧ digitB c = false := by
    unfold restB at hr
    cases h1 : smallB c <;> cases h2 : greatB c <;> cases h3 : digitB c <;> simp_all
  have A := fun w => rsmall_any c w
  have B := fun w => rgreat_any c w
  have G := fun w => rdigit_any c w
  have Y := fun w => rsym_any c w
  rw [h3.1] at A
  rw [h3.2.1] at B
  rw [h3.2.2] at G
  rw [hy] at Y
  have t39 : ((c.toNat : Int) == 39) = false := rest_ne hr 39 (by decide)
  have t59 : ((c.toNat : Int) == 59) = false := rest_ne hr 59 (by decide)
  have t33 : ((c.toNat : Int) == 33) = false := rest_ne hr 33 (by decide)
  have t91 : ((c.toNat : Int) == 91) = false := rest_ne hr 91 (by decide)
  have t123 : ((c.toNat : Int) == 123) = false := rest_ne hr 123 (by decide)
  have t40 : ((c.toNat : Int) == 40) = false := rest_ne hr 40 (by decide)
  have t41 : ((c.toNat : Int) == 41) = false := rest_ne hr 41 (by decide)
  have t93 : ((c.toNat : Int) == 93) = false := rest_ne hr 93 (by decide)
  have t125 : ((c.toNat : Int) == 125) = false := rest_ne hr 125 (by decide)
  have t44 : ((c.toNat : Int) == 44) = false := rest_ne hr 44 (by decide)
  have t124 : ((c.toNat : Int) == 124) = false := rest_ne hr 124 (by decide)
  clear h3 hr hc hE
  clear hT hy
  obtain ⟨w1, hw1, hb1, hz1, hx1⟩ := box_new w #[.int .i64 0, .string ⟨#[]⟩, .int .i64 0, .bool false, .int .i64 0] 138
  obtain ⟨r0, r1, r2, r3, r4, rf⟩ := hx1.five
  go_enter Tryz.func114, Tryz.ntmps114
  go_wp2_with fail
  (try rw [hw1])
  clear hw1 hz1 hx1
  go_wp2_with (first | (go_at_call 151; go_fit (A _); rintro e w' ⟨rfl, rfl⟩) | (go_at_call 152; go_fit (B _); rintro e w' ⟨rfl, rfl⟩) | (go_at_call 154; go_fit (G _); rintro e w' ⟨rfl, rfl⟩) | (go_at_call 157; go_fit (E _); rintro e w' ⟨rfl, rfl⟩) | (go_at_call 158; go_fit (Y _); rintro e w' ⟨rfl, rfl⟩) | fail)
  go_loop [8] (fun v => ∃ k : Nat, i ≤ k ∧ k ≤ s.size ∧ v = .int .i64 k ∧ k + symK (bl s) k = T) (fun v => s.size - (intOf v).toNat)
  case atStart => exact ⟨i, Nat.le_refl _, by omega, rfl, HT.out⟩
  case round =>
    obtain ⟨k, hik, hk, rfl, hkT⟩ := hrel
    have HK := Lib.hid hkT
    clear hkT
    by_cases hlt : k < s.size
    · have V := fun w => rsym_any s[k] w
      have F := fun w => rends_any s k w (by omega) hs
      cases hp : symB s[k]
      · have hkT := HK.out
        rw [symK_out (l := bl s) (k := k) hlt hp] at hkT
        obtain rfl : k = T := by omega
        rw [hp] at V
        clear hp HK HT hkT F
        go_wp2_with (first | (go_at_call 158; go_fit (V _); rintro e w' ⟨rfl, rfl⟩) | fail)
        refine bodyPost_ret (v := .tuple #[rtokV 1 (s.extract i k) 0, .int .i64 k, .int .i64 0]) (by rw [results_cell3 rfl]; go_simp; (try rfl)) rfl ?_
        refine And.intro rfl ?_
        repeat' (first | with_reducible exact hb1 | with_reducible refine Below.setCell ?_ ?_ _ | exact Nat.le_refl _)
      · rw [hp] at V
        cases hend : endK (bl s) k
        · have he := symK_in (l := bl s) (k := k) hlt hp hend
          have HE2 := Lib.hid he
          rw [hend] at F
          clear he hp hend
          go_wp2_with (first | (go_at_call 158; go_fit (V _); rintro e w' ⟨rfl, rfl⟩) | (go_at_call 157; go_fit (F _); rintro e w' ⟨rfl, rfl⟩) | fail)
          go_round
          case rel => exact ⟨k + 1, by omega, by omega, by go_num, by have := HK.out; rw [HE2.out] at this; omega⟩
          case measure => simp [intOf]; omega
        · have hkT := HK.out
          rw [symK_stop (l := bl s) (k := k) hlt hend] at hkT
          obtain rfl : k = T := by omega
          rw [hend] at F
          clear hp HK HT hkT hend
          go_wp2_with (first | (go_at_call 158; go_fit (V _); rintro e w' ⟨rfl, rfl⟩) | (go_at_call 157; go_fit (F _); rintro e w' ⟨rfl, rfl⟩) | fail)
          refine bodyPost_ret (v := .tuple #[rtokV 1 (s.extract i k) 0, .int .i64 k, .int .i64 0]) (by rw [results_cell3 rfl]; go_simp; (try rfl)) rfl ?_
          refine And.intro rfl ?_
          repeat' (first | with_reducible exact hb1 | with_reducible refine Below.setCell ?_ ?_ _ | exact Nat.le_refl _)
    · have hkT := HK.out
      rw [symK_end (l := bl s) (k := k) (show s.size ≤ k by omega)] at hkT
      obtain rfl : k = T := by omega
      clear HK HT hkT
      go_wp2_with fail
      refine bodyPost_ret (v := .tuple #[rtokV 1 (s.extract i k) 0, .int .i64 k, .int .i64 0]) (by rw [results_cell3 rfl]; go_simp; (try rfl)) rfl ?_
      refine And.intro rfl ?_
      repeat' (first | with_reducible exact hb1 | with_reducible refine Below.setCell ?_ ?_ _ | exact Nat.le_refl _)
set_option maxHeartbeats 1000000 in
theorem rone_symlong (s : ByteArray) (i : Nat) (w : World) (hi : i < s.size) (hs : s.size ≤ 140737488351232) (hr : restB s[i] = true) (hE : endK (bl s) i = false) (hy : symB s[i] = true) {T : Nat} (hT : i + symK (bl s) i = T) (h64 : 64 < (T : Int) - i) :
    Calls Tryz.prog 114 #[.string s, .int .i64 i] w fun e w' => e = roneV 0 ⟨#[]⟩ 0 0 3 ∧ Below w.heap.size w w' := by
  obtain ⟨c, hc⟩ : ∃ c, s[i] = c := ⟨_, rfl⟩
  have hc' : ∀ h, s[i]'h = c := fun _ => hc
  have E := fun w => rends_any s i w (by omega) hs
  rw [hE] at E
  have hTs : T ≤ s.size := by
    have := sym_le ((bl s).drop i)
    rw [List.length_drop] at this
    have h2 : symK (bl s) i = symRun ((bl s).drop i) := rfl
    rw [bl_len] at this
    omega
  have hiT : i ≤ T := by omega
  have HT := Lib.hid hT
  rw [hc] at hr hy
  have h3 : smallB c = false ∧ greatB c = false ∧ digitB c = false := by
    unfold restB at hr
    cases h1 : smallB c <;> cases h2 : greatB c <;> cases h3 : digitB c <;> simp_all
  have A := fun w => rsmall_any c w
  have B := fun w => rgreat_any c w
  have G := fun w => rdigit_any c w
  have Y := fun w => rsym_any c w
  rw [h3.1] at A
  rw [h3.2.1] at B
  rw [h3.2.2] at G
  rw [hy] at Y
  have t39 : ((c.toNat : Int) == 39) = false := rest_ne hr 39 (by decide)
  have t59 : ((c.toNat : Int) == 59) = false := rest_ne hr 59 (by decide)
  have t33 : ((c.toNat : Int) == 33) = false := rest_ne hr 33 (by decide)
  have t91 : ((c.toNat : Int) == 91) = false := rest_ne hr 91 (by decide)
  have t123 : ((c.toNat : Int) == 123) = false := rest_ne hr 123 (by decide)
  have t40 : ((c.toNat : Int) == 40) = false := rest_ne hr 40 (by decide)
  have t41 : ((c.toNat : Int) == 41) = false := rest_ne hr 41 (by decide)
  have t93 : ((c.toNat : Int) == 93) = false := rest_ne hr 93 (by decide)
  have t125 : ((c.toNat : Int) == 125) = false := rest_ne hr 125 (by decide)
  have t44 : ((c.toNat : Int) == 44) = false := rest_ne hr 44 (by decide)
  have t124 : ((c.toNat : Int) == 124) = false := rest_ne hr 124 (by decide)
  clear h3 hr hc hE
  clear hT hy
  obtain ⟨w1, hw1, hb1, hz1, hx1⟩ := box_new w #[.int .i64 0, .string ⟨#[]⟩, .int .i64 0, .bool false, .int .i64 0] 138
  obtain ⟨r0, r1, r2, r3, r4, rf⟩ := hx1.five
  go_enter Tryz.func114, Tryz.ntmps114
  go_wp2_with fail
  (try rw [hw1])
  clear hw1 hz1 hx1
  go_wp2_with (first | (go_at_call 151; go_fit (A _); rintro e w' ⟨rfl, rfl⟩) | (go_at_call 152; go_fit (B _); rintro e w' ⟨rfl, rfl⟩) | (go_at_call 154; go_fit (G _); rintro e w' ⟨rfl, rfl⟩) | (go_at_call 157; go_fit (E _); rintro e w' ⟨rfl, rfl⟩) | (go_at_call 158; go_fit (Y _); rintro e w' ⟨rfl, rfl⟩) | fail)
  go_loop [8] (fun v => ∃ k : Nat, i ≤ k ∧ k ≤ s.size ∧ v = .int .i64 k ∧ k + symK (bl s) k = T) (fun v => s.size - (intOf v).toNat)
  case atStart => exact ⟨i, Nat.le_refl _, by omega, rfl, HT.out⟩
  case round =>
    obtain ⟨k, hik, hk, rfl, hkT⟩ := hrel
    have HK := Lib.hid hkT
    clear hkT
    by_cases hlt : k < s.size
    · have V := fun w => rsym_any s[k] w
      have F := fun w => rends_any s k w (by omega) hs
      cases hp : symB s[k]
      · have hkT := HK.out
        rw [symK_out (l := bl s) (k := k) hlt hp] at hkT
        obtain rfl : k = T := by omega
        rw [hp] at V
        clear hp HK HT hkT F
        go_wp2_with (first | (go_at_call 158; go_fit (V _); rintro e w' ⟨rfl, rfl⟩) | fail)
        refine bodyPost_ret (v := .tuple #[rtokV 0 ⟨#[]⟩ 0, .int .i64 0, .int .i64 3]) (by rw [results_cell3 rfl]; go_simp; (try rfl)) rfl ?_
        refine And.intro rfl ?_
        repeat' (first | with_reducible exact hb1 | with_reducible refine Below.setCell ?_ ?_ _ | exact Nat.le_refl _)
      · rw [hp] at V
        cases hend : endK (bl s) k
        · have he := symK_in (l := bl s) (k := k) hlt hp hend
          have HE2 := Lib.hid he
          rw [hend] at F
          clear he hp hend
          go_wp2_with (first | (go_at_call 158; go_fit (V _); rintro e w' ⟨rfl, rfl⟩) | (go_at_call 157; go_fit (F _); rintro e w' ⟨rfl, rfl⟩) | fail)
          go_round
          case rel => exact ⟨k + 1, by omega, by omega, by go_num, by have := HK.out; rw [HE2.out] at this; omega⟩
          case measure => simp [intOf]; omega
        · have hkT := HK.out
          rw [symK_stop (l := bl s) (k := k) hlt hend] at hkT
          obtain rfl : k = T := by omega
          rw [hend] at F
          clear hp HK HT hkT hend
          go_wp2_with (first | (go_at_call 158; go_fit (V _); rintro e w' ⟨rfl, rfl⟩) | (go_at_call 157; go_fit (F _); rintro e w' ⟨rfl, rfl⟩) | fail)
          refine bodyPost_ret (v := .tuple #[rtokV 0 ⟨#[]⟩ 0, .int .i64 0, .int .i64 3]) (by rw [results_cell3 rfl]; go_simp; (try rfl)) rfl ?_
          refine And.intro rfl ?_
          repeat' (first | with_reducible exact hb1 | with_reducible refine Below.setCell ?_ ?_ _ | exact Nat.le_refl _)
    · have hkT := HK.out
      rw [symK_end (l := bl s) (k := k) (show s.size ≤ k by omega)] at hkT
      obtain rfl : k = T := by omega
      clear HK HT hkT
      go_wp2_with fail
      refine bodyPost_ret (v := .tuple #[rtokV 0 ⟨#[]⟩ 0, .int .i64 0, .int .i64 3]) (by rw [results_cell3 rfl]; go_simp; (try rfl)) rfl ?_
      refine And.intro rfl ?_
      repeat' (first | with_reducible exact hb1 | with_reducible refine Below.setCell ?_ ?_ _ | exact Nat.le_refl _)
set_option maxHeartbeats 1000000 in
theorem rone_none (s : ByteArray) (i : Nat) (w : World) (hi : i < s.size) (hs : s.size ≤ 140737488351232) (hr : restB s[i] = true) (hE : endK (bl s) i = false) (hy : symB s[i] = false) :
    Calls Tryz.prog 114 #[.string s, .int .i64 i] w fun e w' => e = roneV 0 ⟨#[]⟩ 0 0 2 ∧ Below w.heap.size w w' := by
  obtain ⟨c, hc⟩ : ∃ c, s[i] = c := ⟨_, rfl⟩
  have hc' : ∀ h, s[i]'h = c := fun _ => hc
  have E := fun w => rends_any s i w (by omega) hs
  rw [hE] at E
  rw [hc] at hr hy
  have h3 : smallB c = false ∧ greatB c = false ∧ digitB c = false := by
    unfold restB at hr
    cases h1 : smallB c <;> cases h2 : greatB c <;> cases h3 : digitB c <;> simp_all
  have A := fun w => rsmall_any c w
  have B := fun w => rgreat_any c w
  have G := fun w => rdigit_any c w
  have Y := fun w => rsym_any c w
  rw [h3.1] at A
  rw [h3.2.1] at B
  rw [h3.2.2] at G
  rw [hy] at Y
  have t39 : ((c.toNat : Int) == 39) = false := rest_ne hr 39 (by decide)
  have t59 : ((c.toNat : Int) == 59) = false := rest_ne hr 59 (by decide)
  have t33 : ((c.toNat : Int) == 33) = false := rest_ne hr 33 (by decide)
  have t91 : ((c.toNat : Int) == 91) = false := rest_ne hr 91 (by decide)
  have t123 : ((c.toNat : Int) == 123) = false := rest_ne hr 123 (by decide)
  have t40 : ((c.toNat : Int) == 40) = false := rest_ne hr 40 (by decide)
  have t41 : ((c.toNat : Int) == 41) = false := rest_ne hr 41 (by decide)
  have t93 : ((c.toNat : Int) == 93) = false := rest_ne hr 93 (by decide)
  have t125 : ((c.toNat : Int) == 125) = false := rest_ne hr 125 (by decide)
  have t44 : ((c.toNat : Int) == 44) = false := rest_ne hr 44 (by decide)
  have t124 : ((c.toNat : Int) == 124) = false := rest_ne hr 124 (by decide)
  clear h3 hr hc hE
  clear hy
  obtain ⟨w1, hw1, hb1, hz1, hx1⟩ := box_new w #[.int .i64 0, .string ⟨#[]⟩, .int .i64 0, .bool false, .int .i64 0] 138
  obtain ⟨r0, r1, r2, r3, r4, rf⟩ := hx1.five
  go_enter Tryz.func114, Tryz.ntmps114
  go_wp2_with fail
  (try rw [hw1])
  clear hw1 hz1 hx1
  go_wp2_with (first | (go_at_call 151; go_fit (A _); rintro e w' ⟨rfl, rfl⟩) | (go_at_call 152; go_fit (B _); rintro e w' ⟨rfl, rfl⟩) | (go_at_call 154; go_fit (G _); rintro e w' ⟨rfl, rfl⟩) | (go_at_call 157; go_fit (E _); rintro e w' ⟨rfl, rfl⟩) | (go_at_call 158; go_fit (Y _); rintro e w' ⟨rfl, rfl⟩) | fail)
  refine bodyPost_ret (v := .tuple #[rtokV 0 ⟨#[]⟩ 0, .int .i64 0, .int .i64 2]) (by rw [results_cell3 rfl]; go_simp; (try rfl)) rfl ?_
  refine And.intro rfl ?_
  repeat' (first | with_reducible exact hb1 | with_reducible refine Below.setCell ?_ ?_ _ | exact Nat.le_refl _)
end Go.Proofs.YtobdhcaoeholhaaGreatDoor
