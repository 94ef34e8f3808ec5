import Derived.Test.YtljgkfdnmikpfaaGreatDoorHgfaq
import Derived.Test.YtljgkfdnmikpfaaGreatDoorHgfaf
set_option linter.unusedVariables false
set_option linter.unusedSimpArgs false
/- The document's own token (sizarref1.one): marks. -/
namespace Go.Proofs.YtljgkfdnmikpfaaGreatDoor
open Go.RowKit
set_option linter.unusedVariables false
set_option maxRecDepth 100000

set_option maxHeartbeats 1000000 in
theorem rone_40 (s : ByteArray) (i : Nat) (w : World) (hi : i < s.size) (hs : s.size ≤ 140737488351232) (hc : s[i] = 40) :
    Calls Tryz.prog 114 #[.string s, .int .i64 i] w fun e w' => e = roneV 5 (s.extract i (i + 1)) 0 (i + 1) 0 ∧ Below w.heap.size w w' := by
  have hc' : ∀ h, s[i]'h = 40 := fun _ => hc
  have A : ∀ w, Calls Tryz.prog 151 #[.int .u8 40] w fun e w' => e = .returned (.bool false) ∧ w = w' := fun w => rsmall_any 40 w
  have B : ∀ w, Calls Tryz.prog 152 #[.int .u8 40] w fun e w' => e = .returned (.bool false) ∧ w = w' := fun w => rgreat_any 40 w
  have G : ∀ w, Calls Tryz.prog 154 #[.int .u8 40] w fun e w' => e = .returned (.bool false) ∧ w = w' := fun w => rdigit_any 40 w
  have E : ∀ w, Calls Tryz.prog 157 #[.string s, .int .i64 i] w fun e w' => e = .returned (.bool false) ∧ w = w' := fun w => (show endK (bl s) i = false from by rw [endK_at (l := bl s) hi, bl_get s i hi, hc]; rfl) ▸ rends_any s i w (by omega) hs
  clear hc
  obtain ⟨w1, hw1, hb1, hz1, hx1⟩ := box_new w #[.int .i64 0, .string ⟨#[]⟩, .int .i64 0, .bool false, .int .i64 0] 138
  obtain ⟨r0, r1, r2, r3, r4, rf⟩ := hx1.five
  go_enter Tryz.func114, Tryz.ntmps114
  go_wp2_with fail
  (try rw [hw1])
  clear hw1 hz1 hx1
  go_wp2_with (first | (go_at_call 151; go_fit (A _); rintro e w' ⟨rfl, rfl⟩) | (go_at_call 152; go_fit (B _); rintro e w' ⟨rfl, rfl⟩) | (go_at_call 154; go_fit (G _); rintro e w' ⟨rfl, rfl⟩) | (go_at_call 157; go_fit (E _); rintro e w' ⟨rfl, rfl⟩) | fail)
  refine bodyPost_ret (v := .tuple #[rtokV 5 (s.extract i (i + 1)) 0, .int .i64 (i + 1), .int .i64 0]) (by rw [results_cell3 rfl]; go_simp; (try rfl)) rfl ?_
  refine And.intro rfl ?_
  repeat' (first | with_reducible exact hb1 | with_reducible refine Below.setCell ?_ ?_ _ | exact Nat.le_refl _)
set_option maxHeartbeats 1000000 in
theorem rone_41 (s : ByteArray) (i : Nat) (w : World) (hi : i < s.size) (hs : s.size ≤ 140737488351232) (hc : s[i] = 41) :
    Calls Tryz.prog 114 #[.string s, .int .i64 i] w fun e w' => e = roneV 5 (s.extract i (i + 1)) 0 (i + 1) 0 ∧ Below w.heap.size w w' := by
  have hc' : ∀ h, s[i]'h = 41 := fun _ => hc
  have A : ∀ w, Calls Tryz.prog 151 #[.int .u8 41] w fun e w' => e = .returned (.bool false) ∧ w = w' := fun w => rsmall_any 41 w
  have B : ∀ w, Calls Tryz.prog 152 #[.int .u8 41] w fun e w' => e = .returned (.bool false) ∧ w = w' := fun w => rgreat_any 41 w
  have G : ∀ w, Calls Tryz.prog 154 #[.int .u8 41] w fun e w' => e = .returned (.bool false) ∧ w = w' := fun w => rdigit_any 41 w
  have E : ∀ w, Calls Tryz.prog 157 #[.string s, .int .i64 i] w fun e w' => e = .returned (.bool false) ∧ w = w' := fun w => (show endK (bl s) i = false from by rw [endK_at (l := bl s) hi, bl_get s i hi, hc]; rfl) ▸ rends_any s i w (by omega) hs
  clear hc
  obtain ⟨w1, hw1, hb1, hz1, hx1⟩ := box_new w #[.int .i64 0, .string ⟨#[]⟩, .int .i64 0, .bool false, .int .i64 0] 138
  obtain ⟨r0, r1, r2, r3, r4, rf⟩ := hx1.five
  go_enter Tryz.func114, Tryz.ntmps114
  go_wp2_with fail
  (try rw [hw1])
  clear hw1 hz1 hx1
  go_wp2_with (first | (go_at_call 151; go_fit (A _); rintro e w' ⟨rfl, rfl⟩) | (go_at_call 152; go_fit (B _); rintro e w' ⟨rfl, rfl⟩) | (go_at_call 154; go_fit (G _); rintro e w' ⟨rfl, rfl⟩) | (go_at_call 157; go_fit (E _); rintro e w' ⟨rfl, rfl⟩) | fail)
  refine bodyPost_ret (v := .tuple #[rtokV 5 (s.extract i (i + 1)) 0, .int .i64 (i + 1), .int .i64 0]) (by rw [results_cell3 rfl]; go_simp; (try rfl)) rfl ?_
  refine And.intro rfl ?_
  repeat' (first | with_reducible exact hb1 | with_reducible refine Below.setCell ?_ ?_ _ | exact Nat.le_refl _)
set_option maxHeartbeats 1000000 in
theorem rone_93 (s : ByteArray) (i : Nat) (w : World) (hi : i < s.size) (hs : s.size ≤ 140737488351232) (hc : s[i] = 93) :
    Calls Tryz.prog 114 #[.string s, .int .i64 i] w fun e w' => e = roneV 5 (s.extract i (i + 1)) 0 (i + 1) 0 ∧ Below w.heap.size w w' := by
  have hc' : ∀ h, s[i]'h = 93 := fun _ => hc
  have A : ∀ w, Calls Tryz.prog 151 #[.int .u8 93] w fun e w' => e = .returned (.bool false) ∧ w = w' := fun w => rsmall_any 93 w
  have B : ∀ w, Calls Tryz.prog 152 #[.int .u8 93] w fun e w' => e = .returned (.bool false) ∧ w = w' := fun w => rgreat_any 93 w
  have G : ∀ w, Calls Tryz.prog 154 #[.int .u8 93] w fun e w' => e = .returned (.bool false) ∧ w = w' := fun w => rdigit_any 93 w
  have E : ∀ w, Calls Tryz.prog 157 #[.string s, .int .i64 i] w fun e w' => e = .returned (.bool false) ∧ w = w' := fun w => (show endK (bl s) i = false from by rw [endK_at (l := bl s) hi, bl_get s i hi, hc]; rfl) ▸ rends_any s i w (by omega) hs
  clear hc
  obtain ⟨w1, hw1, hb1, hz1, hx1⟩ := box_new w #[.int .i64 0, .string ⟨#[]⟩, .int .i64 0, .bool false, .int .i64 0] 138
  obtain ⟨r0, r1, r2, r3, r4, rf⟩ := hx1.five
  go_enter Tryz.func114, Tryz.ntmps114
  go_wp2_with fail
  (try rw [hw1])
  clear hw1 hz1 hx1
  go_wp2_with (first | (go_at_call 151; go_fit (A _); rintro e w' ⟨rfl, rfl⟩) | (go_at_call 152; go_fit (B _); rintro e w' ⟨rfl, rfl⟩) | (go_at_call 154; go_fit (G _); rintro e w' ⟨rfl, rfl⟩) | (go_at_call 157; go_fit (E _); rintro e w' ⟨rfl, rfl⟩) | fail)
  refine bodyPost_ret (v := .tuple #[rtokV 5 (s.extract i (i + 1)) 0, .int .i64 (i + 1), .int .i64 0]) (by rw [results_cell3 rfl]; go_simp; (try rfl)) rfl ?_
  refine And.intro rfl ?_
  repeat' (first | with_reducible exact hb1 | with_reducible refine Below.setCell ?_ ?_ _ | exact Nat.le_refl _)
set_option maxHeartbeats 1000000 in
theorem rone_125 (s : ByteArray) (i : Nat) (w : World) (hi : i < s.size) (hs : s.size ≤ 140737488351232) (hc : s[i] = 125) :
    Calls Tryz.prog 114 #[.string s, .int .i64 i] w fun e w' => e = roneV 5 (s.extract i (i + 1)) 0 (i + 1) 0 ∧ Below w.heap.size w w' := by
  have hc' : ∀ h, s[i]'h = 125 := fun _ => hc
  have A : ∀ w, Calls Tryz.prog 151 #[.int .u8 125] w fun e w' => e = .returned (.bool false) ∧ w = w' := fun w => rsmall_any 125 w
  have B : ∀ w, Calls Tryz.prog 152 #[.int .u8 125] w fun e w' => e = .returned (.bool false) ∧ w = w' := fun w => rgreat_any 125 w
  have G : ∀ w, Calls Tryz.prog 154 #[.int .u8 125] w fun e w' => e = .returned (.bool false) ∧ w = w' := fun w => rdigit_any 125 w
  have E : ∀ w, Calls Tryz.prog 157 #[.string s, .int .i64 i] w fun e w' => e = .returned (.bool false) ∧ w = w' := fun w => (show endK (bl s) i = false from by rw [endK_at (l := bl s) hi, bl_get s i hi, hc]; rfl) ▸ rends_any s i w (by omega) hs
  clear hc
  obtain ⟨w1, hw1, hb1, hz1, hx1⟩ := box_new w #[.int .i64 0, .string ⟨#[]⟩, .int .i64 0, .bool false, .int .i64 0] 138
  obtain ⟨r0, r1, r2, r3, r4, rf⟩ := hx1.five
  go_enter Tryz.func114, Tryz.ntmps114
  go_wp2_with fail
  (try rw [hw1])
  clear hw1 hz1 hx1
  go_wp2_with (first | (go_at_call 151; go_fit (A _); rintro e w' ⟨rfl, rfl⟩) | (go_at_call 152; go_fit (B _); rintro e w' ⟨rfl, rfl⟩) | (go_at_call 154; go_fit (G _); rintro e w' ⟨rfl, rfl⟩) | (go_at_call 157; go_fit (E _); rintro e w' ⟨rfl, rfl⟩) | fail)
  refine bodyPost_ret (v := .tuple #[rtokV 5 (s.extract i (i + 1)) 0, .int .i64 (i + 1), .int .i64 0]) (by rw [results_cell3 rfl]; go_simp; (try rfl)) rfl ?_
  refine And.intro rfl ?_
  repeat' (first | with_reducible exact hb1 | with_reducible refine Below.setCell ?_ ?_ _ | exact Nat.le_refl _)
set_option maxHeartbeats 1000000 in
theorem rone_44 (s : ByteArray) (i : Nat) (w : World) (hi : i < s.size) (hs : s.size ≤ 140737488351232) (hc : s[i] = 44) :
    Calls Tryz.prog 114 #[.string s, .int .i64 i] w fun e w' => e = roneV 5 (s.extract i (i + 1)) 0 (i + 1) 0 ∧ Below w.heap.size w w' := by
  have hc' : ∀ h, s[i]'h = 44 := fun _ => hc
  have A : ∀ w, Calls Tryz.prog 151 #[.int .u8 44] w fun e w' => e = .returned (.bool false) ∧ w = w' := fun w => rsmall_any 44 w
  have B : ∀ w, Calls Tryz.prog 152 #[.int .u8 44] w fun e w' => e = .returned (.bool false) ∧ w = w' := fun w => rgreat_any 44 w
  have G : ∀ w, Calls Tryz.prog 154 #[.int .u8 44] w fun e w' => e = .returned (.bool false) ∧ w = w' := fun w => rdigit_any 44 w
  have E : ∀ w, Calls Tryz.prog 157 #[.string s, .int .i64 i] w fun e w' => e = .returned (.bool false) ∧ w = w' := fun w => (show endK (bl s) i = false from by rw [endK_at (l := bl s) hi, bl_get s i hi, hc]; rfl) ▸ rends_any s i w (by omega) hs
  clear hc
  obtain ⟨w1, hw1, hb1, hz1, hx1⟩ := box_new w #[.int .i64 0, .string ⟨#[]⟩, .int .i64 0, .bool false, .int .i64 0] 138
  obtain ⟨r0, r1, r2, r3, r4, rf⟩ := hx1.five
  go_enter Tryz.func114, Tryz.ntmps114
  go_wp2_with fail
  (try rw [hw1])
  clear hw1 hz1 hx1
  go_wp2_with (first | (go_at_call 151; go_fit (A _); rintro e w' ⟨rfl, rfl⟩) | (go_at_call 152; go_fit (B _); rintro e w' ⟨rfl, rfl⟩) | (go_at_call 154; go_fit (G _); rintro e w' ⟨rfl, rfl⟩) | (go_at_call 157; go_fit (E _); rintro e w' ⟨rfl, rfl⟩) | fail)
  refine bodyPost_ret (v := .tuple #[rtokV 5 (s.extract i (i + 1)) 0, .int .i64 (i + 1), .int .i64 0]) (by rw [results_cell3 rfl]; go_simp; (try rfl)) rfl ?_
  refine And.intro rfl ?_
  repeat' (first | with_reducible exact hb1 | with_reducible refine Below.setCell ?_ ?_ _ | exact Nat.le_refl _)
set_option maxHeartbeats 1000000 in
theorem rone_124 (s : ByteArray) (i : Nat) (w : World) (hi : i < s.size) (hs : s.size ≤ 140737488351232) (hc : s[i] = 124) :
    Calls Tryz.prog 114 #[.string s, .int .i64 i] w fun e w' => e = roneV 5 (s.extract i (i + 1)) 0 (i + 1) 0 ∧ Below w.heap.size w w' := by
  have hc' : ∀ h, s[i]'h = 124 := fun _ => hc
  have A : ∀ w, Calls Tryz.prog 151 #[.int .u8 124] w fun e w' => e = .returned (.bool false) ∧ w = w' := fun w => rsmall_any 124 w
  have B : ∀ w, Calls Tryz.prog 152 #[.int .u8 124] w fun e w' => e = .returned (.bool false) ∧ w = w' := fun w => rgreat_any 124 w
  have G : ∀ w, Calls Tryz.prog 154 #[.int .u8 124] w fun e w' => e = .returned (.bool false) ∧ w = w' := fun w => rdigit_any 124 w
  have E : ∀ w, Calls Tryz.prog 157 #[.string s, .int .i64 i] w fun e w' => e = .returned (.bool false) ∧ w = w' := fun w => (show endK (bl s) i = false from by rw [endK_at (l := bl s) hi, bl_get s i hi, hc]; rfl) ▸ rends_any s i w (by omega) hs
  clear hc
  obtain ⟨w1, hw1, hb1, hz1, hx1⟩ := box_new w #[.int .i64 0, .string ⟨#[]⟩, .int .i64 0, .bool false, .int .i64 0] 138
  obtain ⟨r0, r1, r2, r3, r4, rf⟩ := hx1.five
  go_enter Tryz.func114, Tryz.ntmps114
  go_wp2_with fail
  (try rw [hw1])
  clear hw1 hz1 hx1
  go_wp2_with (first | (go_at_call 151; go_fit (A _); rintro e w' ⟨rfl, rfl⟩) | (go_at_call 152; go_fit (B _); rintro e w' ⟨rfl, rfl⟩) | (go_at_call 154; go_fit (G _); rintro e w' ⟨rfl, rfl⟩) | (go_at_call 157; go_fit (E _); rintro e w' ⟨rfl, rfl⟩) | fail)
  refine bodyPost_ret (v := .tuple #[rtokV 5 (s.extract i (i + 1)) 0, .int .i64 (i + 1), .int .i64 0]) (by rw [results_cell3 rfl]; go_simp; (try rfl)) rfl ?_
  refine And.intro rfl ?_
  repeat' (first | with_reducible exact hb1 | with_reducible refine Below.setCell ?_ ?_ _ | exact Nat.le_refl _)
set_option maxHeartbeats 1000000 in
theorem rone_91_last (s : ByteArray) (i : Nat) (w : World) (hi : i < s.size) (hs : s.size ≤ 140737488351232) (hc : s[i] = 91) (h2 : s.size ≤ i + 1) :
    Calls Tryz.prog 114 #[.string s, .int .i64 i] w fun e w' => e = roneV 5 (s.extract i (i + 1)) 0 (i + 1) 0 ∧ Below w.heap.size w w' := by
  have hc' : ∀ h, s[i]'h = 91 := fun _ => hc
  have A : ∀ w, Calls Tryz.prog 151 #[.int .u8 91] w fun e w' => e = .returned (.bool false) ∧ w = w' := fun w => rsmall_any 91 w
  have B : ∀ w, Calls Tryz.prog 152 #[.int .u8 91] w fun e w' => e = .returned (.bool false) ∧ w = w' := fun w => rgreat_any 91 w
  have G : ∀ w, Calls Tryz.prog 154 #[.int .u8 91] w fun e w' => e = .returned (.bool false) ∧ w = w' := fun w => rdigit_any 91 w
  have E : ∀ w, Calls Tryz.prog 157 #[.string s, .int .i64 i] w fun e w' => e = .returned (.bool false) ∧ w = w' := fun w => (show endK (bl s) i = false from by rw [endK_at (l := bl s) hi, bl_get s i hi, hc]; rfl) ▸ rends_any s i w (by omega) hs
  clear hc
  obtain ⟨w1, hw1, hb1, hz1, hx1⟩ := box_new w #[.int .i64 0, .string ⟨#[]⟩, .int .i64 0, .bool false, .int .i64 0] 138
  obtain ⟨r0, r1, r2, r3, r4, rf⟩ := hx1.five
  go_enter Tryz.func114, Tryz.ntmps114
  go_wp2_with fail
  (try rw [hw1])
  clear hw1 hz1 hx1
  go_wp2_with (first | (go_at_call 151; go_fit (A _); rintro e w' ⟨rfl, rfl⟩) | (go_at_call 152; go_fit (B _); rintro e w' ⟨rfl, rfl⟩) | (go_at_call 154; go_fit (G _); rintro e w' ⟨rfl, rfl⟩) | (go_at_call 157; go_fit (E _); rintro e w' ⟨rfl, rfl⟩) | fail)
  refine bodyPost_ret (v := .tuple #[rtokV 5 (s.extract i (i + 1)) 0, .int .i64 (i + 1), .int .i64 0]) (by rw [results_cell3 rfl]; go_simp; (try rfl)) rfl ?_
  refine And.intro rfl ?_
  repeat' (first | with_reducible exact hb1 | with_reducible refine Below.setCell ?_ ?_ _ | exact Nat.le_refl _)
set_option maxHeartbeats 1000000 in
theorem rone_91_next (s : ByteArray) (i : Nat) (w : World) (hi : i < s.size) (hs : s.size ≤ 140737488351232) (hc : s[i] = 91) (h2 : i + 1 < s.size) (hd : (((s[i + 1]).toNat : Int) == 93) = false) :
    Calls Tryz.prog 114 #[.string s, .int .i64 i] w fun e w' => e = roneV 5 (s.extract i (i + 1)) 0 (i + 1) 0 ∧ Below w.heap.size w w' := by
  have hc' : ∀ h, s[i]'h = 91 := fun _ => hc
  have A : ∀ w, Calls Tryz.prog 151 #[.int .u8 91] w fun e w' => e = .returned (.bool false) ∧ w = w' := fun w => rsmall_any 91 w
  have B : ∀ w, Calls Tryz.prog 152 #[.int .u8 91] w fun e w' => e = .returned (.bool false) ∧ w = w' := fun w => rgreat_any 91 w
  have G : ∀ w, Calls Tryz.prog 154 #[.int .u8 91] w fun e w' => e = .returned (.bool false) ∧ w = w' := fun w => rdigit_any 91 w
  have E : ∀ w, Calls Tryz.prog 157 #[.string s, .int .i64 i] w fun e w' => e = .returned (.bool false) ∧ w = w' := fun w => (show endK (bl s) i = false from by rw [endK_at (l := bl s) hi, bl_get s i hi, hc]; rfl) ▸ rends_any s i w (by omega) hs
  obtain ⟨d, hd'⟩ : ∃ d, ∀ h, s[i + 1]'h = d := ⟨s[i + 1], fun _ => rfl⟩
  rw [hd'] at hd
  clear hc
  obtain ⟨w1, hw1, hb1, hz1, hx1⟩ := box_new w #[.int .i64 0, .string ⟨#[]⟩, .int .i64 0, .bool false, .int .i64 0] 138
  obtain ⟨r0, r1, r2, r3, r4, rf⟩ := hx1.five
  go_enter Tryz.func114, Tryz.ntmps114
  go_wp2_with fail
  (try rw [hw1])
  clear hw1 hz1 hx1
  go_wp2_with (first | (go_at_call 151; go_fit (A _); rintro e w' ⟨rfl, rfl⟩) | (go_at_call 152; go_fit (B _); rintro e w' ⟨rfl, rfl⟩) | (go_at_call 154; go_fit (G _); rintro e w' ⟨rfl, rfl⟩) | (go_at_call 157; go_fit (E _); rintro e w' ⟨rfl, rfl⟩) | fail)
  refine bodyPost_ret (v := .tuple #[rtokV 5 (s.extract i (i + 1)) 0, .int .i64 (i + 1), .int .i64 0]) (by rw [results_cell3 rfl]; go_simp; (try rfl)) rfl ?_
  refine And.intro rfl ?_
  repeat' (first | with_reducible exact hb1 | with_reducible refine Below.setCell ?_ ?_ _ | exact Nat.le_refl _)
set_option maxHeartbeats 1000000 in
theorem rone_123_last (s : ByteArray) (i : Nat) (w : World) (hi : i < s.size) (hs : s.size ≤ 140737488351232) (hc : s[i] = 123) (h2 : s.size ≤ i + 1) :
    Calls Tryz.prog 114 #[.string s, .int .i64 i] w fun e w' => e = roneV 5 (s.extract i (i + 1)) 0 (i + 1) 0 ∧ Below w.heap.size w w' := by
  have hc' : ∀ h, s[i]'h = 123 := fun _ => hc
  have A : ∀ w, Calls Tryz.prog 151 #[.int .u8 123] w fun e w' => e = .returned (.bool false) ∧ w = w' := fun w => rsmall_any 123 w
  have B : ∀ w, Calls Tryz.prog 152 #[.int .u8 123] w fun e w' => e = .returned (.bool false) ∧ w = w' := fun w => rgreat_any 123 w
  have G : ∀ w, Calls Tryz.prog 154 #[.int .u8 123] w fun e w' => e = .returned (.bool false) ∧ w = w' := fun w => rdigit_any 123 w
  have E : ∀ w, Calls Tryz.prog 157 #[.string s, .int .i64 i] w fun e w' => e = .returned (.bool false) ∧ w = w' := fun w => (show endK (bl s) i = false from by rw [endK_at (l := bl s) hi, bl_get s i hi, hc]; rfl) ▸ rends_any s i w (by omega) hs
  clear hc
  obtain ⟨w1, hw1, hb1, hz1, hx1⟩ := box_new w #[.int .i64 0, .string ⟨#[]⟩, .int .i64 0, .bool false, .int .i64 0] 138
  obtain ⟨r0, r1, r2, r3, r4, rf⟩ := hx1.five
  go_enter Tryz.func114, Tryz.ntmps114
  go_wp2_with fail
  (try rw [hw1])
  clear hw1 hz1 hx1
  go_wp2_with (first | (go_at_call 151; go_fit (A _); rintro e w' ⟨rfl, rfl⟩) | (go_at_call 152; go_fit (B _); rintro e w' ⟨rfl, rfl⟩) | (go_at_call 154; go_fit (G _); rintro e w' ⟨rfl, rfl⟩) | (go_at_call 157; go_fit (E _); rintro e w' ⟨rfl, rfl⟩) | fail)
  refine bodyPost_ret (v := .tuple #[rtokV 5 (s.extract i (i + 1)) 0, .int .i64 (i + 1), .int .i64 0]) (by rw [results_cell3 rfl]; go_simp; (try rfl)) rfl ?_
  refine And.intro rfl ?_
  repeat' (first | with_reducible exact hb1 | with_reducible refine Below.setCell ?_ ?_ _ | exact Nat.le_refl _)
set_option maxHeartbeats 1000000 in
theorem rone_123_next (s : ByteArray) (i : Nat) (w : World) (hi : i < s.size) (hs : s.size ≤ 140737488351232) (hc : s[i] = 123) (h2 : i + 1 < s.size) (hd : (((s[i + 1]).toNat : Int) == 125) = false) :
    Calls Tryz.prog 114 #[.string s, .int .i64 i] w fun e w' => e = roneV 5 (s.extract i (i + 1)) 0 (i + 1) 0 ∧ Below w.heap.size w w' := by
  have hc' : ∀ h, s[i]'h = 123 := fun _ => hc
  have A : ∀ w, Calls Tryz.prog 151 #[.int .u8 123] w fun e w' => e = .returned (.bool false) ∧ w = w' := fun w => rsmall_any 123 w
  have B : ∀ w, Calls Tryz.prog 152 #[.int .u8 123] w fun e w' => e = .returned (.bool false) ∧ w = w' := fun w => rgreat_any 123 w
  have G : ∀ w, Calls Tryz.prog 154 #[.int .u8 123] w fun e w' => e = .returned (.bool false) ∧ w = w' := fun w => rdigit_any 123 w
  have E : ∀ w, Calls Tryz.prog 157 #[.string s, .int .i64 i] w fun e w' => e = .returned (.bool false) ∧ w = w' := fun w => (show endK (bl s) i = false from by rw [endK_at (l := bl s) hi, bl_get s i hi, hc]; rfl) ▸ rends_any s i w (by omega) hs
  obtain ⟨d, hd'⟩ : ∃ d, ∀ h, s[i + 1]'h = d := ⟨s[i + 1], fun _ => rfl⟩
  rw [hd'] at hd
  clear hc
  obtain ⟨w1, hw1, hb1, hz1, hx1⟩ := box_new w #[.int .i64 0, .string ⟨#[]⟩, .int .i64 0, .bool false, .int .i64 0] 138
  obtain ⟨r0, r1, r2, r3, r4, rf⟩ := hx1.five
  go_enter Tryz.func114, Tryz.ntmps114
  go_wp2_with fail
  (try rw [hw1])
  clear hw1 hz1 hx1
  go_wp2_with (first | (go_at_call 151; go_fit (A _); rintro e w' ⟨rfl, rfl⟩) | (go_at_call 152; go_fit (B _); rintro e w' ⟨rfl, rfl⟩) | (go_at_call 154; go_fit (G _); rintro e w' ⟨rfl, rfl⟩) | (go_at_call 157; go_fit (E _); rintro e w' ⟨rfl, rfl⟩) | fail)
  refine bodyPost_ret (v := .tuple #[rtokV 5 (s.extract i (i + 1)) 0, .int .i64 (i + 1), .int .i64 0]) (by rw [results_cell3 rfl]; go_simp; (try rfl)) rfl ?_
  refine And.intro rfl ?_
  repeat' (first | with_reducible exact hb1 | with_reducible refine Below.setCell ?_ ?_ _ | exact Nat.le_refl _)
end Go.Proofs.YtljgkfdnmikpfaaGreatDoor
/- The document's own token (sizarref1.one): symbols; none. -/
namespace Go.Proofs.YtljgkfdnmikpfaaGreatDoor
open Go.RowKit
set_option linter.unusedVariables false
set_option maxRecDepth 100000

/-- None of the bytes that are told one by one. -/
def restB (c : UInt8) : Bool := !(smallB c) && !(greatB c) && !(digitB c) && ![39, 59, 33, 91, 123, 40, 41, 93, 125, 44, 124].contains c
theorem sym_rest : ∀ c, (!(symB c) || restB c) = true := u8_all (g := fun _ => true) (by decide +kernel)
theorem rest_ne {c : UInt8} (h : restB c = true) (n : UInt8) (hn : n ∈ [39, 59, 33, 91, 123, 40, 41, 93, 125, 44, 124]) : ((c.toNat : Int) == (n.toNat : Int)) = false := by
  apply beq_false_of_ne
  intro e
  obtain rfl := i64_u8 e
  unfold restB at h
  rw [List.contains_iff_mem.2 hn] at h
  simp at h
set_option maxHeartbeats 1000000 in
theorem rone_sym (s : ByteArray) (i : Nat) (w : World) (hi : i < s.size) (hs : s.size ≤ 140737488351232) (hr : restB s[i] = true) (hE : endK (bl s) i = false) (hy : symB s[i] = true) {T : Nat} (hT : i + symK (bl s) i = T) (h64 : (T : Int) - i ≤ 64) :
    Calls Tryz.prog 114 #[.string s, .int .i64 i] w fun e w' => e = roneV 1 (s.extract i T) 0 T 0 ∧ Below w.heap.size w w' := by
  obtain ⟨c, hc⟩ : ∃ c, s[i] = c := ⟨_, rfl⟩
  have hc' : ∀ h, s[i]'h = c := fun _ => hc
  have E := fun w => rends_any s i w (by omega) hs
  rw [hE] at E
  have hTs : T ≤ s.size := by
    have := sym_le ((bl s).drop i)
    rw [List.length_drop] at this
    have h2 : symK (bl s) i = symRun ((bl s).drop i) := rfl
    rw [bl_len] at this
    omega
  have hiT : i ≤ T := by omega
  have HT := Lib.hid hT
  rw [hc] at hr hy
  have h3 : smallB c = false ∧ greatB c = false ∧ digitB c = false := by
    unfold restB at hr
    cases h1 : smallB c <;> cases h2 : greatB c <;> cases h3 : digitB c <;> simp_all
  have A := fun w => rsmall_any c w
  have B := fun w => rgreat_any c w
  have G := fun w => rdigit_any c w
  have Y := fun w => rsym_any c w
  rw [h3.1] at A
  rw [h3.2.1] at B
  rw [h3.2.2] at G
  rw [hy] at Y
  have t39 : ((c.toNat : Int) == 39) = false := rest_ne hr 39 (by decide)
  have t59 : ((c.toNat : Int) == 59) = false := rest_ne hr 59 (by decide)
  have t33 : ((c.toNat : Int) == 33) = false := rest_ne hr 33 (by decide)
  have t91 : ((c.toNat : Int) == 91) = false := rest_ne hr 91 (by decide)
  have t123 : ((c.toNat : Int) == 123) = false := rest_ne hr 123 (by decide)
  have t40 : ((c.toNat : Int) == 40) = false := rest_ne hr 40 (by decide)
  have t41 : ((c.toNat : Int) == 41) = false := rest_ne hr 41 (by decide)
  have t93 : ((c.toNat : Int) == 93) = false := rest_ne hr 93 (by decide)
  have t125 : ((c.toNat : Int) == 125) = false := rest_ne hr 125 (by decide)
  have t44 : ((c.toNat : Int) == 44) = false := rest_ne hr 44 (by decide)
  have t124 : ((c.toNat : Int) == 124) = false := rest_ne hr 124 (by decide)
  clear h3 hr hc hE
  clear hT hy
  obtain ⟨w1, hw1, hb1, hz1, hx1⟩ := box_new w #[.int .i64 0, .string ⟨#[]⟩, .int .i64 0, .bool false, .int .i64 0] 138
  obtain ⟨r0, r1, r2, r3, r4, rf⟩ := hx1.five
  go_enter Tryz.func114, Tryz.ntmps114
  go_wp2_with fail
  (try rw [hw1])
  clear hw1 hz1 hx1
  go_wp2_with (first | (go_at_call 151; go_fit (A _); rintro e w' ⟨rfl, rfl⟩) | (go_at_call 152; go_fit (B _); rintro e w' ⟨rfl, rfl⟩) | (go_at_call 154; go_fit (G _); rintro e w' ⟨rfl, rfl⟩) | (go_at_call 157; go_fit (E _); rintro e w' ⟨rfl, rfl⟩) | (go_at_call 158; go_fit (Y _); rintro e w' ⟨rfl, rfl⟩) | fail)
  go_loop [8] (fun v => ∃ k : Nat, i ≤ k ∧ k ≤ s.size ∧ v = .int .i64 k ∧ k + symK (bl s) k = T) (fun v => s.size - (intOf v).toNat)
  case atStart => exact ⟨i, Nat.le_refl _, by omega, rfl, HT.out⟩
  case round =>
    obtain ⟨k, hik, hk, rfl, hkT⟩ := hrel
    have HK := Lib.hid hkT
    clear hkT
    by_cases hlt : k < s.size
    · have V := fun w => rsym_any s[k] w
      have F := fun w => rends_any s k w (by omega) hs
      cases hp : symB s[k]
      · have hkT := HK.out
        rw [symK_out (l := bl s) (k := k) hlt hp] at hkT
        obtain rfl : k = T := by omega
        rw [hp] at V
        clear hp HK HT hkT F
        go_wp2_with (first | (go_at_call 158; go_fit (V _); rintro e w' ⟨rfl, rfl⟩) | fail)
        refine bodyPost_ret (v := .tuple #[rtokV 1 (s.extract i k) 0, .int .i64 k, .int .i64 0]) (by rw [results_cell3 rfl]; go_simp; (try rfl)) rfl ?_
        refine And.intro rfl ?_
        repeat' (first | with_reducible exact hb1 | with_reducible refine Below.setCell ?_ ?_ _ | exact Nat.le_refl _)
      · rw [hp] at V
        cases hend : endK (bl s) k
        · have he := symK_in (l := bl s) (k := k) hlt hp hend
          have HE2 := Lib.hid he
          rw [hend] at F
          clear he hp hend
          go_wp2_with (first | (go_at_call 158; go_fit (V _); rintro e w' ⟨rfl, rfl⟩) | (go_at_call 157; go_fit (F _); rintro e w' ⟨rfl, rfl⟩) | fail)
          go_round
          case rel => exact ⟨k + 1, by omega, by omega, by go_num, by have := HK.out; rw [HE2.out] at this; omega⟩
          case measure => simp [intOf]; omega
        · have hkT := HK.out
          rw [symK_stop (l := bl s) (k := k) hlt hend] at hkT
          obtain rfl : k = T := by omega
          rw [hend] at F
          clear hp HK HT hkT hend
          go_wp2_with (first | (go_at_call 158; go_fit (V _); rintro e w' ⟨rfl, rfl⟩) | (go_at_call 157; go_fit (F _); rintro e w' ⟨rfl, rfl⟩) | fail)
          refine bodyPost_ret (v := .tuple #[rtokV 1 (s.extract i k) 0, .int .i64 k, .int .i64 0]) (by rw [results_cell3 rfl]; go_simp; (try rfl)) rfl ?_
          refine And.intro rfl ?_
          repeat' (first | with_reducible exact hb1 | with_reducible refine Below.setCell ?_ ?_ _ | exact Nat.le_refl _)
    · have hkT := HK.out
      rw [symK_end (l := bl s) (k := k) (show s.size ≤ k by omega)] at hkT
      obtain rfl : k = T := by omega
      clear HK HT hkT
      go_wp2_with fail
      refine bodyPost_ret (v := .tuple #[rtokV 1 (s.extract i k) 0, .int .i64 k, .int .i64 0]) (by rw [results_cell3 rfl]; go_simp; (try rfl)) rfl ?_
      refine And.intro rfl ?_
      repeat' (first | with_reducible exact hb1 | with_reducible refine Below.setCell ?_ ?_ _ | exact Nat.le_refl _)
set_option maxHeartbeats 1000000 in
theorem rone_symlong (s : ByteArray) (i : Nat) (w : World) (hi : i < s.size) (hs : s.size ≤ 140737488351232) (hr : restB s[i] = true) (hE : endK (bl s) i = false) (hy : symB s[i] = true) {T : Nat} (hT : i + symK (bl s) i = T) (h64 : 64 < (T : Int) - i) :
    Calls Tryz.prog 114 #[.string s, .int .i64 i] w fun e w' => e = roneV 0 ⟨#[]⟩ 0 0 3 ∧ Below w.heap.size w w' := by
  obtain ⟨c, hc⟩ : ∃ c, s[i] = c := ⟨_, rfl⟩
  have hc' : ∀ h, s[i]'h = c := fun _ => hc
  have E := fun w => rends_any s i w (by omega) hs
  rw [hE] at E
  have hTs : T ≤ s.size := by
    have := sym_le ((bl s).drop i)
    rw [List.length_drop] at this
    have h2 : symK (bl s) i = symRun ((bl s).drop i) := rfl
    rw [bl_len] at this
    omega
  have hiT : i ≤ T := by omega
  have HT := Lib.hid hT
  rw [hc] at hr hy
  have h3 : smallB c = false ∧ greatB c = false ∧ digitB c = false := by
    unfold restB at hr
    cases h1 : smallB c <;> cases h2 : greatB c <;> cases h3 : digitB c <;> simp_all
  have A := fun w => rsmall_any c w
  have B := fun w => rgreat_any c w
  have G := fun w => rdigit_any c w
  have Y := fun w => rsym_any c w
  rw [h3.1] at A
  rw [h3.2.1] at B
  rw [h3.2.2] at G
  rw [hy] at Y
  have t39 : ((c.toNat : Int) == 39) = false := rest_ne hr 39 (by decide)
  have t59 : ((c.toNat : Int) == 59) = false := rest_ne hr 59 (by decide)
  have t33 : ((c.toNat : Int) == 33) = false := rest_ne hr 33 (by decide)
  have t91 : ((c.toNat : Int) == 91) = false := rest_ne hr 91 (by decide)
  have t123 : ((c.toNat : Int) == 123) = false := rest_ne hr 123 (by decide)
  have t40 : ((c.toNat : Int) == 40) = false := rest_ne hr 40 (by decide)
  have t41 : ((c.toNat : Int) == 41) = false := rest_ne hr 41 (by decide)
  have t93 : ((c.toNat : Int) == 93) = false := rest_ne hr 93 (by decide)
  have t125 : ((c.toNat : Int) == 125) = false := rest_ne hr 125 (by decide)
  have t44 : ((c.toNat : Int) == 44) = false := rest_ne hr 44 (by decide)
  have t124 : ((c.toNat : Int) == 124) = false := rest_ne hr 124 (by decide)
  clear h3 hr hc hE
  clear hT hy
  obtain ⟨w1, hw1, hb1, hz1, hx1⟩ := box_new w #[.int .i64 0, .string ⟨#[]⟩, .int .i64 0, .bool false, .int .i64 0] 138
  obtain ⟨r0, r1, r2, r3, r4, rf⟩ := hx1.five
  go_enter Tryz.func114, Tryz.ntmps114
  go_wp2_with fail
  (try rw [hw1])
  clear hw1 hz1 hx1
  go_wp2_with (first | (go_at_call 151; go_fit (A _); rintro e w' ⟨rfl, rfl⟩) | (go_at_call 152; go_fit (B _); rintro e w' ⟨rfl, rfl⟩) | (go_at_call 154; go_fit (G _); rintro e w' ⟨rfl, rfl⟩) | (go_at_call 157; go_fit (E _); rintro e w' ⟨rfl, rfl⟩) | (go_at_call 158; go_fit (Y _); rintro e w' ⟨rfl, rfl⟩) | fail)
  go_loop [8] (fun v => ∃ k : Nat, i ≤ k ∧ k ≤ s.size ∧ v = .int .i64 k ∧ k + symK (bl s) k = T) (fun v => s.size - (intOf v).toNat)
  case atStart => exact ⟨i, Nat.le_refl _, by omega, rfl, HT.out⟩
  case round =>
    obtain ⟨k, hik, hk, rfl, hkT⟩ := hrel
    have HK := Lib.hid hkT
    clear hkT
    by_cases hlt : k < s.size
    · have V := fun w => rsym_any s[k] w
      have F := fun w => rends_any s k w (by omega) hs
      cases hp : symB s[k]
      · have hkT := HK.out
        rw [symK_out (l := bl s) (k := k) hlt hp] at hkT
        obtain rfl : k = T := by omega
        rw [hp] at V
        clear hp HK HT hkT F
        go_wp2_with (first | (go_at_call 158; go_fit (V _); rintro e w' ⟨rfl, rfl⟩) | fail)
        refine bodyPost_ret (v := .tuple #[rtokV 0 ⟨#[]⟩ 0, .int .i64 0, .int .i64 3]) (by rw [results_cell3 rfl]; go_simp; (try rfl)) rfl ?_
        refine And.intro rfl ?_
        repeat' (first | with_reducible exact hb1 | with_reducible refine Below.setCell ?_ ?_ _ | exact Nat.le_refl _)
      · rw [hp] at V
        cases hend : endK (bl s) k
        · have he := symK_in (l := bl s) (k := k) hlt hp hend
          have HE2 := Lib.hid he
          rw [hend] at F
          clear he hp hend
          go_wp2_with (first | (go_at_call 158; go_fit (V _); rintro e w' ⟨rfl, rfl⟩) | (go_at_call 157; go_fit (F _); rintro e w' ⟨rfl, rfl⟩) | fail)
          go_round
          case rel => exact ⟨k + 1, by omega, by omega, by go_num, by have := HK.out; rw [HE2.out] at this; omega⟩
          case measure => simp [intOf]; omega
        · have hkT := HK.out
          rw [symK_stop (l := bl s) (k := k) hlt hend] at hkT
          obtain rfl : k = T := by omega
          rw [hend] at F
          clear hp HK HT hkT hend
          go_wp2_with (first | (go_at_call 158; go_fit (V _); rintro e w' ⟨rfl, rfl⟩) | (go_at_call 157; go_fit (F _); rintro e w' ⟨rfl, rfl⟩) | fail)
          refine bodyPost_ret (v := .tuple #[rtokV 0 ⟨#[]⟩ 0, .int .i64 0, .int .i64 3]) (by rw [results_cell3 rfl]; go_simp; (try rfl)) rfl ?_
          refine And.intro rfl ?_
          repeat' (first | with_reducible exact hb1 | with_reducible refine Below.setCell ?_ ?_ _ | exact Nat.le_refl _)
    · have hkT := HK.out
      rw [symK_end (l := bl s) (k := k) (show s.size ≤ k by omega)] at hkT
      obtain rfl : k = T := by omega
      clear HK HT hkT
      go_wp2_with fail
      refine bodyPost_ret (v := .tuple #[rtokV 0 ⟨#[]⟩ 0, .int .i64 0, .int .i64 3]) (by rw [results_cell3 rfl]; go_simp; (try rfl)) rfl ?_
      refine And.intro rfl ?_
      repeat' (first | with_reducible exact hb1 | with_reducible refine Below.setCell ?_ ?_ _ | exact Nat.le_refl _)
set_option maxHeartbeats 1000000 in
theorem rone_none (s : ByteArray) (i : Nat) (w : World) (hi : i < s.size) (hs : s.size ≤ 140737488351232) (hr : restB s[i] = true) (hE : endK (bl s) i = false) (hy : symB s[i] = false) :
    Calls Tryz.prog 114 #[.string s, .int .i64 i] w fun e w' => e = roneV 0 ⟨#[]⟩ 0 0 2 ∧ Below w.heap.size w w' := by
  obtain ⟨c, hc⟩ : ∃ c, s[i] = c := ⟨_, rfl⟩
  have hc' : ∀ h, s[i]'h = c := fun _ => hc
  have E := fun w => rends_any s i w (by omega) hs
  rw [hE] at E
  rw [hc] at hr hy
  have h3 : smallB c = false ∧ greatB c = false ∧ digitB c = false := by
    unfold restB at hr
    cases h1 : smallB c <;> cases h2 : greatB c <;> cases h3 : digitB c <;> simp_all
  have A := fun w => rsmall_any c w
  have B := fun w => rgreat_any c w
  have G := fun w => rdigit_any c w
  have Y := fun w => rsym_any c w
  rw [h3.1] at A
  rw [h3.2.1] at B
  rw [h3.2.2] at G
  rw [hy] at Y
  have t39 : ((c.toNat : Int) == 39) = false := rest_ne hr 39 (by decide)
  have t59 : ((c.toNat : Int) == 59) = false := rest_ne hr 59 (by decide)
  have t33 : ((c.toNat : Int) == 33) = false := rest_ne hr 33 (by decide)
  have t91 : ((c.toNat : Int) == 91) = false := rest_ne hr 91 (by decide)
  have t123 : ((c.toNat : Int) == 123) = false := rest_ne hr 123 (by decide)
  have t40 : ((c.toNat : Int) == 40) = false := rest_ne hr 40 (by decide)
  have t41 : ((c.toNat : Int) == 41) = false := rest_ne hr 41 (by decide)
  have t93 : ((c.toNat : Int) == 93) = false := rest_ne hr 93 (by decide)
  have t125 : ((c.toNat : Int) == 125) = false := rest_ne hr 125 (by decide)
  have t44 : ((c.toNat : Int) == 44) = false := rest_ne hr 44 (by decide)
  have t124 : ((c.toNat : Int) == 124) = false := rest_ne hr 124 (by decide)
  clear h3 hr hc hE
  clear hy
  obtain ⟨w1, hw1, hb1, hz1, hx1⟩ := box_new w #[.int .i64 0, .string ⟨#[]⟩, .int .i64 0, .bool false, .int .i64 0] 138
  obtain ⟨r0, r1, r2, r3, r4, rf⟩ := hx1.five
  go_enter Tryz.func114, Tryz.ntmps114
  go_wp2_with fail
  (try rw [hw1])
  clear hw1 hz1 hx1
  go_wp2_with (first | (go_at_call 151; go_fit (A _); rintro e w' ⟨rfl, rfl⟩) | (go_at_call 152; go_fit (B _); rintro e w' ⟨rfl, rfl⟩) | (go_at_call 154; go_fit (G _); rintro e w' ⟨rfl, rfl⟩) | (go_at_call 157; go_fit (E _); rintro e w' ⟨rfl, rfl⟩) | (go_at_call 158; go_fit (Y _); rintro e w' ⟨rfl, rfl⟩) | fail)
  refine bodyPost_ret (v := .tuple #[rtokV 0 ⟨#[]⟩ 0, .int .i64 0, .int .i64 2]) (by rw [results_cell3 rfl]; go_simp; (try rfl)) rfl ?_
  refine And.intro rfl ?_
  repeat' (first | with_reducible exact hb1 | with_reducible refine Below.setCell ?_ ?_ _ | exact Nat.le_refl _)
end Go.Proofs.YtljgkfdnmikpfaaGreatDoor
/- The document's own token (sizarref1.quoted): a quoted name. -/
namespace Go.Proofs.YtljgkfdnmikpfaaGreatDoor
open Go.RowKit
set_option linter.unusedVariables false
set_option maxRecDepth 100000

def rquoV (i : Nat) : Option (List UInt8 × Nat) → Ending
  | none => roneV 0 ⟨#[]⟩ 0 0 2
  | some p => if p.1.length ≤ 64 then roneV 2 ⟨p.1.toArray⟩ 0 ((i + 1 + p.2 : Nat) : Int) 0 else roneV 0 ⟨#[]⟩ 0 0 3
theorem rquoV_ok {i n : Nat} {l : List UInt8} (h : l.length ≤ 64) : rquoV i (some (l, n)) = roneV 2 ⟨l.toArray⟩ 0 ((i + 1 + n : Nat) : Int) 0 := by
  show (if l.length ≤ 64 then _ else _) = _
  rw [if_pos h]
theorem rquoV_long {i n : Nat} {l : List UInt8} (h : ¬ l.length ≤ 64) : rquoV i (some (l, n)) = roneV 0 ⟨#[]⟩ 0 0 3 := by
  show (if l.length ≤ 64 then _ else _) = _
  rw [if_neg h]
theorem esc_num {d e : UInt8} (h : escB d = some e) : ((d.toNat : Int) = 110 ∧ e = 10) ∨ ((d.toNat : Int) = 116 ∧ e = 9) ∨ ((d.toNat : Int) = 92 ∧ e = 92) ∨ ((d.toNat : Int) = 39 ∧ e = 39) := by
  unfold escB at h
  split at h
  · rename_i hc; cases h; exact Or.inl ⟨by rw [eq_of_beq hc]; rfl, rfl⟩
  split at h
  · rename_i hc; cases h; exact Or.inr (Or.inl ⟨by rw [eq_of_beq hc]; rfl, rfl⟩)
  split at h
  · rename_i hc; cases h; exact Or.inr (Or.inr (Or.inl ⟨by rw [eq_of_beq hc]; rfl, rfl⟩))
  split at h
  · rename_i hc; cases h; exact Or.inr (Or.inr (Or.inr ⟨by rw [eq_of_beq hc]; rfl, rfl⟩))
  · cases h
theorem esc_no {d : UInt8} (h : escB d = none) : ((d.toNat : Int) == 110) = false ∧ ((d.toNat : Int) == 116) = false ∧ ((d.toNat : Int) == 92) = false ∧ ((d.toNat : Int) == 39) = false := by
  unfold escB at h
  have ne : ∀ n : UInt8, (d == n) = false → ((d.toNat : Int) == (n.toNat : Int)) = false := fun n hn => beq_false_of_ne fun e => by rw [i64_u8 e] at hn; simp at hn
  split at h
  · cases h
  rename_i h1
  split at h
  · cases h
  rename_i h2
  split at h
  · cases h
  rename_i h3
  split at h
  · cases h
  rename_i h4
  exact ⟨ne 110 (by simpa using h1), ne 116 (by simpa using h2), ne 92 (by simpa using h3), ne 39 (by simpa using h4)⟩
theorem ext_one (s : ByteArray) (k : Nat) (h : k < s.size) : bl (s.extract k (k + 1)) = [s[k]] := by
  rw [← take_ext s k 1]
  show (bl s |>.drop k).take 1 = [s[k]]
  rw [drop_at (l := bl s) h]
  rfl
theorem bl_app (a b : ByteArray) : bl (a ++ b) = bl a ++ bl b := by simp [bl]
set_option maxHeartbeats 4000000 in
theorem rquo_any (s : ByteArray) (i : Nat) (w : World) (hi : i < s.size) (hs : s.size ≤ 140737488351232) : Calls Tryz.prog 156 #[.string s, .int .i64 i] w fun e w' => e = rquoV i (quoB ((bl s).drop (i + 1))) ∧ Below w.heap.size w w' := by
  obtain ⟨X, hX⟩ : ∃ X, quoB ((bl s).drop (i + 1)) = X := ⟨_, rfl⟩
  rw [hX]
  have HX := Lib.hid hX
  clear hX
  obtain ⟨w1, hw1, hb1, hz1, hx1⟩ := box_new w #[.int .i64 0, .string ⟨#[]⟩, .int .i64 0, .bool false, .int .i64 0] 138
  obtain ⟨r0, r1, r2, r3, r4, rf⟩ := hx1.five
  go_enter Tryz.func156, Tryz.ntmps156
  go_wp2_with fail
  (try rw [hw1])
  clear hw1 hz1 hx1
  go_wp2_with fail
  go_loop [7, 8] (fun o v => ∃ (k : Nat) (t : ByteArray), i + 1 ≤ k ∧ k ≤ s.size ∧ v = .int .i64 k ∧ o = .string t ∧ t.size ≤ k ∧
      Hid (X = (quoB ((bl s).drop k)).map fun p => (bl t ++ p.1, k - (i + 1) + p.2))) (fun _ v => s.size - (intOf v).toNat)
  case atStart => exact ⟨i + 1, ⟨#[]⟩, Nat.le_refl _, by omega, by go_num, rfl, Nat.zero_le _, Lib.hid (by
    rw [HX.out]
    cases X with
    | none => rfl
    | some p => show some p = some ([] ++ p.1, i + 1 - (i + 1) + p.2); rw [Nat.sub_self, Nat.zero_add]; rfl)⟩
  case round =>
    obtain ⟨k, t, hik, hk, rfl, rfl, htk, HQ⟩ := hrel
    by_cases hlt : k < s.size
    · obtain ⟨c, hc⟩ : ∃ c, s[k] = c := ⟨_, rfl⟩
      have hc' : ∀ h, s[k]'h = c := fun _ => hc
      have hv : ((bl s)[k]'hlt) = c := hc
      have ha1 : ¬ 9223372036854775807 < t.size + 1 := by omega
      have ha2 : ¬ 9223372036854775807 < 1 + t.size := by omega
      have hx1 := ext_one s k hlt
      have hxs : (s.extract k (k + 1)).size = 1 := by simp; omega
      rw [hc] at hx1
      cases hq : (c == 39)
      · have gq : ((c.toNat : Int) == 39) = false := beq_false_of_ne fun e => by rw [show c = 39 from i64_u8 e] at hq; exact absurd hq (by decide)
        cases hb : (c == 92)
        · have gc : ((c.toNat : Int) == 92) = false := beq_false_of_ne fun e => by rw [show c = 92 from i64_u8 e] at hb; exact absurd hb (by decide)
          have hsh := shown_eq c
          cases hl : decide (32 ≤ (c.toNat : Int))
          · have hl' : (c.toNat : Int) < 32 := by simpa using hl
            rw [hl, Bool.false_and] at hsh
            have he := quo_ill (l := bl s) (i := k) hlt (by rw [hv]; exact hq) (by rw [hv]; exact hb) (by rw [hv]; exact hsh)
            have hxn : X = none := by rw [HQ.out, he]; rfl
            subst hxn
            clear HX HQ he hq hb hsh hl hv hx1 hc
            go_wp2
            refine bodyPost_ret (v := .tuple #[rtokV 0 ⟨#[]⟩ 0, .int .i64 0, .int .i64 2]) (by rw [results_cell3 rfl]; go_simp; (try rfl)) rfl ?_
            refine And.intro rfl ?_
            repeat' (first | with_reducible exact hb1 | with_reducible refine Below.setCell ?_ ?_ _ | exact Nat.le_refl _)
          · have hl' : 32 ≤ (c.toNat : Int) := by simpa using hl
            rw [hl, Bool.true_and] at hsh
            cases hm : decide ((c.toNat : Int) ≤ 126)
            · have hm' : 126 < (c.toNat : Int) := by simpa using hm
              rw [hm] at hsh
              have he := quo_ill (l := bl s) (i := k) hlt (by rw [hv]; exact hq) (by rw [hv]; exact hb) (by rw [hv]; exact hsh)
              have hxn : X = none := by rw [HQ.out, he]; rfl
              subst hxn
              clear HX HQ he hq hb hsh hl hm hv hx1 hc
              go_wp2
              refine bodyPost_ret (v := .tuple #[rtokV 0 ⟨#[]⟩ 0, .int .i64 0, .int .i64 2]) (by rw [results_cell3 rfl]; go_simp; (try rfl)) rfl ?_
              refine And.intro rfl ?_
              repeat' (first | with_reducible exact hb1 | with_reducible refine Below.setCell ?_ ?_ _ | exact Nat.le_refl _)
            · have hm' : (c.toNat : Int) ≤ 126 := by simpa using hm
              rw [hm] at hsh
              have he := quo_plain (l := bl s) (i := k) hlt (by rw [hv]; exact hq) (by rw [hv]; exact hb) (by rw [hv]; exact hsh)
              rw [hv] at he
              have HN : Hid (X = (quoB ((bl s).drop (k + 1))).map fun p => (bl (t ++ s.extract k (k + 1)) ++ p.1, k + 1 - (i + 1) + p.2)) := Lib.hid (by
                rw [HQ.out, he, bl_app, hx1]
                cases quoB ((bl s).drop (k + 1)) with
                | none => rfl
                | some p => simp; omega)
              have hzz : (t ++ s.extract k (k + 1)).size ≤ k + 1 := by rw [ByteArray.size_append, hxs]; omega
              obtain ⟨t', ht'⟩ : ∃ t', t ++ s.extract k (k + 1) = t' := ⟨_, rfl⟩
              rw [ht'] at HN hzz
              have HT' := Lib.hid ht'
              have ha3 : ¬ 9223372036854775807 < t.size + (s.extract k (k + 1)).size := by rw [hxs]; omega
              clear HX HQ he hq hb hsh hl hm hv hx1 hc ht' hxs
              go_wp2
              go_round
              case rel => exact ⟨k + 1, t', by omega, by omega, by go_num, by rw [← HT'.out], hzz, HN⟩
              case measure => simp [intOf]; omega
        · obtain rfl : c = 92 := eq_of_beq hb
          have hl' : k + 1 < s.size ∨ s.size ≤ k + 1 := by omega
          rcases hl' with hl' | hl'
          · obtain ⟨d, hd⟩ : ∃ d, s[k + 1] = d := ⟨_, rfl⟩
            have hd' : ∀ h, s[k + 1]'h = d := fun _ => hd
            have hdr : (bl s).drop (k + 1) = d :: (bl s).drop (k + 2) := by rw [drop_at (l := bl s) hl', bl_get s _ hl', hd]
            have hx2 := ext_one s (k + 1) hl'
            rw [hd] at hx2
            have hxs2 : (s.extract (k + 1) (k + 1 + 1)).size = 1 := by simp; omega
            cases hes : escB d with
            | none =>
              obtain ⟨g1, g2, g3, g4⟩ := esc_no hes
              have he := quo_wrong (l := bl s) (i := k) hlt (by rw [hv]; rfl) (by rw [hv]; rfl) (by rw [hdr]; exact hes)
              have hxn : X = none := by rw [HQ.out, he]; rfl
              subst hxn
              clear HX HQ he hq hb hv hx1 hc hes hx2 hd hdr hxs2
              go_wp2
              refine bodyPost_ret (v := .tuple #[rtokV 0 ⟨#[]⟩ 0, .int .i64 0, .int .i64 2]) (by rw [results_cell3 rfl]; go_simp; (try rfl)) rfl ?_
              refine And.intro rfl ?_
              repeat' (first | with_reducible exact hb1 | with_reducible refine Below.setCell ?_ ?_ _ | exact Nat.le_refl _)
            | some e =>
              obtain ⟨hk2, he⟩ := quo_esc (l := bl s) (i := k) hlt (by rw [hv]; rfl) (by rw [hv]; rfl) (by rw [hdr]; exact hes)
              have HN : ∀ q : ByteArray, bl q = [e] → Hid (X = (quoB ((bl s).drop (k + 2))).map fun p => (bl (t ++ q) ++ p.1, k + 2 - (i + 1) + p.2)) := fun q hq1 => Lib.hid (by
                rw [HQ.out, he, bl_app, hq1]
                cases quoB ((bl s).drop (k + 2)) with
                | none => rfl
                | some p => simp; omega)
              have HX2 := Lib.hid hx2
              have hk2' : k + 2 ≤ s.size := by omega
              have ha3 : ¬ 9223372036854775807 < t.size + (s.extract (k + 1) (k + 1 + 1)).size := by rw [hxs2]; omega
              have hes' := esc_num hes
              clear HX HQ he hq hb hv hx1 hc hx2 hes hd hdr hk2
              rcases hes' with ⟨g, rfl⟩ | ⟨g, rfl⟩ | ⟨g, rfl⟩ | ⟨g, rfl⟩
              · obtain ⟨t', ht'⟩ : ∃ t', t ++ (⟨#[10]⟩ : ByteArray) = t' := ⟨_, rfl⟩
                have HN1 := HN ⟨#[10]⟩ rfl
                rw [ht'] at HN1
                have hzz : t'.size ≤ k + 2 := by rw [← ht', ByteArray.size_append]; show t.size + 1 ≤ _; omega
                have HT' := Lib.hid ht'
                clear ht' HN
                go_wp2
                go_round
                case rel => exact ⟨k + 2, t', by omega, by omega, by go_num, by rw [← HT'.out], hzz, HN1⟩
                case measure => simp [intOf]; omega
              · obtain ⟨t', ht'⟩ : ∃ t', t ++ (⟨#[9]⟩ : ByteArray) = t' := ⟨_, rfl⟩
                have HN1 := HN ⟨#[9]⟩ rfl
                rw [ht'] at HN1
                have hzz : t'.size ≤ k + 2 := by rw [← ht', ByteArray.size_append]; show t.size + 1 ≤ _; omega
                have HT' := Lib.hid ht'
                clear ht' HN
                go_wp2
                go_round
                case rel => exact ⟨k + 2, t', by omega, by omega, by go_num, by rw [← HT'.out], hzz, HN1⟩
                case measure => simp [intOf]; omega
              · obtain ⟨t', ht'⟩ : ∃ t', t ++ s.extract (k + 1) (k + 1 + 1) = t' := ⟨_, rfl⟩
                have HN1 := HN (s.extract (k + 1) (k + 1 + 1)) (by rw [HX2.out, show d = 92 from i64_u8 g])
                rw [ht'] at HN1
                have hzz : t'.size ≤ k + 2 := by rw [← ht', ByteArray.size_append, hxs2]; omega
                have HT' := Lib.hid ht'
                clear ht' HN hxs2
                go_wp2
                go_round
                case rel => exact ⟨k + 2, t', by omega, by omega, by go_num, by rw [← HT'.out], hzz, HN1⟩
                case measure => simp [intOf]; omega
              · obtain ⟨t', ht'⟩ : ∃ t', t ++ s.extract (k + 1) (k + 1 + 1) = t' := ⟨_, rfl⟩
                have HN1 := HN (s.extract (k + 1) (k + 1 + 1)) (by rw [HX2.out, show d = 39 from i64_u8 g])
                rw [ht'] at HN1
                have hzz : t'.size ≤ k + 2 := by rw [← ht', ByteArray.size_append, hxs2]; omega
                have HT' := Lib.hid ht'
                clear ht' HN hxs2
                go_wp2
                go_round
                case rel => exact ⟨k + 2, t', by omega, by omega, by go_num, by rw [← HT'.out], hzz, HN1⟩
                case measure => simp [intOf]; omega
          · have hdr : (bl s).drop (k + 1) = [] := List.drop_eq_nil_of_le (by rw [bl_len]; omega)
            have he := quo_wrong (l := bl s) (i := k) hlt (by rw [hv]; rfl) (by rw [hv]; rfl) (by rw [hdr]; rfl)
            have hxn : X = none := by rw [HQ.out, he]; rfl
            subst hxn
            clear HX HQ he hq hb hv hx1 hc hdr
            go_wp2
            refine bodyPost_ret (v := .tuple #[rtokV 0 ⟨#[]⟩ 0, .int .i64 0, .int .i64 2]) (by rw [results_cell3 rfl]; go_simp; (try rfl)) rfl ?_
            refine And.intro rfl ?_
            repeat' (first | with_reducible exact hb1 | with_reducible refine Below.setCell ?_ ?_ _ | exact Nat.le_refl _)
      · obtain rfl : c = 39 := eq_of_beq hq
        have hpf : Lib.hasPrefix ((bl s).drop k) [39, 39] = ((bl s)[k + 1]? == some 39) := by
          rw [drop_at (l := bl s) hlt, hv]
          unfold Lib.hasPrefix
          cases hdd : (bl s).drop (k + 1) with
          | nil => rw [List.getElem?_eq_none (by have := List.drop_eq_nil_iff.1 hdd; omega)]; rfl
          | cons x r =>
            have : (bl s)[k + 1]? = some x := by
              have h0 := congrArg List.head? hdd
              rw [List.head?_drop] at h0
              exact h0
            rw [this]
            simp only [List.isPrefixOf, Bool.and_true]
            rw [Bool.eq_iff_iff]
            simp only [Bool.and_eq_true, beq_iff_eq, Option.some.injEq]
            exact ⟨fun h => h.2.symm, fun h => ⟨by first | rfl | trivial, h.symm⟩⟩
        by_cases htwo : (bl s)[k + 1]? = some 39
        · have hl' : k + 1 < s.size := (List.getElem?_eq_some_iff.1 htwo).1
          have hd : s[k + 1] = 39 := (List.getElem?_eq_some_iff.1 htwo).2
          have hd' : ∀ h, s[k + 1]'h = 39 := fun _ => hd
          obtain ⟨hk2, he⟩ := quo_two (l := bl s) (i := k) hlt (by rw [hv]; rfl) (by rw [hpf, htwo]; rfl)
          obtain ⟨t', ht'⟩ : ∃ t', t ++ (⟨#[39]⟩ : ByteArray) = t' := ⟨_, rfl⟩
          have HN : Hid (X = (quoB ((bl s).drop (k + 2))).map fun p => (bl t' ++ p.1, k + 2 - (i + 1) + p.2)) := Lib.hid (by
            rw [HQ.out, he, ← ht', bl_app, show bl (⟨#[39]⟩ : ByteArray) = [39] from rfl]
            cases quoB ((bl s).drop (k + 2)) with
            | none => rfl
            | some p => simp; omega)
          have hzz : t'.size ≤ k + 2 := by rw [← ht', ByteArray.size_append]; show t.size + 1 ≤ _; omega
          have HT' := Lib.hid ht'
          clear HX HQ he hq hv hx1 hc ht' hpf htwo hd hk2
          go_wp2
          go_round
          case rel => exact ⟨k + 2, t', by omega, by omega, by go_num, by rw [← HT'.out], hzz, HN⟩
          case measure => simp [intOf]; omega
        · have he := quo_shut (l := bl s) (i := k) hlt (by rw [hv]; rfl) (by rw [hpf]; exact beq_false_of_ne htwo)
          have hxn : X = some (bl t, k - (i + 1) + 1) := by rw [HQ.out, he]; simp
          have hbt : (bl t).length = t.size := bl_len t
          have hin : i + 1 + (k - (i + 1) + 1) = k + 1 := by omega
          have hlast : s.size ≤ k + 1 ∨ ∃ d, (∃ h : k + 1 < s.size, True) ∧ (∀ h, s[k + 1]'h = d) ∧ ((d.toNat : Int) == 39) = false := by
            by_cases hl' : k + 1 < s.size
            · refine Or.inr ⟨s[k + 1], ⟨hl', trivial⟩, fun _ => rfl, beq_false_of_ne fun e => htwo ?_⟩
              rw [List.getElem?_eq_getElem (l := bl s) hl']
              exact congrArg some (i64_u8 e)
            · exact Or.inl (by omega)
          subst hxn
          have HBT := Lib.hid hbt
          have HIN := Lib.hid hin
          clear HX HQ he hq hv hx1 hc hpf htwo hxs hbt hin
          by_cases h64 : t.size ≤ 64
          · rcases hlast with hl | ⟨d, ⟨hl, _⟩, hd', hd⟩
            · go_wp2
              refine bodyPost_ret (v := .tuple #[rtokV 2 t 0, .int .i64 ((k + 1 : Nat) : Int), .int .i64 0]) (by rw [results_cell3 rfl]; go_simp; (try rfl)) rfl ?_
              refine And.intro (by
                rw [rquoV_ok (by rw [HBT.out]; exact h64), HIN.out]) ?_
              repeat' (first | with_reducible exact hb1 | with_reducible refine Below.setCell ?_ ?_ _ | exact Nat.le_refl _)
            · go_wp2
              refine bodyPost_ret (v := .tuple #[rtokV 2 t 0, .int .i64 ((k + 1 : Nat) : Int), .int .i64 0]) (by rw [results_cell3 rfl]; go_simp; (try rfl)) rfl ?_
              refine And.intro (by
                rw [rquoV_ok (by rw [HBT.out]; exact h64), HIN.out]) ?_
              repeat' (first | with_reducible exact hb1 | with_reducible refine Below.setCell ?_ ?_ _ | exact Nat.le_refl _)
          · rcases hlast with hl | ⟨d, ⟨hl, _⟩, hd', hd⟩
            · go_wp2
              refine bodyPost_ret (v := .tuple #[rtokV 0 ⟨#[]⟩ 0, .int .i64 0, .int .i64 3]) (by rw [results_cell3 rfl]; go_simp; (try rfl)) rfl ?_
              refine And.intro (by
                rw [rquoV_long (by rw [HBT.out]; exact h64)]) ?_
              repeat' (first | with_reducible exact hb1 | with_reducible refine Below.setCell ?_ ?_ _ | exact Nat.le_refl _)
            · go_wp2
              refine bodyPost_ret (v := .tuple #[rtokV 0 ⟨#[]⟩ 0, .int .i64 0, .int .i64 3]) (by rw [results_cell3 rfl]; go_simp; (try rfl)) rfl ?_
              refine And.intro (by
                rw [rquoV_long (by rw [HBT.out]; exact h64)]) ?_
              repeat' (first | with_reducible exact hb1 | with_reducible refine Below.setCell ?_ ?_ _ | exact Nat.le_refl _)
    · have he := quo_end (l := bl s) (i := k) (show s.size ≤ k by omega)
      have hxn : X = none := by rw [HQ.out, he]; rfl
      subst hxn
      clear HX HQ he
      go_wp2
      refine bodyPost_ret (v := .tuple #[rtokV 0 ⟨#[]⟩ 0, .int .i64 0, .int .i64 2]) (by rw [results_cell3 rfl]; go_simp; (try rfl)) rfl ?_
      refine And.intro rfl ?_
      repeat' (first | with_reducible exact hb1 | with_reducible refine Below.setCell ?_ ?_ _ | exact Nat.le_refl _)
end Go.Proofs.YtljgkfdnmikpfaaGreatDoor
