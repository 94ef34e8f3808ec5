import Derived.Test.YtljgkfdnmikpfaaGreatDoorHoqaq
import Derived.Deep.CutBlock
import Derived.Laws.StructEq
import Derived.Test.YtljgkfdnmikpfaaGreatDoorHoqaa
import Derived.Test.YtljgkfdnmikpfaaGreatDoorHoqao
set_option linter.unusedVariables false
set_option linter.unusedSimpArgs false
/- The document's own Quote at names of one letter: Cut, Plain, Quote. -/
namespace Go.Proofs.YtljgkfdnmikpfaaGreatDoor
open Go.Shelf Go.RowKit
set_option linter.unusedVariables false
set_option maxRecDepth 100000

theorem infoTokR : (Tryz.prog.info? 138).map (fun i => (i.zero, i.size, i.bytes)) = some (some (.agg #[.int .i64 0, .string ⟨#[]⟩, .int .i64 0, .bool false, .int .i64 0]), 5, 48) := by kernel_rfl
set_option maxHeartbeats 600000 in
theorem one_97 (w : World) : Calls Tryz.prog 114 #[.string ⟨#[97]⟩, .int .i64 0] w fun e w' => e = .returned (.tuple #[.agg #[.int .i64 1, .string ⟨#[97]⟩, .int .i64 0, .bool false, .int .i64 0], .int .i64 1, .int .i64 0]) ∧ Below w.heap.size w w' := by
  obtain ⟨w1, hw1, hb1, hz1, hx1⟩ := box_new w #[.int .i64 0, .string ⟨#[]⟩, .int .i64 0, .bool false, .int .i64 0] 138
  obtain ⟨r0, r1, r2, r3, r4, rf⟩ := hx1.five
  have hidx : (((⟨#[97]⟩ : ByteArray)[0]'(by decide)).toNat : Int) = 97 := rfl
  go_enter Tryz.func114, Tryz.ntmps114
  go_wp2_with fail
  (try rw [hw1])
  clear hw1 hz1 hx1
  go_wp2_with (first | (go_at_call 151; refine (small_97 _).mono ?_; rintro e w' ⟨rfl, rfl⟩) | (go_at_call 152; refine (great_97 _).mono ?_; rintro e w' ⟨rfl, rfl⟩) | (go_at_call 153; refine (word_97 _).mono ?_; rintro e w' ⟨rfl, rfl⟩) | fail)
  refine wp_loop_rounds 2 ?_
  rw [rounds_succ]
  go_wp2_with (first | (go_at_call 151; refine (small_97 _).mono ?_; rintro e w' ⟨rfl, rfl⟩) | (go_at_call 152; refine (great_97 _).mono ?_; rintro e w' ⟨rfl, rfl⟩) | (go_at_call 153; refine (word_97 _).mono ?_; rintro e w' ⟨rfl, rfl⟩) | fail)
  rw [rounds_succ]
  go_wp2_with (first | (go_at_call 151; refine (small_97 _).mono ?_; rintro e w' ⟨rfl, rfl⟩) | (go_at_call 152; refine (great_97 _).mono ?_; rintro e w' ⟨rfl, rfl⟩) | (go_at_call 153; refine (word_97 _).mono ?_; rintro e w' ⟨rfl, rfl⟩) | fail)
  refine bodyPost_ret (v := .tuple #[.agg #[.int .i64 1, .string ⟨#[97]⟩, .int .i64 0, .bool false, .int .i64 0], .int .i64 1, .int .i64 0]) (by rw [results_cell3 rfl]; go_simp; (try rfl)) rfl ?_
  refine And.intro rfl ?_
  repeat' (first | with_reducible exact hb1 | with_reducible refine Below.setCell ?_ ?_ _ | exact Nat.le_refl _)
set_option maxHeartbeats 1000000 in
theorem cut_97 (w : World) : Calls Tryz.prog 77 #[.string ⟨#[97]⟩] w fun e w' => ∃ ao cv, e = .returned (.tuple #[.slice ao 1 cv, .int .i64 1, .int .i64 0]) ∧ Toks w' (.slice ao 1 cv) [(⟨1, [97], 0, 1, false⟩, 0)] ∧ Below w.heap.size w w' := by
  obtain ⟨i0, hi0, hz0, hs0, hb0⟩ := info_parts infoTokR
  have HO := Lib.hid (one_97 w)
  have hidx : (((⟨#[97]⟩ : ByteArray)[0]'(by decide)).toNat : Int) = 97 := rfl
  go_enter Tryz.func77, Tryz.ntmps77
  go_wp2_with fail
  refine wp_loop_rounds 2 ?_
  rw [rounds_succ]
  go_wp2_with (first | (go_at_call 113; refine (blank_97 _).mono ?_; rintro e w' ⟨rfl, rfl⟩) | fail)
  (go_wp2_with fail; go_fit (HO.out); rintro e w2 ⟨rfl, hb2⟩)
  obtain ⟨w3, hw3, hb3, hz3, hx3⟩ := box_new w2 #[.int .i64 1, .string ⟨#[97]⟩, .int .i64 0, .bool false, .int .i64 0] 138
  have HB3 := Lib.hid (Ext.trans' hb2 hb3)
  have hsz3 := HB3.out.size
  obtain ⟨r0, r1, r2, r3, r4, rf⟩ := hx3.five
  have HX3 := Lib.hid hx3
  have hwz : w.heap.size ≤ w2.heap.size := hb2.size
  have HW3 := Lib.hid hw3
  clear hb2 hb3 hz3 hx3 hw3
  go_upto_region 18 with fail
  rw [HW3.out]
  go_wp2_with (at_builtin; refine wpList_append_k rfl _ _ 130 rfl w.heap.size 138 i0 (.agg #[.int .i64 0, .string ⟨#[]⟩, .int .i64 0, .bool false, .int .i64 0]) 5 48 Tryz.underlying130 hi0 hz0 hs0 (by decide) hb0 rfl (.slice none 0 0) 0 [] rfl (World.ownsRow_nil _ _ _ _) (some ⟨w3.heap.size, 0, none⟩) 1 1 [.int .i64 1, .string ⟨#[97]⟩, .int .i64 0, .bool false, .int .i64 0] rfl rfl (Or.inr ⟨_, rfl, fun j u hu => cell_new w3 #[.int .i64 1, .string ⟨#[97]⟩, .int .i64 0, .bool false, .int .i64 0] _ j u hu⟩) (by simp [Value.oneCell']) (by unfold maxLen; omega) (by omega) (by simp; omega) 1 [.int .i64 1, .string ⟨#[97]⟩, .int .i64 0, .bool false, .int .i64 0] rfl rfl ?_; intro a7 c7 w7 hown7 hgrow7 hat7)
  have hr : w7.ownsRow w.heap.size 138 5 (.slice a7 1 c7) ([(⟨1, [97], 0, 1, false⟩, 0)] : List (TokB × Nat)).length (([(⟨1, [97], 0, 1, false⟩, 0)] : List (TokB × Nat)).flatMap tCells) := hown7
  have HTk := Lib.hid (Elems.owned tCells_len hr)
  have HB7 := Lib.hid ((Ext.trans' HB3.out (bel1' w3 _)).grown hgrow7 (by simp; omega) (fun _ h => by cases h))
  clear hown7 hgrow7 hat7 hr
  rw [rounds_succ]
  go_wp2
  go_ret3
  exact ⟨_, _, rfl, HTk.out, HB7.out⟩
set_option maxHeartbeats 1000000 in
theorem plain_97 (w : World) : Calls Tryz.prog 141 #[.string ⟨#[97]⟩] w fun e w' => e = .returned (.bool true) ∧ Below w.heap.size w w' := by
  have HC := Lib.hid (cut_97 w)
  go_enter Tryz.func141, Tryz.ntmps141
  (go_wp2_with fail; go_fit (HC.out); rintro e w1 ⟨ao, cv, rfl, htk, b1⟩)
  obtain ⟨b, off, rfl, hb, d0, d1, d2, d3, d4⟩ := htk.cells (k := 0) (x := (⟨1, [97], 0, 1, false⟩, 0)) rfl
  replace d0 : w1.cell? ⟨b, off, none⟩ = some (.int .i64 1) := d0
  replace d1 : w1.cell? ⟨b, off + 1, none⟩ = some (.string ⟨#[97]⟩) := d1
  have B1 := Lib.hid b1
  clear htk b1 d2 d3 d4
  go_wp2
  go_ret
  exact ⟨rfl, B1.out⟩
theorem quote_97 (w : World) : Calls Tryz.prog 101 #[.string ⟨#[97]⟩] w fun e w' => e = .returned (.string ⟨#[97]⟩) ∧ Below w.heap.size w w' := by
  have HC := Lib.hid (plain_97 w)
  go_enter Tryz.func101, Tryz.ntmps101
  (go_wp2_with fail; go_fit (HC.out); rintro e w1 ⟨rfl, b1⟩)
  go_wp2
  go_ret
  exact ⟨rfl, b1⟩
theorem ends_61 (w : World) : Calls Tryz.prog 157 #[.string ⟨#[61]⟩, .int .i64 0] w fun e w' => e = .returned (.bool false) ∧ w = w' := by
  go_enter Tryz.func157, Tryz.ntmps157
  go_wp2
  go_ret
  exact ⟨rfl, rfl⟩
set_option maxHeartbeats 600000 in
theorem one_61 (w : World) : Calls Tryz.prog 114 #[.string ⟨#[61]⟩, .int .i64 0] w fun e w' => e = .returned (.tuple #[.agg #[.int .i64 1, .string ⟨#[61]⟩, .int .i64 0, .bool false, .int .i64 0], .int .i64 1, .int .i64 0]) ∧ Below w.heap.size w w' := by
  obtain ⟨w1, hw1, hb1, hz1, hx1⟩ := box_new w #[.int .i64 0, .string ⟨#[]⟩, .int .i64 0, .bool false, .int .i64 0] 138
  obtain ⟨r0, r1, r2, r3, r4, rf⟩ := hx1.five
  have hidx : (((⟨#[61]⟩ : ByteArray)[0]'(by decide)).toNat : Int) = 61 := rfl
  go_enter Tryz.func114, Tryz.ntmps114
  go_wp2_with fail
  (try rw [hw1])
  clear hw1 hz1 hx1
  go_wp2_with (first | (go_at_call 151; refine (small_61 _).mono ?_; rintro e w' ⟨rfl, rfl⟩) | (go_at_call 152; refine (great_61 _).mono ?_; rintro e w' ⟨rfl, rfl⟩) | (go_at_call 154; refine (digit_61 _).mono ?_; rintro e w' ⟨rfl, rfl⟩) | (go_at_call 158; refine (symbol_61 _).mono ?_; rintro e w' ⟨rfl, rfl⟩) | (go_at_call 157; refine (ends_61 _).mono ?_; rintro e w' ⟨rfl, rfl⟩) | fail)
  refine wp_loop_rounds 2 ?_
  rw [rounds_succ]
  go_wp2_with (first | (go_at_call 151; refine (small_61 _).mono ?_; rintro e w' ⟨rfl, rfl⟩) | (go_at_call 152; refine (great_61 _).mono ?_; rintro e w' ⟨rfl, rfl⟩) | (go_at_call 154; refine (digit_61 _).mono ?_; rintro e w' ⟨rfl, rfl⟩) | (go_at_call 158; refine (symbol_61 _).mono ?_; rintro e w' ⟨rfl, rfl⟩) | (go_at_call 157; refine (ends_61 _).mono ?_; rintro e w' ⟨rfl, rfl⟩) | fail)
  rw [rounds_succ]
  go_wp2_with (first | (go_at_call 151; refine (small_61 _).mono ?_; rintro e w' ⟨rfl, rfl⟩) | (go_at_call 152; refine (great_61 _).mono ?_; rintro e w' ⟨rfl, rfl⟩) | (go_at_call 154; refine (digit_61 _).mono ?_; rintro e w' ⟨rfl, rfl⟩) | (go_at_call 158; refine (symbol_61 _).mono ?_; rintro e w' ⟨rfl, rfl⟩) | (go_at_call 157; refine (ends_61 _).mono ?_; rintro e w' ⟨rfl, rfl⟩) | fail)
  refine bodyPost_ret (v := .tuple #[.agg #[.int .i64 1, .string ⟨#[61]⟩, .int .i64 0, .bool false, .int .i64 0], .int .i64 1, .int .i64 0]) (by rw [results_cell3 rfl]; go_simp; (try rfl)) rfl ?_
  refine And.intro rfl ?_
  repeat' (first | with_reducible exact hb1 | with_reducible refine Below.setCell ?_ ?_ _ | exact Nat.le_refl _)
set_option maxHeartbeats 1000000 in
theorem cut_61 (w : World) : Calls Tryz.prog 77 #[.string ⟨#[61]⟩] w fun e w' => ∃ ao cv, e = .returned (.tuple #[.slice ao 1 cv, .int .i64 1, .int .i64 0]) ∧ Toks w' (.slice ao 1 cv) [(⟨1, [61], 0, 1, false⟩, 0)] ∧ Below w.heap.size w w' := by
  obtain ⟨i0, hi0, hz0, hs0, hb0⟩ := info_parts infoTokR
  have HO := Lib.hid (one_61 w)
  have hidx : (((⟨#[61]⟩ : ByteArray)[0]'(by decide)).toNat : Int) = 61 := rfl
  go_enter Tryz.func77, Tryz.ntmps77
  go_wp2_with fail
  refine wp_loop_rounds 2 ?_
  rw [rounds_succ]
  go_wp2_with (first | (go_at_call 113; refine (blank_61 _).mono ?_; rintro e w' ⟨rfl, rfl⟩) | fail)
  (go_wp2_with fail; go_fit (HO.out); rintro e w2 ⟨rfl, hb2⟩)
  obtain ⟨w3, hw3, hb3, hz3, hx3⟩ := box_new w2 #[.int .i64 1, .string ⟨#[61]⟩, .int .i64 0, .bool false, .int .i64 0] 138
  have HB3 := Lib.hid (Ext.trans' hb2 hb3)
  have hsz3 := HB3.out.size
  obtain ⟨r0, r1, r2, r3, r4, rf⟩ := hx3.five
  have HX3 := Lib.hid hx3
  have hwz : w.heap.size ≤ w2.heap.size := hb2.size
  have HW3 := Lib.hid hw3
  clear hb2 hb3 hz3 hx3 hw3
  go_upto_region 18 with fail
  rw [HW3.out]
  go_wp2_with (at_builtin; refine wpList_append_k rfl _ _ 130 rfl w.heap.size 138 i0 (.agg #[.int .i64 0, .string ⟨#[]⟩, .int .i64 0, .bool false, .int .i64 0]) 5 48 Tryz.underlying130 hi0 hz0 hs0 (by decide) hb0 rfl (.slice none 0 0) 0 [] rfl (World.ownsRow_nil _ _ _ _) (some ⟨w3.heap.size, 0, none⟩) 1 1 [.int .i64 1, .string ⟨#[61]⟩, .int .i64 0, .bool false, .int .i64 0] rfl rfl (Or.inr ⟨_, rfl, fun j u hu => cell_new w3 #[.int .i64 1, .string ⟨#[61]⟩, .int .i64 0, .bool false, .int .i64 0] _ j u hu⟩) (by simp [Value.oneCell']) (by unfold maxLen; omega) (by omega) (by simp; omega) 1 [.int .i64 1, .string ⟨#[61]⟩, .int .i64 0, .bool false, .int .i64 0] rfl rfl ?_; intro a7 c7 w7 hown7 hgrow7 hat7)
  have hr : w7.ownsRow w.heap.size 138 5 (.slice a7 1 c7) ([(⟨1, [61], 0, 1, false⟩, 0)] : List (TokB × Nat)).length (([(⟨1, [61], 0, 1, false⟩, 0)] : List (TokB × Nat)).flatMap tCells) := hown7
  have HTk := Lib.hid (Elems.owned tCells_len hr)
  have HB7 := Lib.hid ((Ext.trans' HB3.out (bel1' w3 _)).grown hgrow7 (by simp; omega) (fun _ h => by cases h))
  clear hown7 hgrow7 hat7 hr
  rw [rounds_succ]
  go_wp2
  go_ret3
  exact ⟨_, _, rfl, HTk.out, HB7.out⟩
set_option maxHeartbeats 1000000 in
theorem plain_61 (w : World) : Calls Tryz.prog 141 #[.string ⟨#[61]⟩] w fun e w' => e = .returned (.bool true) ∧ Below w.heap.size w w' := by
  have HC := Lib.hid (cut_61 w)
  go_enter Tryz.func141, Tryz.ntmps141
  (go_wp2_with fail; go_fit (HC.out); rintro e w1 ⟨ao, cv, rfl, htk, b1⟩)
  obtain ⟨b, off, rfl, hb, d0, d1, d2, d3, d4⟩ := htk.cells (k := 0) (x := (⟨1, [61], 0, 1, false⟩, 0)) rfl
  replace d0 : w1.cell? ⟨b, off, none⟩ = some (.int .i64 1) := d0
  replace d1 : w1.cell? ⟨b, off + 1, none⟩ = some (.string ⟨#[61]⟩) := d1
  have B1 := Lib.hid b1
  clear htk b1 d2 d3 d4
  go_wp2
  go_ret
  exact ⟨rfl, B1.out⟩
theorem quote_61 (w : World) : Calls Tryz.prog 101 #[.string ⟨#[61]⟩] w fun e w' => e = .returned (.string ⟨#[61]⟩) ∧ Below w.heap.size w w' := by
  have HC := Lib.hid (plain_61 w)
  go_enter Tryz.func101, Tryz.ntmps101
  (go_wp2_with fail; go_fit (HC.out); rintro e w1 ⟨rfl, b1⟩)
  go_wp2
  go_ret
  exact ⟨rfl, b1⟩
theorem ends_43 (w : World) : Calls Tryz.prog 157 #[.string ⟨#[43]⟩, .int .i64 0] w fun e w' => e = .returned (.bool false) ∧ w = w' := by
  go_enter Tryz.func157, Tryz.ntmps157
  go_wp2
  go_ret
  exact ⟨rfl, rfl⟩
set_option maxHeartbeats 600000 in
theorem one_43 (w : World) : Calls Tryz.prog 114 #[.string ⟨#[43]⟩, .int .i64 0] w fun e w' => e = .returned (.tuple #[.agg #[.int .i64 1, .string ⟨#[43]⟩, .int .i64 0, .bool false, .int .i64 0], .int .i64 1, .int .i64 0]) ∧ Below w.heap.size w w' := by
  obtain ⟨w1, hw1, hb1, hz1, hx1⟩ := box_new w #[.int .i64 0, .string ⟨#[]⟩, .int .i64 0, .bool false, .int .i64 0] 138
  obtain ⟨r0, r1, r2, r3, r4, rf⟩ := hx1.five
  have hidx : (((⟨#[43]⟩ : ByteArray)[0]'(by decide)).toNat : Int) = 43 := rfl
  go_enter Tryz.func114, Tryz.ntmps114
  go_wp2_with fail
  (try rw [hw1])
  clear hw1 hz1 hx1
  go_wp2_with (first | (go_at_call 151; refine (small_43 _).mono ?_; rintro e w' ⟨rfl, rfl⟩) | (go_at_call 152; refine (great_43 _).mono ?_; rintro e w' ⟨rfl, rfl⟩) | (go_at_call 154; refine (digit_43 _).mono ?_; rintro e w' ⟨rfl, rfl⟩) | (go_at_call 158; refine (symbol_43 _).mono ?_; rintro e w' ⟨rfl, rfl⟩) | (go_at_call 157; refine (ends_43 _).mono ?_; rintro e w' ⟨rfl, rfl⟩) | fail)
  refine wp_loop_rounds 2 ?_
  rw [rounds_succ]
  go_wp2_with (first | (go_at_call 151; refine (small_43 _).mono ?_; rintro e w' ⟨rfl, rfl⟩) | (go_at_call 152; refine (great_43 _).mono ?_; rintro e w' ⟨rfl, rfl⟩) | (go_at_call 154; refine (digit_43 _).mono ?_; rintro e w' ⟨rfl, rfl⟩) | (go_at_call 158; refine (symbol_43 _).mono ?_; rintro e w' ⟨rfl, rfl⟩) | (go_at_call 157; refine (ends_43 _).mono ?_; rintro e w' ⟨rfl, rfl⟩) | fail)
  rw [rounds_succ]
  go_wp2_with (first | (go_at_call 151; refine (small_43 _).mono ?_; rintro e w' ⟨rfl, rfl⟩) | (go_at_call 152; refine (great_43 _).mono ?_; rintro e w' ⟨rfl, rfl⟩) | (go_at_call 154; refine (digit_43 _).mono ?_; rintro e w' ⟨rfl, rfl⟩) | (go_at_call 158; refine (symbol_43 _).mono ?_; rintro e w' ⟨rfl, rfl⟩) | (go_at_call 157; refine (ends_43 _).mono ?_; rintro e w' ⟨rfl, rfl⟩) | fail)
  refine bodyPost_ret (v := .tuple #[.agg #[.int .i64 1, .string ⟨#[43]⟩, .int .i64 0, .bool false, .int .i64 0], .int .i64 1, .int .i64 0]) (by rw [results_cell3 rfl]; go_simp; (try rfl)) rfl ?_
  refine And.intro rfl ?_
  repeat' (first | with_reducible exact hb1 | with_reducible refine Below.setCell ?_ ?_ _ | exact Nat.le_refl _)
set_option maxHeartbeats 1000000 in
theorem cut_43 (w : World) : Calls Tryz.prog 77 #[.string ⟨#[43]⟩] w fun e w' => ∃ ao cv, e = .returned (.tuple #[.slice ao 1 cv, .int .i64 1, .int .i64 0]) ∧ Toks w' (.slice ao 1 cv) [(⟨1, [43], 0, 1, false⟩, 0)] ∧ Below w.heap.size w w' := by
  obtain ⟨i0, hi0, hz0, hs0, hb0⟩ := info_parts infoTokR
  have HO := Lib.hid (one_43 w)
  have hidx : (((⟨#[43]⟩ : ByteArray)[0]'(by decide)).toNat : Int) = 43 := rfl
  go_enter Tryz.func77, Tryz.ntmps77
  go_wp2_with fail
  refine wp_loop_rounds 2 ?_
  rw [rounds_succ]
  go_wp2_with (first | (go_at_call 113; refine (blank_43 _).mono ?_; rintro e w' ⟨rfl, rfl⟩) | fail)
  (go_wp2_with fail; go_fit (HO.out); rintro e w2 ⟨rfl, hb2⟩)
  obtain ⟨w3, hw3, hb3, hz3, hx3⟩ := box_new w2 #[.int .i64 1, .string ⟨#[43]⟩, .int .i64 0, .bool false, .int .i64 0] 138
  have HB3 := Lib.hid (Ext.trans' hb2 hb3)
  have hsz3 := HB3.out.size
  obtain ⟨r0, r1, r2, r3, r4, rf⟩ := hx3.five
  have HX3 := Lib.hid hx3
  have hwz : w.heap.size ≤ w2.heap.size := hb2.size
  have HW3 := Lib.hid hw3
  clear hb2 hb3 hz3 hx3 hw3
  go_upto_region 18 with fail
  rw [HW3.out]
  go_wp2_with (at_builtin; refine wpList_append_k rfl _ _ 130 rfl w.heap.size 138 i0 (.agg #[.int .i64 0, .string ⟨#[]⟩, .int .i64 0, .bool false, .int .i64 0]) 5 48 Tryz.underlying130 hi0 hz0 hs0 (by decide) hb0 rfl (.slice none 0 0) 0 [] rfl (World.ownsRow_nil _ _ _ _) (some ⟨w3.heap.size, 0, none⟩) 1 1 [.int .i64 1, .string ⟨#[43]⟩, .int .i64 0, .bool false, .int .i64 0] rfl rfl (Or.inr ⟨_, rfl, fun j u hu => cell_new w3 #[.int .i64 1, .string ⟨#[43]⟩, .int .i64 0, .bool false, .int .i64 0] _ j u hu⟩) (by simp [Value.oneCell']) (by unfold maxLen; omega) (by omega) (by simp; omega) 1 [.int .i64 1, .string ⟨#[43]⟩, .int .i64 0, .bool false, .int .i64 0] rfl rfl ?_; intro a7 c7 w7 hown7 hgrow7 hat7)
  have hr : w7.ownsRow w.heap.size 138 5 (.slice a7 1 c7) ([(⟨1, [43], 0, 1, false⟩, 0)] : List (TokB × Nat)).length (([(⟨1, [43], 0, 1, false⟩, 0)] : List (TokB × Nat)).flatMap tCells) := hown7
  have HTk := Lib.hid (Elems.owned tCells_len hr)
  have HB7 := Lib.hid ((Ext.trans' HB3.out (bel1' w3 _)).grown hgrow7 (by simp; omega) (fun _ h => by cases h))
  clear hown7 hgrow7 hat7 hr
  rw [rounds_succ]
  go_wp2
  go_ret3
  exact ⟨_, _, rfl, HTk.out, HB7.out⟩
set_option maxHeartbeats 1000000 in
theorem plain_43 (w : World) : Calls Tryz.prog 141 #[.string ⟨#[43]⟩] w fun e w' => e = .returned (.bool true) ∧ Below w.heap.size w w' := by
  have HC := Lib.hid (cut_43 w)
  go_enter Tryz.func141, Tryz.ntmps141
  (go_wp2_with fail; go_fit (HC.out); rintro e w1 ⟨ao, cv, rfl, htk, b1⟩)
  obtain ⟨b, off, rfl, hb, d0, d1, d2, d3, d4⟩ := htk.cells (k := 0) (x := (⟨1, [43], 0, 1, false⟩, 0)) rfl
  replace d0 : w1.cell? ⟨b, off, none⟩ = some (.int .i64 1) := d0
  replace d1 : w1.cell? ⟨b, off + 1, none⟩ = some (.string ⟨#[43]⟩) := d1
  have B1 := Lib.hid b1
  clear htk b1 d2 d3 d4
  go_wp2
  go_ret
  exact ⟨rfl, B1.out⟩
theorem quote_43 (w : World) : Calls Tryz.prog 101 #[.string ⟨#[43]⟩] w fun e w' => e = .returned (.string ⟨#[43]⟩) ∧ Below w.heap.size w w' := by
  have HC := Lib.hid (plain_43 w)
  go_enter Tryz.func101, Tryz.ntmps101
  (go_wp2_with fail; go_fit (HC.out); rintro e w1 ⟨rfl, b1⟩)
  go_wp2
  go_ret
  exact ⟨rfl, b1⟩
end Go.Proofs.YtljgkfdnmikpfaaGreatDoor
/- The law's awake. -/
namespace Go.Proofs.YtljgkfdnmikpfaaGreatDoor
open Go.Shelf Go.RowKit
set_option linter.unusedVariables false

theorem conv1r (W : World) (b : Nat) (d : Int) (h0 : 0 ≤ d) (h1 : d < 256) (hc : W.cell? ⟨b, 0, none⟩ = some (.int .u8 d)) :
    (convert 97 9 (.slice (some ⟨b, 0, none⟩) 1 1)).run Tryz.prog W = .ok (.string ⟨#[UInt8.ofNat d.toNat]⟩) W := by
  have := run_convert_bytes_back (P := Tryz.prog) W 97 9 5 ⟨b, 0, none⟩ 1 [UInt8.ofNat d.toNat] Tryz.underlying97 Tryz.underlying5 Tryz.underlying9 (fun j hj => by
    have : j = 0 := by simp at hj; omega
    subst this
    have e : ((UInt8.ofNat d.toNat).toNat : Int) = d := by
      rw [UInt8.toNat_ofNat']; omega
    simp only [List.getElem_cons_zero, e]
    simpa [Addr.add] using hc)
  exact this
theorem conv1r_new (W : World) (d : Int) (h0 : 0 ≤ d) (h1 : d < 256) :
    (convert 97 9 (.slice (some ⟨W.heap.size, 0, none⟩) 1 1)).run Tryz.prog (W.alloc (.cells #[.int .u8 d] 5)) = .ok (.string ⟨#[UInt8.ofNat d.toNat]⟩) (W.alloc (.cells #[.int .u8 d] 5)) :=
  conv1r _ _ d h0 h1 (by rw [World.cell?_alloc_at _ _ _ _ rfl]; rfl)
def nmS (n : Int) : List UInt8 := [UInt8.ofNat (48 + n).toNat]
theorem num_one {n : Int} (h0 : 0 ≤ n) (h1 : n < 10) : NC nmS n := fun w => by
  have K := fun W => conv1r_new W (48 + n) (by omega) (by omega)
  show Calls Tryz.prog 104 #[.int .i64 n] w fun e w' => e = .returned (.string ⟨#[UInt8.ofNat (48 + n).toNat]⟩) ∧ Below w.heap.size w w'
  generalize UInt8.ofNat (48 + n).toNat = c at K
  go_enter Tryz.func104, Tryz.ntmps104
  go_wp2
  go_ret
  exact ⟨rfl, (Below.refl _ _).alloc (Nat.le_refl _) _⟩
def awS : ByteArray := ⟨#[88, 32, 61, 32, 97, 32, 43, 32, 89, 46]⟩
def awT : Tm := .mk 2 0 ⟨#[61]⟩ [.mk 0 0 ⟨#[]⟩ [], .mk 2 0 ⟨#[43]⟩ [.mk 2 0 ⟨#[97]⟩ [], .mk 0 1 ⟨#[]⟩ []]]
theorem aw_read : readB oneR opsB (bl awS) = .ok (awT, [([88], 0), ([89], 1)]) := by kernel_rfl
theorem aw_vars : varsT awT [] = [0, 1] := by kernel_rfl
theorem aw_text : plainW bl nmS [0, 1] awT = [61, 40, 95, 48, 44, 43, 40, 97, 44, 95, 49, 41, 41] := by kernel_rfl
theorem aw_may : mayW (QC bl) (NC nmS) awT := by
  unfold awT
  simp only [mayW, maysW]
  refine ⟨fun h => by omega, fun _ _ => quote_61, ⟨fun h => by omega, fun h => by omega, trivial⟩, ⟨fun h => by omega, fun _ _ => quote_43, ⟨fun h => by omega, fun _ _ => quote_97, trivial⟩, ⟨fun h => by omega, fun h => by omega, trivial⟩, trivial⟩, trivial⟩
theorem aw_text_at {w : World} (he : Err w) : Calls Tryz.prog 14 #[.string awS] w fun e w' => e = .returned (.string ⟨#[61, 40, 95, 48, 44, 43, 40, 97, 44, 95, 49, 41, 41]⟩) ∧ Below w.heap.size w w' := by
  have h := text_ok (q := bl) (nm := nmS) aw_read aw_may (fun i hi => by
    rw [aw_vars] at hi
    simp at hi
    exact num_one (by omega) (by omega)) (fun i hi => by simp [nmS]) (by rw [aw_vars, aw_text]; decide) (by decide) he
  rw [aw_vars, aw_text] at h
  exact h
theorem eq_nm (a b : ByteArray) (x y : Int) (w : World) :
    (Op.equalIn 10000 54 (.agg #[.string a, .int .i64 x]) (.agg #[.string b, .int .i64 y])).run Tryz.prog w = .ok ((a.toList == b.toList) && (x == y)) w := by
  have u3 := Tryz.underlying2
  have a3 := Tryz.isAgg2
  have z3 := Tryz.sizeOf2
  have u9 := Tryz.underlying9
  have a9 := Tryz.isAgg9
  have z9 := Tryz.sizeOf9
  have hS : Tryz.prog.underlying 54 = some (.struct (Tryz.prog.fieldsOf 54)) := by kernel_rfl
  have hp : Tryz.prog.stoodInHeld 54 = false := by kernel_rfl
  rw [show (10000 : Nat) = 9999 + 1 from rfl, run_equalIn_agg w 9999 54 _ _ hS hp]
  simp only [Program.fieldsOf, Tryz.underlying54]
  go_simp
  by_cases h1 : a.toList = b.toList <;> by_cases h3 : x = y <;> simp [h1, h3]
set_option maxHeartbeats 2000000 in
theorem awake8_at {w : World} (he : Err w) : Calls Tryz.prog 13 #[] w fun e w' => e = .returned (.bool true) ∧ Below w.heap.size w w' := by
  have HE := Lib.hid he
  have HPl := Lib.hid (plain_walk w)
  have heq : ∀ wq, (Op.equalIn 10000 54 (.agg #[.string ⟨#[88]⟩, .int .i64 0]) (.agg #[.string ⟨#[88]⟩, .int .i64 0])).run Tryz.prog wq = .ok true wq := fun wq => by rw [eq_nm]; simp
  have heq2 : ∀ wq, (Op.equalIn 10000 54 (.agg #[.string ⟨#[89]⟩, .int .i64 1]) (.agg #[.string ⟨#[89]⟩, .int .i64 1])).run Tryz.prog wq = .ok true wq := fun wq => by rw [eq_nm]; simp
  clear he
  go_enter Tryz.func13, Tryz.ntmps13
  (go_wp2_with fail; go_fit (HPl.out); rintro e w1 ⟨v, rfl, ho, hb1⟩)
  have HT := Lib.hid ((term8_at ho awS (HE.out.ext hb1) (by decide)).mono fun e w' (hp : TermX w1 (readB oneR opsB (bl awS)) e w') => (show (∃ v vn, e = .returned (.tuple #[v, vn, .int .i64 0]) ∧ TmV w' awT v ∧ Nms w' vn [([88], 0), ([89], 1)]) ∧ Below w1.heap.size w1 w' by rw [aw_read] at hp; exact hp))
  have HB1 := Lib.hid hb1
  clear ho hb1 HPl
  (go_wp2_with fail; go_fit (HT.out); rintro e w2 ⟨⟨v2, vn, rfl, hv2, hn2⟩, hb2⟩)
  obtain ⟨k2, n2, s2, a2, m2, c2, rfl⟩ := hv2.full
  obtain ⟨an, cn, rfl, l1, l2, l3⟩ := hn2
  obtain ⟨b, off, rfl, hbb, hc⟩ := l3.resolve_left (by simp)
  have d0 : w2.cell? ⟨b, off, none⟩ = some (.string ⟨#[88]⟩) := hc 0 _ rfl 0 _ rfl
  have d1 : w2.cell? ⟨b, off + 1, none⟩ = some (.int .i64 0) := hc 0 _ rfl 1 _ rfl
  have d2 : w2.cell? ⟨b, off + 2, none⟩ = some (.string ⟨#[89]⟩) := hc 1 _ rfl 0 _ rfl
  have d3 : w2.cell? ⟨b, off + 3, none⟩ = some (.int .i64 1) := hc 1 _ rfl 1 _ rfl
  obtain ⟨w3, hw3, hb3, hz3, hx3⟩ := box_new w2 #[.int .i64 k2, .int .i64 n2, .string s2, .slice a2 m2 c2] 27
  have HB3 := Lib.hid (Ext.trans' (Ext.trans' HB1.out hb2) hb3)
  have HG := Good_at awT w3 _ (TmV.ext hb3 _ _ hv2)
  rw [show goodT awT = true from one_good aw_read] at HG
  have HG := Lib.hid HG
  have d0 := cell_later hb3 d0
  have d1 := cell_later hb3 d1
  have d2 := cell_later hb3 d2
  have d3 := cell_later hb3 d3
  obtain ⟨b0, b1, b2, b3, bf⟩ := hx3.four
  have l1' : 2 ≤ cn := l1
  unfold maxLen at l2
  clear hv2 hb2 hb3 hx3 hz3 l3 hc HT
  go_wp2_with fail
  (try rw [hw3])
  clear hw3
  (go_wp2_with fail; go_fit (HG.out); rintro e w4 ⟨rfl, hb4⟩)
  have HB4 := Lib.hid (Ext.trans' HB3.out hb4)
  have d0 := cell_later hb4 d0
  have d1 := cell_later hb4 d1
  have d2 := cell_later hb4 d2
  have d3 := cell_later hb4 d3
  have HTx := Lib.hid (aw_text_at (HE.out.ext HB4.out))
  clear hb4
  (go_wp2_with fail; go_fit (HTx.out); rintro e w5 ⟨rfl, hb5⟩)
  have HB5 := Lib.hid (Ext.trans' HB4.out hb5)
  clear hb5
  go_wp2
  go_ret
  exact ⟨rfl, HB5.out⟩
end Go.Proofs.YtljgkfdnmikpfaaGreatDoor
/- Reading: what stands behind an end, and where the tokens stand, changes nothing. Pure. -/
namespace Go.Proofs.YtljgkfdnmikpfaaGreatDoor
set_option linter.unusedVariables false

def shT (d : Nat) (q : TokP) : TokP := (q.1, q.2 + d)
/-- A name that is Open has a mark behind it. -/
def WfT : List TokP → Prop
  | [] => True
  | q :: r => (q.1.opens = true → ∃ x r', r = x :: r' ∧ x.1.kind = 5) ∧ WfT r
/-- An end, or a bracket that closes. -/
def StopT (q : TokP) : Prop := q.1.kind = 6 ∨ (q.1.kind = 5 ∧ q.1.text = [41])
section
variable (e1 e2 : TokP) (X1 X2 : List TokP) (d : Nat)
structure RelS (s1 s2 : RS) : Prop where
  rest : ∃ r, s1.rest = r ++ e1 :: X1 ∧ s2.rest = r.map (shT d) ++ e2 :: X2 ∧ ∀ q ∈ r, q.1.kind ≠ 6
  next : s1.next = s2.next
  names : s1.names = s2.names
  wf : WfT s1.rest
  k1 : e1.1.kind = 6
  k2 : StopT e2
end
section
variable {e1 e2 : TokP} {X1 X2 : List TokP} {d : Nat}
theorem stop_mark {q : TokP} (h : StopT q) {t : List UInt8} (ht : t ≠ [41]) : isMark t q = false := by
  unfold isMark
  rcases h with h | ⟨h1, h2⟩
  · simp [h]
  · rw [h2]; simp [h1]; exact fun e => ht e.symm
theorem stop_op {q : TokP} (h : StopT q) : opKind q = false := by
  unfold opKind
  rw [stop_mark h (by decide)]
  rcases h with h | ⟨h1, h2⟩
  · simp [h]
  · simp [h1]
theorem end_stop {q : TokP} (h : q.1.kind = 6) : StopT q := Or.inl h
/-- The head: the ends, or a token. -/
theorem RelS.head {s1 s2 : RS} (h : RelS e1 e2 X1 X2 d s1 s2) : (headR s1 = e1 ∧ headR s2 = e2) ∨ (∃ q, headR s1 = q ∧ headR s2 = shT d q ∧ q.1.kind ≠ 6 ∧ RelS e1 e2 X1 X2 d (dropR s1) (dropR s2) ∧ s1.rest ≠ []) := by
  obtain ⟨r, h1, h2, h3⟩ := h.rest
  cases r with
  | nil =>
    left
    unfold headR
    rw [h1, h2]
    exact ⟨rfl, rfl⟩
  | cons q r =>
    right
    refine ⟨q, by unfold headR; rw [h1]; rfl, by unfold headR; rw [h2]; rfl, h3 q List.mem_cons_self, ⟨⟨r, by unfold dropR; rw [h1]; rfl, by unfold dropR; rw [h2]; rfl, fun x hx => h3 x (List.mem_cons_of_mem _ hx)⟩, h.next, h.names, ?_, h.k1, h.k2⟩, by rw [h1]; simp⟩
    have := h.wf
    rw [h1] at this
    unfold dropR
    rw [h1]
    exact this.2
theorem RelS.takes {s1 s2 s1' : RS} {t : List UInt8} (h : RelS e1 e2 X1 X2 d s1 s2) (ht : takesR t s1 = some s1') : ∃ s2', takesR t s2 = some s2' ∧ RelS e1 e2 X1 X2 d s1' s2' := by
  obtain ⟨rfl, _⟩ := takes_lt ht
  unfold takesR at ht
  split at ht
  · rename_i hm
    rcases h.head with ⟨a, b⟩ | ⟨q, a, b, _, hr, _⟩
    · rw [a] at hm
      unfold isMark at hm
      simp [h.k1] at hm
    · refine ⟨dropR s2, ?_, hr⟩
      unfold takesR
      rw [b, if_pos]
      rw [a] at hm
      exact hm
  · cases ht
theorem RelS.takesNo {s1 s2 : RS} {t : List UInt8} (h : RelS e1 e2 X1 X2 d s1 s2) (hne : t ≠ [41]) (ht : takesR t s1 = none) : takesR t s2 = none := by
  unfold takesR at ht ⊢
  split at ht
  · cases ht
  · rename_i hm
    rcases h.head with ⟨a, b⟩ | ⟨q, a, b, _, hr, _⟩
    · rw [b, stop_mark h.k2 hne]; rfl
    · rw [b]
      rw [a] at hm
      rw [if_neg]
      exact hm
theorem RelS.between {s1 s2 : RS} (h : RelS e1 e2 X1 X2 d s1 s2) (bet : List UInt8 → O × Bool) : betweenR bet (headR s2) = betweenR bet (headR s1) := by
  rcases h.head with ⟨a, b⟩ | ⟨q, a, b, _⟩
  · rw [a, b]; unfold betweenR; rw [stop_op h.k2, stop_op (end_stop h.k1)]; simp
  · rw [a, b]; rfl
theorem RelS.begins {s1 s2 : RS} (h : RelS e1 e2 X1 X2 d s1 s2) (pre bet : List UInt8 → O × Bool) : beginsR pre bet (headR s2) = beginsR pre bet (headR s1) := by
  rcases h.head with ⟨a, b⟩ | ⟨q, a, b, _⟩
  · rw [a, b]
    have e : beginsR pre bet e1 = false := by unfold beginsR; simp [h.k1]
    rw [e]
    unfold beginsR
    rcases h.k2 with k | ⟨k, kt⟩
    · simp [k]
    · simp [k, kt]
  · rw [a, b]; rfl
theorem RelS.minus {s1 s2 : RS} (h : RelS e1 e2 X1 X2 d s1 s2) (q : TokP) : isMinusR (shT d q) (headR s2) = isMinusR q (headR s1) := by
  unfold isMinusR
  rcases h.head with ⟨a, b⟩ | ⟨x, a, b, _⟩
  · rw [a, b]
    have k : (e2.1.kind == 4) = false := by rcases h.k2 with k | ⟨k, _⟩ <;> simp [k]
    have k1 : (e1.1.kind == 4) = false := by simp [h.k1]
    rw [k, k1]
    simp [shT]
  · rw [a, b]
    have : ((x.2 + d : Nat) : Int) == ((q.2 + d : Nat) : Int) + 1 ↔ (x.2 : Int) == (q.2 : Int) + 1 := by
      simp only [beq_iff_eq]
      omega
    have e : (((x.2 + d : Nat) : Int) == ((q.2 + d : Nat) : Int) + 1) = ((x.2 : Int) == (q.2 : Int) + 1) := Bool.eq_iff_iff.2 this
    show (q.1.kind == 1 && (q.1.text == [45] && (x.1.kind == 4 && (((x.2 + d : Nat) : Int) == ((q.2 + d : Nat) : Int) + 1)))) = _
    rw [e]
theorem RelS.len {s1 s2 : RS} (h : RelS e1 e2 X1 X2 d s1 s2) : s2.rest ≠ [] := by
  obtain ⟨r, h1, h2, h3⟩ := h.rest
  rw [h2]
  simp
theorem RelS.var {s1 s2 : RS} (h : RelS e1 e2 X1 X2 d s1 s2) (name : List UInt8) : (varR name s2).1 = (varR name s1).1 ∧ RelS e1 e2 X1 X2 d (varR name s1).2 (varR name s2).2 := by
  unfold varR
  rw [← h.names, ← h.next]
  cases s1.names.find? (fun p => p.1 == name) with
  | some p => exact ⟨rfl, h⟩
  | none => exact ⟨rfl, ⟨h.rest, by simp only, rfl, h.wf, h.k1, h.k2⟩⟩
def SimT (e1 e2 : TokP) (X1 X2 : List TokP) (d : Nat) (T T' : TFun) : Prop := ∀ most s1 s2 p s1', RelS e1 e2 X1 X2 d s1 s2 → T most s1 = some (p, s1') → ∃ s2', T' most s2 = some (p, s2') ∧ RelS e1 e2 X1 X2 d s1' s2'
theorem sim_items {T T' : TFun} (hS : SimT e1 e2 X1 X2 d T T') (hT : Shr T') : ∀ f f' s1 s2 l s1', RelS e1 e2 X1 X2 d s1 s2 → s2.rest.length < f' → itemsR T f s1 = some (l, s1') → ∃ s2', itemsR T' f' s2 = some (l, s2') ∧ RelS e1 e2 X1 X2 d s1' s2'
  | 0, f', s1, s2, l, s1', _, _, h => by cases h
  | f + 1, 0, s1, s2, l, s1', _, hf, h => by omega
  | f + 1, f' + 1, s1, s2, l, s1', hR, hf, h => by
    rw [itemsR] at h ⊢
    cases h1 : T 999 s1 with
    | none => rw [h1] at h; cases h
    | some q =>
      obtain ⟨p, t1⟩ := q
      obtain ⟨t2, g1, r1⟩ := hS _ _ _ _ _ hR h1
      have hl := hT _ _ _ _ g1
      rw [h1] at h
      rw [g1]
      simp only at h ⊢
      cases h2 : takesR [44] t1 with
      | none =>
        rw [h2] at h
        rw [r1.takesNo (by decide) h2]
        cases h
        exact ⟨t2, rfl, r1⟩
      | some u1 =>
        obtain ⟨u2, g2, r2⟩ := r1.takes h2
        have hl2 := (takes_lt g2).2
        rw [h2] at h
        rw [g2]
        simp only at h ⊢
        cases h3 : itemsR T f u1 with
        | none => rw [h3] at h; cases h
        | some r =>
          obtain ⟨l', v1⟩ := r
          obtain ⟨v2, g3, r3⟩ := sim_items hS hT f f' u1 u2 l' v1 r2 (by omega) h3
          rw [h3] at h
          rw [g3]
          cases h
          exact ⟨v2, rfl, r3⟩
theorem sim_loop {bet : List UInt8 → O × Bool} {T T' : TFun} (hS : SimT e1 e2 X1 X2 d T T') (hT : Shr T') (most : Int) : ∀ f f' p s1 s2 q s1', RelS e1 e2 X1 X2 d s1 s2 → s2.rest.length < f' → loopR bet T most f p s1 = some (q, s1') → ∃ s2', loopR bet T' most f' p s2 = some (q, s2') ∧ RelS e1 e2 X1 X2 d s1' s2'
  | 0, f', p, s1, s2, q, s1', _, _, h => by cases h
  | f + 1, 0, p, s1, s2, q, s1', _, hf, h => by omega
  | f + 1, f' + 1, p, s1, s2, q, s1', hR, hf, h => by
    rw [loopR] at h ⊢
    rw [hR.between]
    split at h
    · rename_i hc
      rw [if_pos hc]
      cases h
      exact ⟨s2, rfl, hR⟩
    · rename_i hc
      rw [if_neg hc]
      rcases hR.head with ⟨a, b⟩ | ⟨x, a, b, _, hd, _⟩
      · exfalso
        apply hc
        left
        rw [a]
        unfold betweenR
        rw [stop_op (end_stop hR.k1)]
        rfl
      · cases h1 : T (sidesB (bl (betweenR bet (headR s1)).1.k) (betweenR bet (headR s1)).1.l).2 (dropR s1) with
        | none => rw [h1] at h; cases h
        | some r =>
          obtain ⟨r, t1⟩ := r
          obtain ⟨t2, g1, r1⟩ := hS _ _ _ _ _ hd h1
          have hl := hT _ _ _ _ g1
          have hl2 := dropS_le s2
          rw [h1] at h
          rw [g1]
          simp only at h ⊢
          exact sim_loop hS hT most f f' _ t1 t2 q s1' r1 (by omega) h
theorem sim_closed {T T' : TFun} (hS : SimT e1 e2 X1 X2 d T T') {t : List UInt8} {s1 s2 s1' : RS} {x : Tm} (hR : RelS e1 e2 X1 X2 d s1 s2) (h : closedR T t s1 = some (x, s1')) : ∃ s2', closedR T' t s2 = some (x, s2') ∧ RelS e1 e2 X1 X2 d s1' s2' := by
  unfold closedR at h ⊢
  cases h1 : T 1200 s1 with
  | none => rw [h1] at h; cases h
  | some q =>
    obtain ⟨p, t1⟩ := q
    obtain ⟨t2, g1, r1⟩ := hS _ _ _ _ _ hR h1
    rw [h1] at h
    rw [g1]
    simp only at h ⊢
    cases h2 : takesR t t1 with
    | none => rw [h2] at h; cases h
    | some u1 =>
      obtain ⟨u2, g2, r2⟩ := r1.takes h2
      rw [h2] at h
      rw [g2]
      cases h
      exact ⟨u2, rfl, r2⟩
theorem sim_tail {T T' : TFun} (hS : SimT e1 e2 X1 X2 d T T') {s1 s2 s1' : RS} {x : Tm} (hR : RelS e1 e2 X1 X2 d s1 s2) (h : tailR T s1 = some (x, s1')) : ∃ s2', tailR T' s2 = some (x, s2') ∧ RelS e1 e2 X1 X2 d s1' s2' := by
  unfold tailR at h ⊢
  cases h1 : takesR [124] s1 with
  | none =>
    rw [h1] at h
    rw [hR.takesNo (by decide) h1]
    cases h
    exact ⟨s2, rfl, hR⟩
  | some t1 =>
    obtain ⟨t2, g1, r1⟩ := hR.takes h1
    rw [h1] at h
    rw [g1]
    simp only at h ⊢
    cases h2 : T 999 t1 with
    | none => rw [h2] at h; cases h
    | some q =>
      obtain ⟨p, u1⟩ := q
      obtain ⟨u2, g2, r2⟩ := hS _ _ _ _ _ r1 h2
      rw [h2] at h
      rw [g2]
      cases h
      exact ⟨u2, rfl, r2⟩
theorem sim_row {T T' : TFun} (hS : SimT e1 e2 X1 X2 d T T') (hT : Shr T') {s1 s2 s1' : RS} {x : Tm} (hR : RelS e1 e2 X1 X2 d s1 s2) (h : rowR T s1 = some (x, s1')) : ∃ s2', rowR T' s2 = some (x, s2') ∧ RelS e1 e2 X1 X2 d s1' s2' := by
  unfold rowR at h ⊢
  cases h1 : itemsR T (s1.rest.length + 1) s1 with
  | none => rw [h1] at h; cases h
  | some q =>
    obtain ⟨l, t1⟩ := q
    obtain ⟨t2, g1, r1⟩ := sim_items hS hT _ (s2.rest.length + 1) _ _ _ _ hR (by omega) h1
    rw [h1] at h
    rw [g1]
    simp only at h ⊢
    cases h2 : tailR T t1 with
    | none => rw [h2] at h; cases h
    | some q =>
      obtain ⟨t, u1⟩ := q
      obtain ⟨u2, g2, r2⟩ := sim_tail hS r1 h2
      rw [h2] at h
      rw [g2]
      simp only at h ⊢
      cases h3 : takesR [93] u1 with
      | none => rw [h3] at h; cases h
      | some v1 =>
        obtain ⟨v2, g3, r3⟩ := r2.takes h3
        rw [h3] at h
        rw [g3]
        cases h
        exact ⟨v2, rfl, r3⟩
theorem sim_bracket {T T' : TFun} (hS : SimT e1 e2 X1 X2 d T T') (hT : Shr T') {b : List UInt8} {s1 s2 s1' : RS} {x : Tm} (hR : RelS e1 e2 X1 X2 d s1 s2) (h : bracketR T b s1 = some (x, s1')) : ∃ s2', bracketR T' b s2 = some (x, s2') ∧ RelS e1 e2 X1 X2 d s1' s2' := by
  unfold bracketR at h ⊢
  split at h
  · rename_i hb
    rw [if_pos hb]
    exact sim_closed hS hR h
  · rename_i hb
    rw [if_neg hb]
    split at h
    · rename_i hb2
      rw [if_pos hb2]
      cases h1 : closedR T [125] s1 with
      | none => rw [h1] at h; cases h
      | some q =>
        obtain ⟨t, t1⟩ := q
        obtain ⟨t2, g1, r1⟩ := sim_closed hS hR h1
        rw [h1] at h
        rw [g1]
        cases h
        exact ⟨t2, rfl, r1⟩
    · rename_i hb2
      rw [if_neg hb2]
      split at h
      · rename_i hb3
        rw [if_pos hb3]
        exact sim_row hS hT hR h
      · cases h
theorem sim_args {T T' : TFun} (hS : SimT e1 e2 X1 X2 d T T') (hT : Shr T') {n : List UInt8} {s1 s2 s1' : RS} {x : TL} (hR : RelS e1 e2 X1 X2 d s1 s2) (h : argsR T n s1 = some (x, s1')) : ∃ s2', argsR T' n s2 = some (x, s2') ∧ RelS e1 e2 X1 X2 d s1' s2' := by
  unfold argsR at h ⊢
  cases h1 : itemsR T (s1.rest.length + 1) s1 with
  | none => rw [h1] at h; cases h
  | some q =>
    obtain ⟨l, t1⟩ := q
    obtain ⟨t2, g1, r1⟩ := sim_items hS hT _ (s2.rest.length + 1) _ _ _ _ hR (by omega) h1
    rw [h1] at h
    rw [g1]
    simp only at h ⊢
    cases h2 : takesR [41] t1 with
    | none => rw [h2] at h; cases h
    | some u1 =>
      obtain ⟨u2, g2, r2⟩ := r1.takes h2
      rw [h2] at h
      rw [g2]
      cases h
      exact ⟨u2, rfl, r2⟩
theorem sim_ahead {T T' : TFun} (hS : SimT e1 e2 X1 X2 d T T') {n : List UInt8} {o : O} {s1 s2 s1' : RS} {x : TL} (hR : RelS e1 e2 X1 X2 d s1 s2) (h : aheadR T n o s1 = some (x, s1')) : ∃ s2', aheadR T' n o s2 = some (x, s2') ∧ RelS e1 e2 X1 X2 d s1' s2' := by
  unfold aheadR at h ⊢
  cases h1 : T (sidesB (bl o.k) o.l).2 s1 with
  | none => rw [h1] at h; cases h
  | some q =>
    obtain ⟨p, t1⟩ := q
    obtain ⟨t2, g1, r1⟩ := hS _ _ _ _ _ hR h1
    rw [h1] at h
    rw [g1]
    cases h
    exact ⟨t2, rfl, r1⟩
theorem sim_named {pre bet : List UInt8 → O × Bool} {T T' : TFun} (hS : SimT e1 e2 X1 X2 d T T') (hT : Shr T') {q : TokP} {most : Int} {s1 s2 s1' : RS} {x : TL} (hR : RelS e1 e2 X1 X2 d s1 s2) (ho : q.1.opens = true → ∃ y, headR s1 = y ∧ y.1.kind = 5)
    (h : namedR pre bet T q most s1 = some (x, s1')) : ∃ s2', namedR pre bet T' (shT d q) most s2 = some (x, s2') ∧ RelS e1 e2 X1 X2 d s1' s2' := by
  unfold namedR isAheadR at h ⊢
  rw [hR.minus, hR.begins]
  simp only [show ∀ q : TokP, (shT d q).1 = q.1 from fun _ => rfl]
  split at h
  · rename_i hm
    rw [if_pos hm]
    rcases hR.head with ⟨a, b⟩ | ⟨y, a, b, _, hd, _⟩
    · rw [a] at hm
      unfold isMinusR at hm
      simp [hR.k1] at hm
    · cases h
      refine ⟨dropR s2, ?_, hd⟩
      rw [a, b]
      rfl
  · rename_i hm
    rw [if_neg hm]
    split at h
    · rename_i hop
      rw [if_pos hop]
      rcases hR.head with ⟨a, b⟩ | ⟨y, a, b, _, hd, _⟩
      · obtain ⟨y, hy, hk⟩ := ho hop
        rw [a] at hy
        rw [← hy, hR.k1] at hk
        cases hk
      · exact sim_args hS hT hd h
    · rename_i hop
      rw [if_neg hop]
      split at h
      · rename_i hk
        rw [if_pos hk]
        cases h
        exact ⟨s2, rfl, hR⟩
      · rename_i hk
        rw [if_neg hk]
        split at h
        · rename_i ha
          rw [if_pos ha]
          exact sim_ahead hS hR h
        · rename_i ha
          rw [if_neg ha]
          split at h
          · rename_i hl
            cases h
            exact ⟨s2, if_pos hl, hR⟩
          · cases h
theorem sim_prim {pre bet : List UInt8 → O × Bool} {T T' : TFun} (hS : SimT e1 e2 X1 X2 d T T') (hT : Shr T') {most : Int} {s1 s2 s1' : RS} {x : TL} (hR : RelS e1 e2 X1 X2 d s1 s2) (h : primR pre bet T most s1 = some (x, s1')) : ∃ s2', primR pre bet T' most s2 = some (x, s2') ∧ RelS e1 e2 X1 X2 d s1' s2' := by
  have hwf := hR.wf
  unfold primR at h ⊢
  rcases hR.head with ⟨a, b⟩ | ⟨q, a, b, hk6, hd, hne⟩
  · rw [a] at h
    simp [hR.k1] at h
  · have ho : q.1.opens = true → ∃ y, headR (dropR s1) = y ∧ y.1.kind = 5 := fun hop => by
      cases hr : s1.rest with
      | nil => exact absurd hr hne
      | cons z r =>
        rw [hr] at hwf
        have hz : z = q := by unfold headR at a; rw [hr] at a; exact a
        subst hz
        obtain ⟨y, r', e, hk⟩ := hwf.1 hop
        exact ⟨y, by unfold headR dropR; rw [hr]; simp [e], hk⟩
    rw [a] at h
    rw [b]
    show ∃ s2', (if q.1.kind = 1 ∨ q.1.kind = 2 then namedR pre bet T' (shT d q) most (dropR s2) else if q.1.kind = 3 then some (((varR q.1.text (dropR s2)).1, 0), (varR q.1.text (dropR s2)).2) else if q.1.kind = 4 then some ((iT (q.1.n : Int), 0), dropR s2) else if q.1.kind = 5 then zeroR (bracketR T' q.1.text (dropR s2)) else none) = _ ∧ _
    split at h
    · rename_i hk
      rw [if_pos hk]
      exact sim_named hS hT hd ho h
    · rename_i hk
      rw [if_neg hk]
      split at h
      · rename_i hk3
        rw [if_pos hk3]
        obtain ⟨v1, v2⟩ := hd.var q.1.text
        cases h
        exact ⟨_, by rw [v1], v2⟩
      · rename_i hk3
        rw [if_neg hk3]
        split at h
        · rename_i hk4
          rw [if_pos hk4]
          cases h
          exact ⟨_, rfl, hd⟩
        · rename_i hk4
          rw [if_neg hk4]
          split at h
          · rename_i hk5
            rw [if_pos hk5]
            obtain ⟨hb, h0⟩ := zero_some h
            obtain ⟨t2, g1, r1⟩ := sim_bracket hS hT hd hb
            refine ⟨t2, ?_, r1⟩
            rw [g1]
            obtain ⟨x1, x2⟩ := x
            simp only at h0
            subst h0
            rfl
          · cases h
theorem sim_term {pre bet : List UInt8 → O × Bool} : ∀ f f', (∀ s2 : RS, True) → f ≤ f' → SimT e1 e2 X1 X2 d (termF pre bet f) (TERM pre bet)
  | 0, f', _, _ => fun most s1 s2 p s1' hR h => by cases h
  | f + 1, f', ht, hf => fun most s1 s2 p s1' hR h => by
    rw [termF] at h
    rw [TERM_eq]
    unfold termB at h ⊢
    have hS := sim_term f f (fun _ => trivial) (Nat.le_refl _) (pre := pre) (bet := bet)
    cases h1 : primR pre bet (termF pre bet f) most s1 with
    | none => rw [h1] at h; cases h
    | some q =>
      obtain ⟨q, t1⟩ := q
      obtain ⟨t2, g1, r1⟩ := sim_prim hS TERM_shr hR h1
      rw [h1] at h
      rw [g1]
      simp only at h ⊢
      exact sim_loop hS TERM_shr most _ _ q t1 t2 p s1' r1 (by omega) h
/-- What stands behind the end changes nothing. -/
theorem sim_TERM {pre bet : List UInt8 → O × Bool} : SimT e1 e2 X1 X2 d (TERM pre bet) (TERM pre bet) := fun most s1 s2 p s1' hR h => sim_term _ _ (fun _ => trivial) (Nat.le_refl _) most s1 s2 p s1' hR h
end
end Go.Proofs.YtljgkfdnmikpfaaGreatDoor
/- Reading: texts one behind the other. Pure. -/
namespace Go.Proofs.YtljgkfdnmikpfaaGreatDoor
set_option linter.unusedVariables false

/-- What is left is the text's end. -/
def SufT (T : TFun) : Prop := ∀ most s p s', T most s = some (p, s') → s'.rest <:+ s.rest
theorem drop_suf (s : RS) : (dropR s).rest <:+ s.rest := by unfold dropR; exact List.tail_suffix _
theorem takes_suf {t : List UInt8} {s s' : RS} (h : takesR t s = some s') : s'.rest <:+ s.rest := by rw [(takes_lt h).1]; exact drop_suf s
theorem items_suf {T : TFun} (hT : SufT T) : ∀ f s l s', itemsR T f s = some (l, s') → s'.rest <:+ s.rest
  | 0, s, l, s', h => by cases h
  | f + 1, s, l, s', h => by
    rw [itemsR] at h
    split at h
    · cases h
    · rename_i p s1 h1
      have a := hT _ _ _ _ h1
      split at h
      · cases h; exact a
      · rename_i s2 h2
        split at h
        · cases h
        · rename_i l' s3 h3
          cases h
          exact (items_suf hT f s2 l' s' h3).trans ((takes_suf h2).trans a)
theorem loop_suf {bet : List UInt8 → O × Bool} {T : TFun} (hT : SufT T) (most : Int) : ∀ f p s q s', loopR bet T most f p s = some (q, s') → s'.rest <:+ s.rest
  | 0, p, s, q, s', h => by cases h
  | f + 1, p, s, q, s', h => by
    rw [loopR] at h
    split at h
    · cases h; exact List.suffix_refl _
    · split at h
      · cases h
      · rename_i r s1 h1
        exact (loop_suf hT most f _ s1 q s' h).trans ((hT _ _ _ _ h1).trans (drop_suf s))
theorem closed_suf {T : TFun} (hT : SufT T) {t : List UInt8} {s s' : RS} {x : Tm} (h : closedR T t s = some (x, s')) : s'.rest <:+ s.rest := by
  unfold closedR at h
  split at h
  · cases h
  · rename_i p s1 h1
    split at h
    · cases h
    · rename_i s2 h2
      cases h
      exact (takes_suf h2).trans (hT _ _ _ _ h1)
theorem tail_suf {T : TFun} (hT : SufT T) {s s' : RS} {x : Tm} (h : tailR T s = some (x, s')) : s'.rest <:+ s.rest := by
  unfold tailR at h
  split at h
  · cases h; exact List.suffix_refl _
  · rename_i s1 h1
    split at h
    · cases h
    · rename_i p s2 h2
      cases h
      exact (hT _ _ _ _ h2).trans (takes_suf h1)
theorem row_suf {T : TFun} (hT : SufT T) {s s' : RS} {x : Tm} (h : rowR T s = some (x, s')) : s'.rest <:+ s.rest := by
  unfold rowR at h
  split at h
  · cases h
  · rename_i l s1 h1
    split at h
    · cases h
    · rename_i t s2 h2
      split at h
      · cases h
      · rename_i s3 h3
        cases h
        exact (takes_suf h3).trans ((tail_suf hT h2).trans (items_suf hT _ _ _ _ h1))
theorem bracket_suf {T : TFun} (hT : SufT T) {b : List UInt8} {s s' : RS} {x : Tm} (h : bracketR T b s = some (x, s')) : s'.rest <:+ s.rest := by
  unfold bracketR at h
  split at h
  · exact closed_suf hT h
  · split at h
    · split at h
      · cases h
      · rename_i t s1 h1
        cases h
        exact closed_suf hT h1
    · split at h
      · exact row_suf hT h
      · cases h
theorem named_suf {pre bet : List UInt8 → O × Bool} {T : TFun} (hT : SufT T) {q : TokP} {most : Int} {s s' : RS} {x : TL} (h : namedR pre bet T q most s = some (x, s')) : s'.rest <:+ s.rest := by
  unfold namedR argsR aheadR at h
  split at h
  · cases h; exact drop_suf s
  · split at h
    · split at h
      · cases h
      · rename_i l s1 h1
        split at h
        · cases h
        · rename_i s2 h2
          cases h
          exact (takes_suf h2).trans ((items_suf hT _ _ _ _ h1).trans (drop_suf s))
    · split at h
      · cases h; exact List.suffix_refl _
      · split at h
        · split at h
          · cases h
          · rename_i p s1 h1
            cases h
            exact hT _ _ _ _ h1
        · split at h
          · cases h; exact List.suffix_refl _
          · cases h
theorem prim_suf {pre bet : List UInt8 → O × Bool} {T : TFun} (hT : SufT T) {most : Int} {s s' : RS} {x : TL} (h : primR pre bet T most s = some (x, s')) : s'.rest <:+ s.rest := by
  unfold primR at h
  split at h
  · exact (named_suf hT h).trans (drop_suf s)
  · split at h
    · cases h
      rw [var_rest]
      exact drop_suf s
    · split at h
      · cases h; exact drop_suf s
      · split at h
        · exact (bracket_suf hT (zero_some h).1).trans (drop_suf s)
        · cases h
theorem term_suf {pre bet : List UInt8 → O × Bool} : ∀ f, SufT (termF pre bet f)
  | 0, most, s, p, s', h => by cases h
  | f + 1, most, s, p, s', h => by
    rw [termF] at h
    unfold termB at h
    split at h
    · cases h
    · rename_i q s1 h1
      exact (loop_suf (term_suf f) most _ _ _ _ _ h).trans (prim_suf (term_suf f) h1)
end Go.Proofs.YtljgkfdnmikpfaaGreatDoor
/- Reading: texts one behind the other: from letters. Pure. -/
namespace Go.Proofs.YtljgkfdnmikpfaaGreatDoor
set_option linter.unusedVariables false

theorem next_opens (c : UInt8) (r : List UInt8) (t : TokB) (h : nextC c r = .tok t) : t.opens = openB ((c :: r).drop t.len) := by
  have base : ∀ (kind : Nat) (text : List UInt8) (n k : Nat), tokB kind text n k (c :: r) = .tok t → t.opens = openB ((c :: r).drop t.len) := fun kind text n k he => by
    unfold tokB at he
    cases he
    rfl
  have name : ∀ (k : Nat), nameB k (c :: r) = .tok t → t.opens = openB ((c :: r).drop t.len) := fun k he => by
    unfold nameB at he
    split at he
    · exact base _ _ _ _ he
    · cases he
  unfold nextC at h
  by_cases h1 : blankB c = true
  · rw [if_pos h1] at h; cases h
  rw [if_neg h1] at h
  by_cases h2 : (c == 37) = true
  · rw [if_pos h2] at h; cases h
  rw [if_neg h2] at h
  by_cases h3 : smallB c = true
  · rw [if_pos h3] at h; exact name _ h
  rw [if_neg h3] at h
  by_cases h4 : greatB c = true
  · rw [if_pos h4] at h; exact base _ _ _ _ h
  rw [if_neg h4] at h
  by_cases h5 : digitB c = true
  · rw [if_pos h5] at h
    split at h
    · exact base _ _ _ _ h
    · cases h
  rw [if_neg h5] at h
  by_cases h6 : (c == 39) = true
  · rw [if_pos h6] at h
    cases hq : quoB r with
    | none => rw [hq] at h; cases h
    | some p =>
      rw [hq] at h
      simp only at h
      split at h
      · exact base _ _ _ _ h
      · cases h
  rw [if_neg h6] at h
  by_cases h7 : (c == 46 && endB r) = true
  · rw [if_pos h7] at h; exact base _ _ _ _ h
  rw [if_neg h7] at h
  by_cases h8 : symB c = true
  · rw [if_pos h8] at h; exact name _ h
  rw [if_neg h8] at h
  by_cases h9 : (c == 59 || c == 33) = true
  · rw [if_pos h9] at h; exact name _ h
  rw [if_neg h9] at h
  by_cases h10 : ((c == 91 && r.head? == some 93) || (c == 123 && r.head? == some 125)) = true
  · rw [if_pos h10] at h; exact name _ h
  rw [if_neg h10] at h
  by_cases h11 : [40, 41, 91, 93, 123, 125, 44, 124].contains c = true
  · rw [if_pos h11] at h; exact base _ _ _ _ h
  rw [if_neg h11] at h
  cases h
theorem next_paren (r : List UInt8) : nextC 40 r = tokB 5 [40] 0 1 (40 :: r) := by
  unfold nextC
  rw [if_neg (by decide), if_neg (by decide), if_neg (by decide), if_neg (by decide), if_neg (by decide), if_neg (by decide), if_neg (by simp), if_neg (by decide), if_neg (by decide), if_neg (by simp), if_pos (by decide)]
theorem lex_wf : ∀ (n p : Nat) (s : List UInt8) (x : List (TokB × Nat)), lexL n p s = some x → WfT x
  | n, p, [], x, h => by rw [lex_nil] at h; cases h; trivial
  | 0, p, c :: r, x, h => by cases h
  | n + 1, p, c :: r, x, h => by
    rw [lexL] at h
    cases hn : nextC c r with
    | skip k => rw [hn] at h; exact lex_wf n _ _ x h
    | bad o => rw [hn] at h; cases h
    | tok u =>
      rw [hn] at h
      obtain ⟨l, hl, he⟩ := Option.map_eq_some_iff.1 h
      cases he
      refine ⟨fun ho => ?_, lex_wf n _ _ l hl⟩
      have hop := next_opens c r u hn
      simp only at ho
      rw [ho] at hop
      cases hd : (c :: r).drop u.len with
      | nil => rw [hd] at hop; cases hop
      | cons y z =>
        rw [hd] at hop hl
        unfold openB at hop
        simp only at hop
        have hy : y = 40 := by
          have := hop.symm
          simpa using this
        subst hy
        cases n with
        | zero => cases hl
        | succ n =>
          rw [lexL, next_paren] at hl
          unfold tokB at hl
          obtain ⟨l', _, he'⟩ := Option.map_eq_some_iff.1 hl
          exact ⟨_, l', he'.symm, rfl⟩
end Go.Proofs.YtljgkfdnmikpfaaGreatDoor
