import Derived.Test.YtobdhcaoeholhaaGreatDoorHszaq
import Derived.Deep.CutBlock
import Derived.Laws.StructEq
import Derived.Laws.BitsLemmas
import Derived.Lib.AtoiAll
import Derived.Test.YtobdhcaoeholhaaGreatDoorHszaa
import Derived.Test.YtobdhcaoeholhaaGreatDoorChecked
import Derived.Deep.DeepFit
import Derived.Test.YtobdhcaoeholhaaGreatDoorHszad
import Derived.Test.YtobdhcaoeholhaaGreatDoorHszaf
import Derived.Test.YtobdhcaoeholhaaGreatDoorHszae
import Derived.Test.YtobdhcaoeholhaaGreatDoorHszag
set_option linter.unusedVariables false
set_option linter.unusedSimpArgs false
/- The document's own Quote at names of one letter: Cut, Plain, Quote. -/
namespace Go.Proofs.YtobdhcaoeholhaaGreatDoor
open Go.Shelf Go.RowKit
set_option linter.unusedVariables false
set_option maxRecDepth 100000

theorem infoTokR : (Tryz.prog.info? 138).map (fun i => (i.zero, i.size, i.bytes)) = some (some (.agg #[.int .i64 0, .string ⟨#[]⟩, .int .i64 0, .bool false, .int .i64 0]), 5, 48) := by kernel_rfl
set_option maxHeartbeats 600000 in
theorem one_97 (w : World) : Calls Tryz.prog 114 #[.string ⟨#[97]⟩, .int .i64 0] w fun e w' => e = .returned (.tuple #[.agg #[.int .i64 1, .string ⟨#[97]⟩, .int .i64 0, .bool false, .int .i64 0], .int .i64 1, .int .i64 0]) ∧ Below w.heap.size w w' := by
  obtain ⟨w1, hw1, hb1, hz1, hx1⟩ := box_new w #[.int .i64 0, .string ⟨#[]⟩, .int .i64 0, .bool false, .int .i64 0] 138
  obtain ⟨r0, r1, r2, r3, r4, rf⟩ := hx1.five
  have hidx : (((⟨#[97]⟩ : ByteArray)[0]'(by decide)).toNat : Int) = 97 := rfl
  go_enter Tryz.func114, Tryz.ntmps114
  go_wp2_with fail
  (try rw [hw1])
  clear hw1 hz1 hx1
  go_wp2_with (first | (go_at_call 151; refine (small_97 _).mono ?_; rintro e w' ⟨rfl, rfl⟩) | (go_at_call 152; refine (great_97 _).mono ?_; rintro e w' ⟨rfl, rfl⟩) | (go_at_call 153; refine (word_97 _).mono ?_; rintro e w' ⟨rfl, rfl⟩) | fail)
  refine wp_loop_rounds 2 ?_
  rw [rounds_succ]
  go_wp2_with (first | (go_at_call 151; refine (small_97 _).mono ?_; rintro e w' ⟨rfl, rfl⟩) | (go_at_call 152; refine (great_97 _).mono ?_; rintro e w' ⟨rfl, rfl⟩) | (go_at_call 153; refine (word_97 _).mono ?_; rintro e w' ⟨rfl, rfl⟩) | fail)
  rw [rounds_succ]
  go_wp2_with (first | (go_at_call 151; refine (small_97 _).mono ?_; rintro e w' ⟨rfl, rfl⟩) | (go_at_call 152; refine (great_97 _).mono ?_; rintro e w' ⟨rfl, rfl⟩) | (go_at_call 153; refine (word_97 _).mono ?_; rintro e w' ⟨rfl, rfl⟩) | fail)
  refine bodyPost_ret (v := .tuple #[.agg #[.int .i64 1, .string ⟨#[97]⟩, .int .i64 0, .bool false, .int .i64 0], .int .i64 1, .int .i64 0]) (by rw [results_cell3 rfl]; go_simp; (try rfl)) rfl ?_
  refine And.intro rfl ?_
  repeat' (first | with_reducible exact hb1 | with_reducible refine Below.setCell ?_ ?_ _ | exact Nat.le_refl _)
set_option maxHeartbeats 1000000 in
theorem cut_97 (w : World) : Calls Tryz.prog 77 #[.string ⟨#[97]⟩] w fun e w' => ∃ ao cv, e = .returned (.tuple #[.slice ao 1 cv, .int .i64 1, .int .i64 0]) ∧ Toks w' (.slice ao 1 cv) [(⟨1, [97], 0, 1, false⟩, 0)] ∧ Below w.heap.size w w' := by
  obtain ⟨i0, hi0, hz0, hs0, hb0⟩ := info_parts infoTokR
  have HO := Lib.hid (one_97 w)
  have hidx : (((⟨#[97]⟩ : ByteArray)[0]'(by decide)).toNat : Int) = 97 := rfl
  go_enter Tryz.func77, Tryz.ntmps77
  go_wp2_with fail
  refine wp_loop_rounds 2 ?_
  rw [rounds_succ]
  go_wp2_with (first | (go_at_call 113; refine (blank_97 _).mono ?_; rintro e w' ⟨rfl, rfl⟩) | fail)
  (go_wp2_with fail; go_fit (HO.out); rintro e w2 ⟨rfl, hb2⟩)
  obtain ⟨w3, hw3, hb3, hz3, hx3⟩ := box_new w2 #[.int .i64 1, .string ⟨#[97]⟩, .int .i64 0, .bool false, .int .i64 0] 138
  have HB3 := Lib.hid (Ext.trans' hb2 hb3)
  have hsz3 := HB3.out.size
  obtain ⟨r0, r1, r2, r3, r4, rf⟩ := hx3.five
  have HX3 := Lib.hid hx3
  have hwz : w.heap.size ≤ w2.heap.size := hb2.size
  have HW3 := Lib.hid hw3
  clear hb2 hb3 hz3 hx3 hw3
  go_upto_region 18 with fail
  rw [HW3.out]
  go_wp2_with (at_builtin; refine wpList_append_k rfl _ _ 130 rfl w.heap.size 138 i0 (.agg #[.int .i64 0, .string ⟨#[]⟩, .int .i64 0, .bool false, .int .i64 0]) 5 48 Tryz.underlying130 hi0 hz0 hs0 (by decide) hb0 rfl (.slice none 0 0) 0 [] rfl (World.ownsRow_nil _ _ _ _) (some ⟨w3.heap.size, 0, none⟩) 1 1 [.int .i64 1, .string ⟨#[97]⟩, .int .i64 0, .bool false, .int .i64 0] rfl rfl (Or.inr ⟨_, rfl, fun j u hu => cell_new w3 #[.int .i64 1, .string ⟨#[97]⟩, .int .i64 0, .bool false, .int .i64 0] _ j u hu⟩) (by simp [Value.oneCell']) (by unfold maxLen; omega) (by omega) (by simp; omega) 1 [.int .i64 1, .string ⟨#[97]⟩, .int .i64 0, .bool false, .int .i64 0] rfl rfl ?_; intro a7 c7 w7 hown7 hgrow7 hat7)
  have hr : w7.ownsRow w.heap.size 138 5 (.slice a7 1 c7) ([(⟨1, [97], 0, 1, false⟩, 0)] : List (TokB × Nat)).length (([(⟨1, [97], 0, 1, false⟩, 0)] : List (TokB × Nat)).flatMap tCells) := hown7
  have HTk := Lib.hid (Elems.owned tCells_len hr)
  have HB7 := Lib.hid ((Ext.trans' HB3.out (bel1' w3 _)).grown hgrow7 (by simp; omega) (fun _ h => by cases h))
  clear hown7 hgrow7 hat7 hr
  rw [rounds_succ]
  go_wp2
  go_ret3
  exact ⟨_, _, rfl, HTk.out, HB7.out⟩
set_option maxHeartbeats 1000000 in
theorem plain_97 (w : World) : Calls Tryz.prog 141 #[.string ⟨#[97]⟩] w fun e w' => e = .returned (.bool true) ∧ Below w.heap.size w w' := by
  have HC := Lib.hid (cut_97 w)
  go_enter Tryz.func141, Tryz.ntmps141
  (go_wp2_with fail; go_fit (HC.out); rintro e w1 ⟨ao, cv, rfl, htk, b1⟩)
  obtain ⟨b, off, rfl, hb, d0, d1, d2, d3, d4⟩ := htk.cells (k := 0) (x := (⟨1, [97], 0, 1, false⟩, 0)) rfl
  replace d0 : w1.cell? ⟨b, off, none⟩ = some (.int .i64 1) := d0
  replace d1 : w1.cell? ⟨b, off + 1, none⟩ = some (.string ⟨#[97]⟩) := d1
  have B1 := Lib.hid b1
  clear htk b1 d2 d3 d4
  go_wp2
  go_ret
  exact ⟨rfl, B1.out⟩
theorem quote_97 (w : World) : Calls Tryz.prog 101 #[.string ⟨#[97]⟩] w fun e w' => e = .returned (.string ⟨#[97]⟩) ∧ Below w.heap.size w w' := by
  have HC := Lib.hid (plain_97 w)
  go_enter Tryz.func101, Tryz.ntmps101
  (go_wp2_with fail; go_fit (HC.out); rintro e w1 ⟨rfl, b1⟩)
  go_wp2
  go_ret
  exact ⟨rfl, b1⟩
theorem ends_61 (w : World) : Calls Tryz.prog 157 #[.string ⟨#[61]⟩, .int .i64 0] w fun e w' => e = .returned (.bool false) ∧ w = w' := by
  go_enter Tryz.func157, Tryz.ntmps157
  go_wp2
  go_ret
  exact ⟨rfl, rfl⟩
set_option maxHeartbeats 600000 in
theorem one_61 (w : World) : Calls Tryz.prog 114 #[.string ⟨#[61]⟩, .int .i64 0] w fun e w' => e = .returned (.tuple #[.agg #[.int .i64 1, .string ⟨#[61]⟩, .int .i64 0, .bool false, .int .i64 0], .int .i64 1, .int .i64 0]) ∧ Below w.heap.size w w' := by
  obtain ⟨w1, hw1, hb1, hz1, hx1⟩ := box_new w #[.int .i64 0, .string ⟨#[]⟩, .int .i64 0, .bool false, .int .i64 0] 138
  obtain ⟨r0, r1, r2, r3, r4, rf⟩ := hx1.five
  have hidx : (((⟨#[61]⟩ : ByteArray)[0]'(by decide)).toNat : Int) = 61 := rfl
  go_enter Tryz.func114, Tryz.ntmps114
  go_wp2_with fail
  (try rw [hw1])
  clear hw1 hz1 hx1
  go_wp2_with (first | (go_at_call 151; refine (small_61 _).mono ?_; rintro e w' ⟨rfl, rfl⟩) | (go_at_call 152; refine (great_61 _).mono ?_; rintro e w' ⟨rfl, rfl⟩) | (go_at_call 154; refine (digit_61 _).mono ?_; rintro e w' ⟨rfl, rfl⟩) | (go_at_call 158; refine (symbol_61 _).mono ?_; rintro e w' ⟨rfl, rfl⟩) | (go_at_call 157; refine (ends_61 _).mono ?_; rintro e w' ⟨rfl, rfl⟩) | fail)
  refine wp_loop_rounds 2 ?_
  rw [rounds_succ]
  go_wp2_with (first | (go_at_call 151; refine (small_61 _).mono ?_; rintro e w' ⟨rfl, rfl⟩) | (go_at_call 152; refine (great_61 _).mono ?_; rintro e w' ⟨rfl, rfl⟩) | (go_at_call 154; refine (digit_61 _).mono ?_; rintro e w' ⟨rfl, rfl⟩) | (go_at_call 158; refine (symbol_61 _).mono ?_; rintro e w' ⟨rfl, rfl⟩) | (go_at_call 157; refine (ends_61 _).mono ?_; rintro e w' ⟨rfl, rfl⟩) | fail)
  rw [rounds_succ]
  go_wp2_with (first | (go_at_call 151; refine (small_61 _).mono ?_; rintro e w' ⟨rfl, rfl⟩) | (go_at_call 152; refine (great_61 _).mono ?_; rintro e w' ⟨rfl, rfl⟩) | (go_at_call 154; refine (digit_61 _).mono ?_; rintro e w' ⟨rfl, rfl⟩) | (go_at_call 158; refine (symbol_61 _).mono ?_; rintro e w' ⟨rfl, rfl⟩) | (go_at_call 157; refine (ends_61 _).mono ?_; rintro e w' ⟨rfl, rfl⟩) | fail)
  refine bodyPost_ret (v := .tuple #[.agg #[.int .i64 1, .string ⟨#[61]⟩, .int .i64 0, .bool false, .int .i64 0], .int .i64 1, .int .i64 0]) (by rw [results_cell3 rfl]; go_simp; (try rfl)) rfl ?_
  refine And.intro rfl ?_
  repeat' (first | with_reducible exact hb1 | with_reducible refine Below.setCell ?_ ?_ _ | exact Nat.le_refl _)
set_option maxHeartbeats 1000000 in
theorem cut_61 (w : World) : Calls Tryz.prog 77 #[.string ⟨#[61]⟩] w fun e w' => ∃ ao cv, e = .returned (.tuple #[.slice ao 1 cv, .int .i64 1, .int .i64 0]) ∧ Toks w' (.slice ao 1 cv) [(⟨1, [61], 0, 1, false⟩, 0)] ∧ Below w.heap.size w w' := by
  obtain ⟨i0, hi0, hz0, hs0, hb0⟩ := info_parts infoTokR
  have HO := Lib.hid (one_61 w)
  have hidx : (((⟨#[61]⟩ : ByteArray)[0]'(by decide)).toNat : Int) = 61 := rfl
  go_enter Tryz.func77, Tryz.ntmps77
  go_wp2_with fail
  refine wp_loop_rounds 2 ?_
  rw [rounds_succ]
  go_wp2_with (first | (go_at_call 113; refine (blank_61 _).mono ?_; rintro e w' ⟨rfl, rfl⟩) | fail)
  (go_wp2_with fail; go_fit (HO.out); rintro e w2 ⟨rfl, hb2⟩)
  obtain ⟨w3, hw3, hb3, hz3, hx3⟩ := box_new w2 #[.int .i64 1, .string ⟨#[61]⟩, .int .i64 0, .bool false, .int .i64 0] 138
  have HB3 := Lib.hid (Ext.trans' hb2 hb3)
  have hsz3 := HB3.out.size
  obtain ⟨r0, r1, r2, r3, r4, rf⟩ := hx3.five
  have HX3 := Lib.hid hx3
  have hwz : w.heap.size ≤ w2.heap.size := hb2.size
  have HW3 := Lib.hid hw3
  clear hb2 hb3 hz3 hx3 hw3
  go_upto_region 18 with fail
  rw [HW3.out]
  go_wp2_with (at_builtin; refine wpList_append_k rfl _ _ 130 rfl w.heap.size 138 i0 (.agg #[.int .i64 0, .string ⟨#[]⟩, .int .i64 0, .bool false, .int .i64 0]) 5 48 Tryz.underlying130 hi0 hz0 hs0 (by decide) hb0 rfl (.slice none 0 0) 0 [] rfl (World.ownsRow_nil _ _ _ _) (some ⟨w3.heap.size, 0, none⟩) 1 1 [.int .i64 1, .string ⟨#[61]⟩, .int .i64 0, .bool false, .int .i64 0] rfl rfl (Or.inr ⟨_, rfl, fun j u hu => cell_new w3 #[.int .i64 1, .string ⟨#[61]⟩, .int .i64 0, .bool false, .int .i64 0] _ j u hu⟩) (by simp [Value.oneCell']) (by unfold maxLen; omega) (by omega) (by simp; omega) 1 [.int .i64 1, .string ⟨#[61]⟩, .int .i64 0, .bool false, .int .i64 0] rfl rfl ?_; intro a7 c7 w7 hown7 hgrow7 hat7)
  have hr : w7.ownsRow w.heap.size 138 5 (.slice a7 1 c7) ([(⟨1, [61], 0, 1, false⟩, 0)] : List (TokB × Nat)).length (([(⟨1, [61], 0, 1, false⟩, 0)] : List (TokB × Nat)).flatMap tCells) := hown7
  have HTk := Lib.hid (Elems.owned tCells_len hr)
  have HB7 := Lib.hid ((Ext.trans' HB3.out (bel1' w3 _)).grown hgrow7 (by simp; omega) (fun _ h => by cases h))
  clear hown7 hgrow7 hat7 hr
  rw [rounds_succ]
  go_wp2
  go_ret3
  exact ⟨_, _, rfl, HTk.out, HB7.out⟩
set_option maxHeartbeats 1000000 in
theorem plain_61 (w : World) : Calls Tryz.prog 141 #[.string ⟨#[61]⟩] w fun e w' => e = .returned (.bool true) ∧ Below w.heap.size w w' := by
  have HC := Lib.hid (cut_61 w)
  go_enter Tryz.func141, Tryz.ntmps141
  (go_wp2_with fail; go_fit (HC.out); rintro e w1 ⟨ao, cv, rfl, htk, b1⟩)
  obtain ⟨b, off, rfl, hb, d0, d1, d2, d3, d4⟩ := htk.cells (k := 0) (x := (⟨1, [61], 0, 1, false⟩, 0)) rfl
  replace d0 : w1.cell? ⟨b, off, none⟩ = some (.int .i64 1) := d0
  replace d1 : w1.cell? ⟨b, off + 1, none⟩ = some (.string ⟨#[61]⟩) := d1
  have B1 := Lib.hid b1
  clear htk b1 d2 d3 d4
  go_wp2
  go_ret
  exact ⟨rfl, B1.out⟩
theorem quote_61 (w : World) : Calls Tryz.prog 101 #[.string ⟨#[61]⟩] w fun e w' => e = .returned (.string ⟨#[61]⟩) ∧ Below w.heap.size w w' := by
  have HC := Lib.hid (plain_61 w)
  go_enter Tryz.func101, Tryz.ntmps101
  (go_wp2_with fail; go_fit (HC.out); rintro e w1 ⟨rfl, b1⟩)
  go_wp2
  go_ret
  exact ⟨rfl, b1⟩
theorem ends_43 (w : World) : Calls Tryz.prog 157 #[.string ⟨#[43]⟩, .int .i64 0] w fun e w' => e = .returned (.bool false) ∧ w = w' := by
  go_enter Tryz.func157, Tryz.ntmps157
  go_wp2
  go_ret
  exact ⟨rfl, rfl⟩
set_option maxHeartbeats 600000 in
theorem one_43 (w : World) : Calls Tryz.prog 114 #[.string ⟨#[43]⟩, .int .i64 0] w fun e w' => e = .returned (.tuple #[.agg #[.int .i64 1, .string ⟨#[43]⟩, .int .i64 0, .bool false, .int .i64 0], .int .i64 1, .int .i64 0]) ∧ Below w.heap.size w w' := by
  obtain ⟨w1, hw1, hb1, hz1, hx1⟩ := box_new w #[.int .i64 0, .string ⟨#[]⟩, .int .i64 0, .bool false, .int .i64 0] 138
  obtain ⟨r0, r1, r2, r3, r4, rf⟩ := hx1.five
  have hidx : (((⟨#[43]⟩ : ByteArray)[0]'(by decide)).toNat : Int) = 43 := rfl
  go_enter Tryz.func114, Tryz.ntmps114
  go_wp2_with fail
  (try rw [hw1])
  clear hw1 hz1 hx1
  go_wp2_with (first | (go_at_call 151; refine (small_43 _).mono ?_; rintro e w' ⟨rfl, rfl⟩) | (go_at_call 152; refine (great_43 _).mono ?_; rintro e w' ⟨rfl, rfl⟩) | (go_at_call 154; refine (digit_43 _).mono ?_; rintro e w' ⟨rfl, rfl⟩) | (go_at_call 158; refine (symbol_43 _).mono ?_; rintro e w' ⟨rfl, rfl⟩) | (go_at_call 157; refine (ends_43 _).mono ?_; rintro e w' ⟨rfl, rfl⟩) | fail)
  refine wp_loop_rounds 2 ?_
  rw [rounds_succ]
  go_wp2_with (first | (go_at_call 151; refine (small_43 _).mono ?_; rintro e w' ⟨rfl, rfl⟩) | (go_at_call 152; refine (great_43 _).mono ?_; rintro e w' ⟨rfl, rfl⟩) | (go_at_call 154; refine (digit_43 _).mono ?_; rintro e w' ⟨rfl, rfl⟩) | (go_at_call 158; refine (symbol_43 _).mono ?_; rintro e w' ⟨rfl, rfl⟩) | (go_at_call 157; refine (ends_43 _).mono ?_; rintro e w' ⟨rfl, rfl⟩) | fail)
  rw [rounds_succ]
  go_wp2_with (first | (go_at_call 151; refine (small_43 _).mono ?_; rintro e w' ⟨rfl, rfl⟩) | (go_at_call 152; refine (great_43 _).mono ?_; rintro e w' ⟨rfl, rfl⟩) | (go_at_call 154; refine (digit_43 _).mono ?_; rintro e w' ⟨rfl, rfl⟩) | (go_at_call 158; refine (symbol_43 _).mono ?_; rintro e w' ⟨rfl, rfl⟩) | (go_at_call 157; refine (ends_43 _).mono ?_; rintro e w' ⟨rfl, rfl⟩) | fail)
  refine bodyPost_ret (v := .tuple #[.agg #[.int .i64 1, .string ⟨#[43]⟩, .int .i64 0, .bool false, .int .i64 0], .int .i64 1, .int .i64 0]) (by rw [results_cell3 rfl]; go_simp; (try rfl)) rfl ?_
  refine And.intro rfl ?_
  repeat' (first | with_reducible exact hb1 | with_reducible refine Below.setCell ?_ ?_ _ | exact Nat.le_refl _)
set_option maxHeartbeats 1000000 in
theorem cut_43 (w : World) : Calls Tryz.prog 77 #[.string ⟨#[43]⟩] w fun e w' => ∃ ao cv, e = .returned (.tuple #[.slice ao 1 cv, .int .i64 1, .int .i64 0]) ∧ Toks w' (.slice ao 1 cv) [(⟨1, [43], 0, 1, false⟩, 0)] ∧ Below w.heap.size w w' := by
  obtain ⟨i0, hi0, hz0, hs0, hb0⟩ := info_parts infoTokR
  have HO := Lib.hid (one_43 w)
  have hidx : (((⟨#[43]⟩ : ByteArray)[0]'(by decide)).toNat : Int) = 43 := rfl
  go_enter Tryz.func77, Tryz.ntmps77
  go_wp2_with fail
  refine wp_loop_rounds 2 ?_
  rw [rounds_succ]
  go_wp2_with (first | (go_at_call 113; refine (blank_43 _).mono ?_; rintro e w' ⟨rfl, rfl⟩) | fail)
  (go_wp2_with fail; go_fit (HO.out); rintro e w2 ⟨rfl, hb2⟩)
  obtain ⟨w3, hw3, hb3, hz3, hx3⟩ := box_new w2 #[.int .i64 1, .string ⟨#[43]⟩, .int .i64 0, .bool false, .int .i64 0] 138
  have HB3 := Lib.hid (Ext.trans' hb2 hb3)
  have hsz3 := HB3.out.size
  obtain ⟨r0, r1, r2, r3, r4, rf⟩ := hx3.five
  have HX3 := Lib.hid hx3
  have hwz : w.heap.size ≤ w2.heap.size := hb2.size
  have HW3 := Lib.hid hw3
  clear hb2 hb3 hz3 hx3 hw3
  go_upto_region 18 with fail
  rw [HW3.out]
  go_wp2_with (at_builtin; refine wpList_append_k rfl _ _ 130 rfl w.heap.size 138 i0 (.agg #[.int .i64 0, .string ⟨#[]⟩, .int .i64 0, .bool false, .int .i64 0]) 5 48 Tryz.underlying130 hi0 hz0 hs0 (by decide) hb0 rfl (.slice none 0 0) 0 [] rfl (World.ownsRow_nil _ _ _ _) (some ⟨w3.heap.size, 0, none⟩) 1 1 [.int .i64 1, .string ⟨#[43]⟩, .int .i64 0, .bool false, .int .i64 0] rfl rfl (Or.inr ⟨_, rfl, fun j u hu => cell_new w3 #[.int .i64 1, .string ⟨#[43]⟩, .int .i64 0, .bool false, .int .i64 0] _ j u hu⟩) (by simp [Value.oneCell']) (by unfold maxLen; omega) (by omega) (by simp; omega) 1 [.int .i64 1, .string ⟨#[43]⟩, .int .i64 0, .bool false, .int .i64 0] rfl rfl ?_; intro a7 c7 w7 hown7 hgrow7 hat7)
  have hr : w7.ownsRow w.heap.size 138 5 (.slice a7 1 c7) ([(⟨1, [43], 0, 1, false⟩, 0)] : List (TokB × Nat)).length (([(⟨1, [43], 0, 1, false⟩, 0)] : List (TokB × Nat)).flatMap tCells) := hown7
  have HTk := Lib.hid (Elems.owned tCells_len hr)
  have HB7 := Lib.hid ((Ext.trans' HB3.out (bel1' w3 _)).grown hgrow7 (by simp; omega) (fun _ h => by cases h))
  clear hown7 hgrow7 hat7 hr
  rw [rounds_succ]
  go_wp2
  go_ret3
  exact ⟨_, _, rfl, HTk.out, HB7.out⟩
set_option maxHeartbeats 1000000 in
theorem plain_43 (w : World) : Calls Tryz.prog 141 #[.string ⟨#[43]⟩] w fun e w' => e = .returned (.bool true) ∧ Below w.heap.size w w' := by
  have HC := Lib.hid (cut_43 w)
  go_enter Tryz.func141, Tryz.ntmps141
  (go_wp2_with fail; go_fit (HC.out); rintro e w1 ⟨ao, cv, rfl, htk, b1⟩)
  obtain ⟨b, off, rfl, hb, d0, d1, d2, d3, d4⟩ := htk.cells (k := 0) (x := (⟨1, [43], 0, 1, false⟩, 0)) rfl
  replace d0 : w1.cell? ⟨b, off, none⟩ = some (.int .i64 1) := d0
  replace d1 : w1.cell? ⟨b, off + 1, none⟩ = some (.string ⟨#[43]⟩) := d1
  have B1 := Lib.hid b1
  clear htk b1 d2 d3 d4
  go_wp2
  go_ret
  exact ⟨rfl, B1.out⟩
theorem quote_43 (w : World) : Calls Tryz.prog 101 #[.string ⟨#[43]⟩] w fun e w' => e = .returned (.string ⟨#[43]⟩) ∧ Below w.heap.size w w' := by
  have HC := Lib.hid (plain_43 w)
  go_enter Tryz.func101, Tryz.ntmps101
  (go_wp2_with fail; go_fit (HC.out); rintro e w1 ⟨rfl, b1⟩)
  go_wp2
  go_ret
  exact ⟨rfl, b1⟩
end Go.Proofs.YtobdhcaoeholhaaGreatDoor
/- The law's awake. -/
namespace Go.Proofs.YtobdhcaoeholhaaGreatDoor
open Go.Shelf Go.RowKit
set_option linter.unusedVariables false

theorem conv1r (W : World) (b : Nat) (d : Int) (h0 : 0 ≤ d) (h1 : d < 256) (hc : W.cell? ⟨b, 0, none⟩ = some (.int .u8 d)) :
    (convert 97 9 (.slice (some ⟨b, 0, none⟩) 1 1)).run Tryz.prog W = .ok (.string ⟨#[UInt8.ofNat d.toNat]⟩) W := by
  have := run_convert_bytes_back (P := Tryz.prog) W 97 9 5 ⟨b, 0, none⟩ 1 [UInt8.ofNat d.toNat] Tryz.underlying97 Tryz.underlying5 Tryz.underlying9 (fun j hj => by
    have : j = 0 := by simp at hj; omega
    subst this
    have e : ((UInt8.ofNat d.toNat).toNat : Int) = d := by
      rw [UInt8.toNat_ofNat']; omega
    simp only [List.getElem_cons_zero, e]
    simpa [Addr.add] using hc)
  exact this
theorem conv1r_new (W : World) (d : Int) (h0 : 0 ≤ d) (h1 : d < 256) :
    (convert 97 9 (.slice (some ⟨W.heap.size, 0, none⟩) 1 1)).run Tryz.prog (W.alloc (.cells #[.int .u8 d] 5)) = .ok (.string ⟨#[UInt8.ofNat d.toNat]⟩) (W.alloc (.cells #[.int .u8 d] 5)) :=
  conv1r _ _ d h0 h1 (by rw [World.cell?_alloc_at _ _ _ _ rfl]; rfl)
def nmS (n : Int) : List UInt8 := [UInt8.ofNat (48 + n).toNat]
theorem num_one {n : Int} (h0 : 0 ≤ n) (h1 : n < 10) : NC nmS n := fun w => by
  have K := fun W => conv1r_new W (48 + n) (by omega) (by omega)
  show Calls Tryz.prog 104 #[.int .i64 n] w fun e w' => e = .returned (.string ⟨#[UInt8.ofNat (48 + n).toNat]⟩) ∧ Below w.heap.size w w'
  generalize UInt8.ofNat (48 + n).toNat = c at K
  go_enter Tryz.func104, Tryz.ntmps104
  go_wp2
  go_ret
  exact ⟨rfl, (Below.refl _ _).alloc (Nat.le_refl _) _⟩
def awS : ByteArray := ⟨#[88, 32, 61, 32, 97, 32, 43, 32, 89, 46]⟩
def awT : Tm := .mk 2 0 ⟨#[61]⟩ [.mk 0 0 ⟨#[]⟩ [], .mk 2 0 ⟨#[43]⟩ [.mk 2 0 ⟨#[97]⟩ [], .mk 0 1 ⟨#[]⟩ []]]
theorem aw_read : readB oneR opsB (bl awS) = .ok (awT, [([88], 0), ([89], 1)]) := by kernel_rfl
theorem aw_vars : varsT awT [] = [0, 1] := by kernel_rfl
theorem aw_text : plainW bl nmS [0, 1] awT = [61, 40, 95, 48, 44, 43, 40, 97, 44, 95, 49, 41, 41] := by kernel_rfl
theorem aw_may : mayW (QC bl) (NC nmS) awT := by
  unfold awT
  simp only [mayW, maysW]
  refine ⟨fun h => by omega, fun _ _ => quote_61, ⟨fun h => by omega, fun h => by omega, trivial⟩, ⟨fun h => by omega, fun _ _ => quote_43, ⟨fun h => by omega, fun _ _ => quote_97, trivial⟩, ⟨fun h => by omega, fun h => by omega, trivial⟩, trivial⟩, trivial⟩
theorem aw_text_at {w : World} (he : Err w) : Calls Tryz.prog 14 #[.string awS] w fun e w' => e = .returned (.string ⟨#[61, 40, 95, 48, 44, 43, 40, 97, 44, 95, 49, 41, 41]⟩) ∧ Below w.heap.size w w' := by
  have h := text_ok (q := bl) (nm := nmS) aw_read aw_may (fun i hi => by
    rw [aw_vars] at hi
    simp at hi
    exact num_one (by omega) (by omega)) (fun i hi => by simp [nmS]) (by rw [aw_vars, aw_text]; decide) (by decide) he
  rw [aw_vars, aw_text] at h
  exact h
theorem eq_nm (a b : ByteArray) (x y : Int) (w : World) :
    (Op.equalIn 10000 54 (.agg #[.string a, .int .i64 x]) (.agg #[.string b, .int .i64 y])).run Tryz.prog w = .ok ((a.toList == b.toList) && (x == y)) w := by
  have u3 := Tryz.underlying2
  have a3 := Tryz.isAgg2
  have z3 := Tryz.sizeOf2
  have u9 := Tryz.underlying9
  have a9 := Tryz.isAgg9
  have z9 := Tryz.sizeOf9
  have hS : Tryz.prog.underlying 54 = some (.struct (Tryz.prog.fieldsOf 54)) := by kernel_rfl
  have hp : Tryz.prog.stoodInHeld 54 = false := by kernel_rfl
  rw [show (10000 : Nat) = 9999 + 1 from rfl, run_equalIn_agg w 9999 54 _ _ hS hp]
  simp only [Program.fieldsOf, Tryz.underlying54]
  go_simp
  by_cases h1 : a.toList = b.toList <;> by_cases h3 : x = y <;> simp [h1, h3]
set_option maxHeartbeats 2000000 in
theorem awake8_at {w : World} (he : Err w) : Calls Tryz.prog 13 #[] w fun e w' => e = .returned (.bool true) ∧ Below w.heap.size w w' := by
  have HE := Lib.hid he
  have HPl := Lib.hid (plain_walk w)
  have heq : ∀ wq, (Op.equalIn 10000 54 (.agg #[.string ⟨#[88]⟩, .int .i64 0]) (.agg #[.string ⟨#[88]⟩, .int .i64 0])).run Tryz.prog wq = .ok true wq := fun wq => by rw [eq_nm]; simp
  have heq2 : ∀ wq, (Op.equalIn 10000 54 (.agg #[.string ⟨#[89]⟩, .int .i64 1]) (.agg #[.string ⟨#[89]⟩, .int .i64 1])).run Tryz.prog wq = .ok true wq := fun wq => by rw [eq_nm]; simp
  clear he
  go_enter Tryz.func13, Tryz.ntmps13
  (go_wp2_with fail; go_fit (HPl.out); rintro e w1 ⟨v, rfl, ho, hb1⟩)
  have HT := Lib.hid ((term8_at ho awS (HE.out.ext hb1) (by decide)).mono fun e w' (hp : TermX w1 (readB oneR opsB (bl awS)) e w') => (show (∃ v vn, e = .returned (.tuple #[v, vn, .int .i64 0]) ∧ TmV w' awT v ∧ Nms w' vn [([88], 0), ([89], 1)]) ∧ Below w1.heap.size w1 w' by rw [aw_read] at hp; exact hp))
  have HB1 := Lib.hid hb1
  clear ho hb1 HPl
  (go_wp2_with fail; go_fit (HT.out); rintro e w2 ⟨⟨v2, vn, rfl, hv2, hn2⟩, hb2⟩)
  obtain ⟨k2, n2, s2, a2, m2, c2, rfl⟩ := hv2.full
  obtain ⟨an, cn, rfl, l1, l2, l3⟩ := hn2
  obtain ⟨b, off, rfl, hbb, hc⟩ := l3.resolve_left (by simp)
  have d0 : w2.cell? ⟨b, off, none⟩ = some (.string ⟨#[88]⟩) := hc 0 _ rfl 0 _ rfl
  have d1 : w2.cell? ⟨b, off + 1, none⟩ = some (.int .i64 0) := hc 0 _ rfl 1 _ rfl
  have d2 : w2.cell? ⟨b, off + 2, none⟩ = some (.string ⟨#[89]⟩) := hc 1 _ rfl 0 _ rfl
  have d3 : w2.cell? ⟨b, off + 3, none⟩ = some (.int .i64 1) := hc 1 _ rfl 1 _ rfl
  obtain ⟨w3, hw3, hb3, hz3, hx3⟩ := box_new w2 #[.int .i64 k2, .int .i64 n2, .string s2, .slice a2 m2 c2] 27
  have HB3 := Lib.hid (Ext.trans' (Ext.trans' HB1.out hb2) hb3)
  have HG := Good_at awT w3 _ (TmV.ext hb3 _ _ hv2)
  rw [show goodT awT = true from one_good aw_read] at HG
  have HG := Lib.hid HG
  have d0 := cell_later hb3 d0
  have d1 := cell_later hb3 d1
  have d2 := cell_later hb3 d2
  have d3 := cell_later hb3 d3
  obtain ⟨b0, b1, b2, b3, bf⟩ := hx3.four
  have l1' : 2 ≤ cn := l1
  unfold maxLen at l2
  clear hv2 hb2 hb3 hx3 hz3 l3 hc HT
  go_wp2_with fail
  (try rw [hw3])
  clear hw3
  (go_wp2_with fail; go_fit (HG.out); rintro e w4 ⟨rfl, hb4⟩)
  have HB4 := Lib.hid (Ext.trans' HB3.out hb4)
  have d0 := cell_later hb4 d0
  have d1 := cell_later hb4 d1
  have d2 := cell_later hb4 d2
  have d3 := cell_later hb4 d3
  have HTx := Lib.hid (aw_text_at (HE.out.ext HB4.out))
  clear hb4
  (go_wp2_with fail; go_fit (HTx.out); rintro e w5 ⟨rfl, hb5⟩)
  have HB5 := Lib.hid (Ext.trans' HB4.out hb5)
  clear hb5
  go_wp2
  go_ret
  exact ⟨rfl, HB5.out⟩
end Go.Proofs.YtobdhcaoeholhaaGreatDoor
/- Numbers of 64 bits with a sign, as plain functions: what chapter 2 asks, in exact integers. -/
namespace Go.Proofs.YtobdhcaoeholhaaGreatDoor

/-- A number of 64 bits. -/
def R (x : Int) : Prop := -9223372036854775808 ≤ x ∧ x ≤ 9223372036854775807
instance (x : Int) : Decidable (R x) := inferInstanceAs (Decidable (_ ∧ _))
/-- The answer, if it is one of 64 bits; else EOVER. -/
def ex (x : Int) : Int × Int := if R x then (x, 0) else (0, 3)
theorem ex_in {x : Int} (h : R x) : ex x = (x, 0) := if_pos h
theorem ex_out {x : Int} (h : ¬ R x) : ex x = (0, 3) := if_neg h
theorem wrap_in {x : Int} (h : R x) : IntKind.i64.wrap x = x := by rw [IntKind.wrap_i64]; unfold R at h; omega
theorem wrap_R (x : Int) : R (IntKind.i64.wrap x) := by rw [IntKind.wrap_i64]; unfold R; omega
theorem wrap_off (x : Int) : ∃ k : Int, IntKind.i64.wrap x = x + 18446744073709551616 * k := by
  rw [IntKind.wrap_i64]; exact ⟨-((x + 9223372036854775808) / 18446744073709551616), by omega⟩

theorem tmod_abs {x b : Int} (hb : R b) (h0 : b ≠ 0) : -9223372036854775808 < x.tmod b ∧ x.tmod b < 9223372036854775808 := by
  have h1 := Int.tmod_lt_of_pos x (b := b.natAbs) (by omega)
  have h2 := Int.lt_tmod_of_pos x (b := b.natAbs) (by omega)
  have h3 : x.tmod b = x.tmod b.natAbs := by
    rcases Int.natAbs_eq b with e | e
    · exact congrArg (x.tmod ·) e
    · exact (congrArg (x.tmod ·) e).trans (Int.tmod_neg _ _)
  unfold R at hb
  omega
/-- What is divided back tells whether a product has wrapped round. -/
theorem mul_out {a b : Int} (hb : R b) (h0 : b ≠ 0) (h : ¬ R (a * b)) : (IntKind.i64.wrap (a * b)).tdiv b ≠ a := by
  intro e
  apply h
  obtain ⟨k, hk⟩ := wrap_off (a * b)
  have h1 := Int.mul_tdiv_add_tmod (IntKind.i64.wrap (a * b)) b
  have h2 := tmod_abs (x := IntKind.i64.wrap (a * b)) hb h0
  rw [e, Int.mul_comm] at h1
  have h3 := wrap_R (a * b)
  have : k = 0 := by omega
  subst this
  rw [hk] at h3
  simpa using h3
theorem mul_in {a b : Int} (h0 : b ≠ 0) : (a * b).tdiv b = a := Int.mul_tdiv_cancel a h0
theorem tdiv_R {a b : Int} (ha : R a) (hb : R b) (h1 : b ≠ -1) : R (a.tdiv b) := by
  unfold R at *
  by_cases h2 : b = 0
  · subst h2; simp
  by_cases h3 : b = 1
  · subst h3; simpa using ha
  have h4 : (a.tdiv b).natAbs ≤ a.natAbs := by rw [Int.natAbs_tdiv]; exact Nat.div_le_self _ _
  by_cases h5 : (a.tdiv b).natAbs = a.natAbs
  · rw [Int.natAbs_tdiv] at h5
    have h6 : 2 ≤ b.natAbs := by omega
    have h8 : a.natAbs.div b.natAbs = a.natAbs / b.natAbs := rfl
    have h7 : a.natAbs / b.natAbs ≤ a.natAbs / 2 := Nat.div_le_div_left h6 (by decide)
    rw [Int.natAbs_tdiv] at h4
    have : a.natAbs = 0 := by omega
    have ha0 : a = 0 := by omega
    subst ha0; simp
  · omega
/-- Divided towards the lesser one: what is left has the divisor's sign. -/
def md (a b : Int) : Int := if a.tmod b ≠ 0 ∧ (decide (a.tmod b < 0) ≠ decide (b < 0)) then a.tmod b + b else a.tmod b
theorem ex_mul0 (a : Int) : ex (a * 0) = (0, 0) := by rw [Int.mul_zero]; rfl
end Go.Proofs.YtobdhcaoeholhaaGreatDoor
/- The document's own sum and product (sizarref1.Two). -/
namespace Go.Proofs.YtobdhcaoeholhaaGreatDoor
open Go.RowKit
set_option linter.unusedVariables false
set_option maxRecDepth 100000
theorem least_at {w : World} : Calls Tryz.prog 191 #[] w fun e w' => e = .returned (.int .i64 (-9223372036854775808)) ∧ w = w' := by
  go_enter Tryz.func191, Tryz.ntmps191
  go_wp2
  go_ret
  exact ⟨rfl, rfl⟩
theorem r_add {a b : Int} {w : World} (ha : R a) (hb : R b) : Calls Tryz.prog 178 #[.string ⟨#[43]⟩, .int .i64 a, .int .i64 b] w fun e w' => e = Ret2 (ex (a + b)) ∧ w = w' := by
  by_cases h : R (a + b)
  · have h1 := wrap_in h
    rw [ex_in h]
    have h2 : ((decide (0 ≤ a) && decide (0 ≤ b)) && decide (a + b < 0)) = false := by
      cases h3 : ((decide (0 ≤ a) && decide (0 ≤ b)) && decide (a + b < 0))
      · rfl
      · simp at h3; omega
    by_cases p0 : 0 ≤ a
    · by_cases p1 : 0 ≤ b
      · have p2 : ¬ (a + b < 0) := by omega
        go_enter Tryz.func178, Tryz.ntmps178
        go_wp2
        go_ret2
        exact ⟨rfl, rfl⟩
      · go_enter Tryz.func178, Tryz.ntmps178
        go_wp2
        go_ret2
        exact ⟨rfl, rfl⟩
    · by_cases p1 : 0 ≤ b
      · go_enter Tryz.func178, Tryz.ntmps178
        go_wp2
        go_ret2
        exact ⟨rfl, rfl⟩
      · have p2 : ¬ (0 ≤ a + b) := by omega
        go_enter Tryz.func178, Tryz.ntmps178
        go_wp2
        go_ret2
        exact ⟨rfl, rfl⟩
  · rw [ex_out h]
    have hw : wrap64 (a + b) = (a + b + 9223372036854775808) % 18446744073709551616 - 9223372036854775808 := by rw [← IntWalk.i64_left, IntKind.wrap_i64]
    by_cases p0 : 0 ≤ a
    · have p1 : 0 ≤ b := by unfold R at *; omega
      have p2 : wrap64 (a + b) < 0 := by unfold R at *; omega
      clear hw h
      go_enter Tryz.func178, Tryz.ntmps178
      go_wp2
      go_ret2
      exact ⟨rfl, rfl⟩
    · have p1 : b < 0 := by unfold R at *; omega
      have p2 : 0 ≤ wrap64 (a + b) := by unfold R at *; omega
      clear hw h
      go_enter Tryz.func178, Tryz.ntmps178
      go_wp2
      go_ret2
      exact ⟨rfl, rfl⟩
theorem ex_mul0' (b : Int) : ex (0 * b) = (0, 0) := by rw [Int.zero_mul]; rfl
set_option maxHeartbeats 1000000 in
theorem r_mul {a b : Int} {w : World} (ha : R a) (hb : R b) : Calls Tryz.prog 178 #[.string ⟨#[42]⟩, .int .i64 a, .int .i64 b] w fun e w' => e = Ret2 (ex (a * b)) ∧ w = w' := by
  by_cases a0 : a = 0
  · subst a0
    rw [ex_mul0']
    go_enter Tryz.func178, Tryz.ntmps178
    go_wp2
    go_ret2
    exact ⟨rfl, rfl⟩
  by_cases b0 : b = 0
  · subst b0
    rw [ex_mul0]
    go_enter Tryz.func178, Tryz.ntmps178
    go_wp2
    go_ret2
    exact ⟨rfl, rfl⟩
  have L := fun w => @least_at w
  by_cases c1 : a = -1
  · subst c1
    by_cases c2 : b = -9223372036854775808
    · subst c2
      rw [ex_out (by decide +kernel)]
      go_enter Tryz.func178, Tryz.ntmps178
      go_wp2_with (go_at_call 191; go_fit (L _); rintro e w' ⟨rfl, rfl⟩)
      go_ret2
      exact ⟨rfl, rfl⟩
    · have h : R (-1 * b) := by unfold R at *; omega
      have h1 := wrap_in h
      have h2 : (-1 * b).tdiv b = -1 := Int.mul_tdiv_cancel _ b0
      rw [ex_in h]
      have h4 : IntKind.i64.wrap ((-1 * b).tdiv b) = -1 := by rw [h2]; rfl
      have h5 : IntKind.i64.wrap (-1) = -1 := by rfl
      clear h
      by_cases c3 : b = -1
      · subst c3
        go_enter Tryz.func178, Tryz.ntmps178
        go_wp2_with (go_at_call 191; go_fit (L _); rintro e w' ⟨rfl, rfl⟩)
        go_ret2
        exact ⟨rfl, rfl⟩
      · generalize hp : -1 * b = p at *
        have h6 : -b = p := by omega
        go_enter Tryz.func178, Tryz.ntmps178
        go_wp2_with (go_at_call 191; go_fit (L _); rintro e w' ⟨rfl, rfl⟩)
        go_ret2
        exact ⟨rfl, rfl⟩
  by_cases c3 : b = -1
  · subst c3
    by_cases c4 : a = -9223372036854775808
    · subst c4
      rw [ex_out (by decide +kernel)]
      go_enter Tryz.func178, Tryz.ntmps178
      go_wp2_with (go_at_call 191; go_fit (L _); rintro e w' ⟨rfl, rfl⟩)
      go_ret2
      exact ⟨rfl, rfl⟩
    · have h : R (a * -1) := by unfold R at *; omega
      have h1 := wrap_in h
      have h2 : (a * -1).tdiv (-1) = a := Int.mul_tdiv_cancel _ (by decide)
      rw [ex_in h]
      have h4 : IntKind.i64.wrap ((a * -1).tdiv (-1)) = a := by rw [h2]; exact wrap_in ha
      have h5 : IntKind.i64.wrap a = a := wrap_in ha
      clear h
      generalize hp : a * -1 = p at *
      have h6 : -a = p := by omega
      go_enter Tryz.func178, Tryz.ntmps178
      go_wp2_with (go_at_call 191; go_fit (L _); rintro e w' ⟨rfl, rfl⟩)
      go_ret2
      exact ⟨rfl, rfl⟩
  have f1 : (a == 0) = false := beq_false_of_ne a0
  have f2 : (b == 0) = false := beq_false_of_ne b0
  have f3 : (a == -1) = false := beq_false_of_ne c1
  have f4 : (b == -1) = false := beq_false_of_ne c3
  by_cases h : R (a * b)
  · have h2 := wrap_in h
    have h3 := @mul_in a b b0
    have h5 := wrap_in ha
    rw [ex_in h]
    clear h
    go_enter Tryz.func178, Tryz.ntmps178
    go_wp2_with (go_at_call 191; go_fit (L _); rintro e w' ⟨rfl, rfl⟩)
    go_ret2
    exact ⟨rfl, rfl⟩
  · have h2 : (wrap64 (a * b)).tdiv b ≠ a := by rw [← IntWalk.i64_left]; exact mul_out hb b0 h
    have h3 : ((wrap64 (a * b)).tdiv b == a) = false := beq_false_of_ne h2
    have h4 : IntKind.i64.wrap ((wrap64 (a * b)).tdiv b) = (wrap64 (a * b)).tdiv b := wrap_in (tdiv_R (by rw [← IntWalk.i64_left]; exact wrap_R _) hb c3)
    rw [ex_out h]
    clear h
    go_enter Tryz.func178, Tryz.ntmps178
    go_wp2_with (go_at_call 191; go_fit (L _); rintro e w' ⟨rfl, rfl⟩)
    go_ret2
    exact ⟨rfl, rfl⟩
end Go.Proofs.YtobdhcaoeholhaaGreatDoor
/- The document's own letters (sizarref1): each small function says what the plain functions on bytes say. -/
namespace Go.Proofs.YtobdhcaoeholhaaGreatDoor
open Go.RowKit
set_option linter.unusedVariables false
set_option maxRecDepth 100000

theorem rsmall_any (c : UInt8) (w : World) : Calls Tryz.prog 151 #[.int .u8 c.toNat] w fun e w' => e = .returned (.bool (smallB c)) ∧ w = w' := by
  go_enter Tryz.func151, Tryz.ntmps151
  go_wp2
  all_goals go_ret
  all_goals exact ⟨ret_bool (by rw [small_eq]; simp_all; try omega), rfl⟩
theorem rgreat_any (c : UInt8) (w : World) : Calls Tryz.prog 152 #[.int .u8 c.toNat] w fun e w' => e = .returned (.bool (greatB c)) ∧ w = w' := by
  have hg := great_eq c
  cases h1 : decide (65 ≤ (c.toNat : Int)) <;> cases h2 : decide ((c.toNat : Int) ≤ 90) <;> cases h3 : ((c.toNat : Int) == 95)
  all_goals
    rw [h1, h2, h3] at hg
    have HG := Lib.hid hg
    clear hg
    simp only [decide_eq_true_eq, decide_eq_false_iff_not] at h1 h2
    go_enter Tryz.func152, Tryz.ntmps152
    go_wp2
    go_ret
    exact ⟨ret_bool (by rw [HG.out]; rfl), rfl⟩
theorem rdigit_any (c : UInt8) (w : World) : Calls Tryz.prog 154 #[.int .u8 c.toNat] w fun e w' => e = .returned (.bool (digitB c)) ∧ w = w' := by
  go_enter Tryz.func154, Tryz.ntmps154
  go_wp2
  all_goals go_ret
  all_goals exact ⟨ret_bool (by rw [digit_eq]; simp_all; try omega), rfl⟩
theorem rword_any (c : UInt8) (w : World) : Calls Tryz.prog 153 #[.int .u8 c.toNat] w fun e w' => e = .returned (.bool (wordB c)) ∧ w = w' := by
  have hw : wordB c = (smallB c || greatB c || digitB c) := rfl
  have HW := Lib.hid hw
  clear hw
  have A := fun w => rsmall_any c w
  have B := fun w => rgreat_any c w
  have D := fun w => rdigit_any c w
  generalize smallB c = x at A HW
  generalize greatB c = y at B HW
  generalize digitB c = z at D HW
  cases x
  · cases y
    · go_enter Tryz.func153, Tryz.ntmps153
      go_wp2_with (first | (go_at_call 151; go_fit (A _); rintro e w' ⟨rfl, rfl⟩) | (go_at_call 152; go_fit (B _); rintro e w' ⟨rfl, rfl⟩) | (go_at_call 154; go_fit (D _); rintro e w' ⟨rfl, rfl⟩))
      go_ret
      exact ⟨ret_bool (by rw [HW.out]; rfl), rfl⟩
    · go_enter Tryz.func153, Tryz.ntmps153
      go_wp2_with (first | (go_at_call 151; go_fit (A _); rintro e w' ⟨rfl, rfl⟩) | (go_at_call 152; go_fit (B _); rintro e w' ⟨rfl, rfl⟩) | (go_at_call 154; go_fit (D _); rintro e w' ⟨rfl, rfl⟩))
      go_ret
      exact ⟨ret_bool (by rw [HW.out]; rfl), rfl⟩
  · go_enter Tryz.func153, Tryz.ntmps153
    go_wp2_with (first | (go_at_call 151; go_fit (A _); rintro e w' ⟨rfl, rfl⟩) | (go_at_call 152; go_fit (B _); rintro e w' ⟨rfl, rfl⟩) | (go_at_call 154; go_fit (D _); rintro e w' ⟨rfl, rfl⟩))
    go_ret
    exact ⟨ret_bool (by rw [HW.out]; rfl), rfl⟩
theorem blank_eq : ∀ c, blankB c = ((c.toNat : Int) == 32 || (c.toNat : Int) == 9 || (c.toNat : Int) == 10 || (c.toNat : Int) == 13) := u8_all (by decide +kernel)
theorem rblank_any (c : UInt8) (w : World) : Calls Tryz.prog 113 #[.int .u8 c.toNat] w fun e w' => e = .returned (.bool (blankB c)) ∧ w = w' := by
  have hg := blank_eq c
  cases h1 : ((c.toNat : Int) == 32) <;> cases h2 : ((c.toNat : Int) == 9) <;> cases h3 : ((c.toNat : Int) == 10) <;> cases h4 : ((c.toNat : Int) == 13)
  all_goals
    rw [h1, h2, h3, h4] at hg
    have HG := Lib.hid hg
    clear hg
    (try simp only [beq_iff_eq] at h1)
    (try simp only [beq_iff_eq] at h2)
    (try simp only [beq_iff_eq] at h3)
    (try simp only [beq_iff_eq] at h4)
    first
    | (exfalso; omega)
    | (go_enter Tryz.func113, Tryz.ntmps113
       go_wp2
       go_ret
       exact ⟨ret_bool (by rw [HG.out]; rfl), rfl⟩)
/-! Symbols. -/
abbrev symS : ByteArray := ⟨#[43, 45, 42, 47, 92, 94, 60, 62, 61, 126, 58, 46, 63, 64, 35, 38, 36]⟩
theorem sym_none {c : UInt8} (h : ∀ k, k < 17 → (bl symS)[k]? ≠ some c) : symB c = false := by
  cases hs : symB c with
  | false => rfl
  | true =>
    exfalso
    have hm : c ∈ bl symS := List.contains_iff_mem.1 hs
    obtain ⟨k, hk, rfl⟩ := List.mem_iff_getElem.1 hm
    exact h k hk (List.getElem?_eq_getElem hk)
theorem sym_some {c : UInt8} {k : Nat} (hk : (bl symS)[k]? = some c) : symB c = true := by
  exact List.contains_iff_mem.2 (List.mem_of_getElem? hk)
theorem rsym_any (c : UInt8) (w : World) : Calls Tryz.prog 158 #[.int .u8 c.toNat] w fun e w' => e = .returned (.bool (symB c)) ∧ w = w' := by
  obtain ⟨y, hy⟩ : ∃ y, symB c = y := ⟨_, rfl⟩
  have HY := Lib.hid hy
  rw [hy]
  clear hy
  have hsz : symS.size = 17 := rfl
  go_enter Tryz.func158, Tryz.ntmps158
  go_wp2_with fail
  go_loop [4] (fun v => ∃ k : Nat, k ≤ 17 ∧ v = .int .i64 k ∧ Hid (∀ j, j < k → (bl symS)[j]? ≠ some c)) (fun v => 17 - (intOf v).toNat)
  case atStart => exact ⟨0, by omega, rfl, Lib.hid fun j h => absurd h (Nat.not_lt_zero j)⟩
  case round =>
    obtain ⟨k, hk, rfl, HK⟩ := hrel
    by_cases hlt : k < 17
    · have hlt' : k < symS.size := by omega
      have hg : (bl symS)[k]? = some symS[k] := List.getElem?_eq_getElem (l := bl symS) hlt'
      have HG := Lib.hid hg
      clear hg
      cases hq : ((symS[k].toNat : Int) == (c.toNat : Int))
      · have hne : ¬ symS[k] = c := fun e => by rw [e] at hq; simp at hq
        have HN := Lib.hid hne
        clear hne
        go_wp2
        go_round
        case rel => exact ⟨k + 1, by omega, by go_num, Lib.hid fun j hj => by
          by_cases e : j = k
          · subst e; rw [HG.out]; exact fun h => HN.out (Option.some.inj h)
          · exact HK.out j (by omega)⟩
        case measure => simp [intOf]; omega
      · have he : symS[k] = c := i64_u8 (eq_of_beq hq)
        obtain rfl : y = true := by have h1 := HG.out; rw [he] at h1; rw [← HY.out]; exact sym_some h1
        clear he
        go_wp2
        go_ret
        exact ⟨rfl, rfl⟩
    · obtain rfl : k = 17 := by omega
      obtain rfl : y = false := by rw [← HY.out]; exact sym_none (fun j hj => HK.out j hj)
      go_wp2
      go_ret
      exact ⟨rfl, rfl⟩
/-! The end. -/
theorem rends_out (s : ByteArray) (i : Nat) (w : World) (hi : i = s.size) (hs : s.size ≤ 140737488351232) : Calls Tryz.prog 157 #[.string s, .int .i64 i] w fun e w' => e = .returned (.bool false) ∧ w = w' := by
  go_enter Tryz.func157, Tryz.ntmps157
  go_wp2
  go_ret
  exact ⟨rfl, rfl⟩
theorem rends_other (s : ByteArray) (i : Nat) (w : World) (hi : i < s.size) (hs : s.size ≤ 140737488351232) (h : ((s[i].toNat : Int) == 46) = false) : Calls Tryz.prog 157 #[.string s, .int .i64 i] w fun e w' => e = .returned (.bool false) ∧ w = w' := by
  go_enter Tryz.func157, Tryz.ntmps157
  go_wp2
  go_ret
  exact ⟨rfl, rfl⟩
theorem rends_last (s : ByteArray) (i : Nat) (w : World) (hi : i + 1 = s.size) (hs : s.size ≤ 140737488351232) (h : (((s[i]'(by omega)).toNat : Int)) = 46) : Calls Tryz.prog 157 #[.string s, .int .i64 i] w fun e w' => e = .returned (.bool true) ∧ w = w' := by
  have hq : ((i : Int) + 1 == (s.size : Int)) = true := by rw [beq_iff_eq]; omega
  go_enter Tryz.func157, Tryz.ntmps157
  go_wp2
  go_ret
  exact ⟨rfl, rfl⟩
theorem rends_next (s : ByteArray) (i : Nat) (w : World) (hi : i + 1 < s.size) (hs : s.size ≤ 140737488351232) (h : (((s[i]'(by omega)).toNat : Int)) = 46) : Calls Tryz.prog 157 #[.string s, .int .i64 i] w fun e w' => e = .returned (.bool (blankB s[i + 1] || s[i + 1] == 37)) ∧ w = w' := by
  have hq : ((i : Int) + 1 == (s.size : Int)) = false := beq_false_of_ne (by omega)
  obtain ⟨c, hc⟩ : ∃ c, s[i + 1] = c := ⟨_, rfl⟩
  have hc' : ∀ h, s[i + 1]'h = c := fun _ => hc
  rw [hc]
  have A := fun w => rblank_any c w
  obtain ⟨y, hy⟩ : ∃ y, blankB c = y := ⟨_, rfl⟩
  rw [hy] at A ⊢
  have HY := Lib.hid hy
  clear hy hc
  cases y
  · cases hd : (c == 37)
    · have hv : ((c.toNat : Int) == 37) = false := beq_false_of_ne fun e => by rw [show c = 37 from i64_u8 (by rw [e]; rfl)] at hd; exact absurd hd (by decide)
      go_enter Tryz.func157, Tryz.ntmps157
      go_wp2_with (go_at_call 113; go_fit (A _); rintro e w' ⟨rfl, rfl⟩)
      go_ret
      exact ⟨rfl, rfl⟩
    · obtain rfl : c = 37 := eq_of_beq hd
      have A : ∀ w, Calls Tryz.prog 113 #[.int .u8 37] w fun e w' => e = .returned (.bool false) ∧ w = w' := fun w => rblank_any 37 w
      go_enter Tryz.func157, Tryz.ntmps157
      go_wp2_with (go_at_call 113; go_fit (A _); rintro e w' ⟨rfl, rfl⟩)
      go_ret
      exact ⟨rfl, rfl⟩
  · go_enter Tryz.func157, Tryz.ntmps157
    go_wp2_with (go_at_call 113; go_fit (A _); rintro e w' ⟨rfl, rfl⟩)
    go_ret
    exact ⟨rfl, rfl⟩
theorem rends_any (s : ByteArray) (i : Nat) (w : World) (hi : i ≤ s.size) (hs : s.size ≤ 140737488351232) : Calls Tryz.prog 157 #[.string s, .int .i64 i] w fun e w' => e = .returned (.bool (endK (bl s) i)) ∧ w = w' := by
  by_cases hlt : i < s.size
  · rw [endK_at (l := bl s) hlt, bl_get s i hlt]
    cases h : ((s[i].toNat : Int) == 46)
    · have hc : (s[i] == 46) = false := beq_false_of_ne fun e => by rw [e] at h; exact absurd h (by decide)
      rw [hc]
      exact rends_other s i w hlt hs h
    · have hc : s[i] = 46 := i64_u8 (by rw [eq_of_beq h]; rfl)
      have hv : (s[i].toNat : Int) = 46 := eq_of_beq h
      rw [show (s[i] == 46) = true by rw [hc]; rfl, Bool.true_and]
      by_cases hl : i + 1 = s.size
      · rw [List.drop_eq_nil_of_le (by rw [bl_len]; omega)]
        exact rends_last s i w hl hs hv
      · have hl' : i + 1 < s.size := by omega
        rw [List.drop_eq_getElem_cons (l := bl s) (show i + 1 < (bl s).length from hl')]
        exact rends_next s i w hl' hs hv
  · have : endK (bl s) i = false := by unfold endK; rw [List.getElem?_eq_none (by rw [bl_len]; omega)]; rfl
    rw [this]
    exact rends_out s i w (by omega) hs
/-! Digits. -/
theorem numB_go (l : List UInt8) (k : Nat) (h : k < l.length) : numB (l.take (k + 1)) = numB (l.take k) * 10 + (l[k].toNat - 48) := by
  unfold numB
  rw [List.take_succ_eq_append_getElem h, List.foldl_append]
  rfl
theorem numB_le (l : List UInt8) (k : Nat) : numB (l.take k) ≤ numB l := by
  have h := num_mono (l.drop k) (numB (l.take k))
  unfold numB at h ⊢
  rw [← List.foldl_append, List.take_append_drop] at h
  exact h
/-- What digits read as. -/
def numR (l : List UInt8) : Int × Int := if numB l ≤ 9223372036854775807 then ((numB l : Nat), 0) else (0, 3)
set_option maxHeartbeats 1000000 in
theorem rnum_any (s : ByteArray) (w : World) (hs : s.size ≤ 140737488351232) (hn : 0 < s.size) (hd : (bl s).all digitB = true) : Calls Tryz.prog 155 #[.string s] w fun e w' => e = Ret2 (numR (bl s)) ∧ w = w' := by
  have HDG := Lib.hid (show ∀ j (h : j < s.size), digitB s[j] = true from fun j h => List.all_eq_true.1 hd _ (List.getElem_mem (l := bl s) h))
  clear hd
  obtain ⟨x1, x2, hx⟩ : ∃ x1 x2, numR (bl s) = (x1, x2) := ⟨_, _, rfl⟩
  rw [hx]
  have HX := Lib.hid hx
  clear hx
  have hc : ((s[0].toNat : Int) == 45) = false := beq_false_of_ne fun e => by have := digit_nat (HDG.out 0 hn); omega
  have hse : ¬ s = ByteArray.empty := fun e => by subst e; exact absurd hn (by decide)
  go_enter Tryz.func155, Tryz.ntmps155
  go_wp2
  go_loop [6] (fun i => ∃ k : Nat, k ≤ s.size ∧ i = .int .i64 k) (fun i => s.size - (intOf i).toNat)
  case atStart => exact ⟨0, by omega, rfl⟩
  case round =>
    obtain ⟨k, hk, rfl⟩ := hrel
    by_cases hlt : k < s.size
    · have D := fun w => rdigit_any s[k] w
      rw [HDG.out k hlt] at D
      (go_wp2_with fail; go_fit (D _); rintro e w' ⟨rfl, rfl⟩)
      go_wp2
      go_round
      case rel => exact ⟨k + 1, by omega, by go_num⟩
      case measure => simp [intOf]; omega
    · obtain rfl : k = s.size := by omega
      go_wp2
      go_loop [4, 7] (fun i n => ∃ (j q : Nat), j ≤ s.size ∧ q ≤ 9223372036854775807 ∧ i = .int .i64 j ∧ n = .int .i64 q ∧ Hid (numB ((bl s).take j) = q)) (fun i _ => s.size - (intOf i).toNat)
      case atStart => exact ⟨0, 0, by omega, by omega, rfl, rfl, Lib.hid rfl⟩
      case round =>
        obtain ⟨j, q, hj, hq, rfl, rfl, HQ⟩ := hrel
        by_cases hjl : j < s.size
        · have hdig := digit_nat (HDG.out j hjl)
          have hgo := numB_go (bl s) j hjl
          rw [HQ.out, bl_get s j hjl] at hgo
          have hle := numB_le (bl s) (j + 1)
          rw [hgo] at hle
          have HGO := Lib.hid hgo
          have hX := HX.out
          unfold numR at hX
          have M := fun w => @r_mul q 10 w (by unfold R; omega) (by decide)
          have u1 : IntKind.u8.wrap ((s[j].toNat : Int) - 48) = (s[j].toNat : Int) - 48 := by rw [IntKind.wrap_u8]; omega
          have u2 : IntKind.i64.wrap ((s[j].toNat : Int) - 48) = (s[j].toNat : Int) - 48 := wrap_in (by unfold R; omega)
          have u3 : IntKind.i64.wrap (-((s[j].toNat : Int) - 48)) = -((s[j].toNat : Int) - 48) := wrap_in (by unfold R; omega)
          have u4 : IntKind.i64.wrap (0 - ((s[j].toNat : Int) - 48)) = -((s[j].toNat : Int) - 48) := by rw [wrap_in (by unfold R; omega)]; omega
          by_cases hm : (q : Int) * 10 ≤ 9223372036854775807
          · rw [ex_in (show R ((q : Int) * 10) by unfold R; omega)] at M
            have A := fun w => @r_add ((q : Int) * 10) ((s[j].toNat : Int) - 48) w (by unfold R; omega) (by unfold R; omega)
            by_cases hf : q * 10 + (s[j].toNat - 48) ≤ 9223372036854775807
            · have hE : (q : Int) * 10 + ((s[j].toNat : Int) - 48) = ((q * 10 + (s[j].toNat - 48) : Nat) : Int) := by omega
              rw [ex_in (show R ((q : Int) * 10 + ((s[j].toNat : Int) - 48)) by unfold R; omega), hE] at A
              obtain ⟨y, hy⟩ : ∃ y : Nat, q * 10 + (s[j].toNat - 48) = y := ⟨_, rfl⟩
              rw [hy] at A hgo hf
              have HN := Lib.hid hgo
              clear hE hX hle hgo HGO hy
              obtain ⟨m, hm'⟩ : ∃ m : Int, (q : Int) * 10 = m := ⟨_, rfl⟩
              rw [hm'] at M A hm
              clear hm' HQ
              (go_wp2_with fail; go_fit (M _); rintro e w' ⟨rfl, rfl⟩)
              (go_wp2_with fail; go_fit (A _); rintro e w' ⟨rfl, rfl⟩)
              (go_wp2_with fail; go_fit (A _); rintro e w' ⟨rfl, rfl⟩)
              go_wp2
              go_round
              case rel => exact ⟨j + 1, y, by omega, hf, by go_num, by go_num, HN⟩
              case measure => simp [intOf]; omega
            · rw [ex_out (show ¬ R ((q : Int) * 10 + ((s[j].toNat : Int) - 48)) by unfold R; omega)] at A
              rw [if_neg (by omega)] at hX
              obtain ⟨rfl, rfl⟩ : x1 = 0 ∧ x2 = 3 := by cases hX; exact ⟨rfl, rfl⟩
              obtain ⟨m, hm'⟩ : ∃ m : Int, (q : Int) * 10 = m := ⟨_, rfl⟩
              rw [hm'] at M A hm
              clear hm' HQ hX hle hgo HGO hf
              (go_wp2_with fail; go_fit (M _); rintro e w' ⟨rfl, rfl⟩)
              (go_wp2_with fail; go_fit (A _); rintro e w' ⟨rfl, rfl⟩)
              (go_wp2_with fail; go_fit (A _); rintro e w' ⟨rfl, rfl⟩)
              go_wp2
              go_ret2
              exact ⟨rfl, rfl⟩
          · rw [ex_out (show ¬ R ((q : Int) * 10) by unfold R; omega)] at M
            have A := fun w => @r_add 0 ((s[j].toNat : Int) - 48) w (by decide) (by unfold R; omega)
            rw [Int.zero_add, ex_in (show R ((s[j].toNat : Int) - 48) by unfold R; omega)] at A
            rw [if_neg (by omega)] at hX
            obtain ⟨rfl, rfl⟩ : x1 = 0 ∧ x2 = 3 := by cases hX; exact ⟨rfl, rfl⟩
            clear HQ hX hle hgo HGO hm
            (go_wp2_with fail; go_fit (M _); rintro e w' ⟨rfl, rfl⟩)
            (go_wp2_with fail; go_fit (A _); rintro e w' ⟨rfl, rfl⟩)
            (go_wp2_with fail; go_fit (A _); rintro e w' ⟨rfl, rfl⟩)
            go_wp2
            go_ret2
            exact ⟨rfl, rfl⟩
        · obtain rfl : j = s.size := by omega
          have hX := HX.out
          have ht : (bl s).take s.size = bl s := List.take_of_length_le (by rw [bl_len]; exact Nat.le_refl _)
          have hQ := HQ.out
          rw [ht] at hQ
          unfold numR at hX
          rw [hQ, if_pos hq] at hX
          obtain ⟨rfl, rfl⟩ : x1 = (q : Int) ∧ x2 = 0 := by cases hX; exact ⟨rfl, rfl⟩
          clear HQ hX ht hQ HX
          go_wp2
          go_ret2
          exact ⟨rfl, rfl⟩
end Go.Proofs.YtobdhcaoeholhaaGreatDoor
/- The document's own token (sizarref1.one): words. -/
namespace Go.Proofs.YtobdhcaoeholhaaGreatDoor
open Go.RowKit
set_option linter.unusedVariables false
set_option maxRecDepth 100000

/-- A token as it is answered, where it stands not told yet. -/
abbrev rtokV (k : Int) (t : ByteArray) (n : Int) : Value := .agg #[.int .i64 k, .string t, .int .i64 n, .bool false, .int .i64 0]
abbrev roneV (k : Int) (t : ByteArray) (n : Int) (b e : Int) : Ending := .returned (.tuple #[rtokV k t n, .int .i64 b, .int .i64 e])
set_option maxHeartbeats 1000000 in
theorem rone_great (s : ByteArray) (i : Nat) (w : World) (hi : i < s.size) (hs : s.size ≤ 140737488351232) (hsm : smallB s[i] = false) (hg : greatB s[i] = true) {T : Nat} (hT : i + twK wordB (bl s) i = T) :
    Calls Tryz.prog 114 #[.string s, .int .i64 i] w fun e w' => e = roneV 3 (s.extract i T) 0 T 0 ∧ Below w.heap.size w w' := by
  have hTs : T ≤ s.size := by rw [← hT]; exact tw_max wordB (bl s) i (Nat.le_of_lt hi)
  have hiT : i ≤ T := by omega
  have HT := Lib.hid hT
  obtain ⟨c, hc⟩ : ∃ c, s[i] = c := ⟨_, rfl⟩
  have hc' : ∀ h, s[i]'h = c := fun _ => hc
  rw [hc] at hsm hg
  have A := fun w => rsmall_any c w
  have B := fun w => rgreat_any c w
  rw [hsm] at A
  rw [hg] at B
  clear hsm hg hT hc
  obtain ⟨w1, hw1, hb1, hz1, hx1⟩ := box_new w #[.int .i64 0, .string ⟨#[]⟩, .int .i64 0, .bool false, .int .i64 0] 138
  obtain ⟨r0, r1, r2, r3, r4, rf⟩ := hx1.five
  go_enter Tryz.func114, Tryz.ntmps114
  go_wp2_with fail
  (try rw [hw1])
  clear hw1 hz1 hx1
  go_wp2_with (first | (go_at_call 151; go_fit (A _); rintro e w' ⟨rfl, rfl⟩) | (go_at_call 152; go_fit (B _); rintro e w' ⟨rfl, rfl⟩) | fail)
  go_loop [8] (fun v => ∃ k : Nat, i ≤ k ∧ k ≤ s.size ∧ v = .int .i64 k ∧ k + twK wordB (bl s) k = T) (fun v => s.size - (intOf v).toNat)
  case atStart => exact ⟨i, Nat.le_refl _, by omega, rfl, HT.out⟩
  case round =>
    obtain ⟨k, hik, hk, rfl, hkT⟩ := hrel
    have HK := Lib.hid hkT
    clear hkT
    by_cases hlt : k < s.size
    · cases hp : wordB s[k]
      · have he := tw_out (l := bl s) (p := wordB) (k := k) hlt hp
        have W := fun w => rword_any s[k] w
        rw [hp] at W
        have hkT := HK.out
        rw [he] at hkT
        obtain rfl : k = T := by omega
        clear he hp HK HT hkT
        go_wp2_with (first | (go_at_call 153; go_fit (W _); rintro e w' ⟨rfl, rfl⟩) | (go_at_call 152; go_fit (B _); rintro e w' ⟨rfl, rfl⟩) | fail)
        refine bodyPost_ret (v := .tuple #[rtokV 3 (s.extract i k) 0, .int .i64 k, .int .i64 0]) (by rw [results_cell3 rfl]; go_simp; (try rfl)) rfl ?_
        refine And.intro rfl ?_
        repeat' (first | with_reducible exact hb1 | with_reducible refine Below.setCell ?_ ?_ _ | exact Nat.le_refl _)
      · have he := tw_in (l := bl s) (p := wordB) (k := k) hlt hp
        have HE := Lib.hid he
        have W := fun w => rword_any s[k] w
        rw [hp] at W
        clear he hp
        go_wp2_with (first | (go_at_call 153; go_fit (W _); rintro e w' ⟨rfl, rfl⟩) | fail)
        go_round
        case rel => exact ⟨k + 1, by omega, by omega, by go_num, by have := HK.out; rw [HE.out] at this; omega⟩
        case measure => simp [intOf]; omega
    · have he := tw_end (l := bl s) (p := wordB) (k := k) (show s.size ≤ k by omega)
      have hkT := HK.out
      rw [he] at hkT
      obtain rfl : k = T := by omega
      clear he HK HT hkT
      go_wp2_with (first | (go_at_call 152; go_fit (B _); rintro e w' ⟨rfl, rfl⟩) | fail)
      refine bodyPost_ret (v := .tuple #[rtokV 3 (s.extract i k) 0, .int .i64 k, .int .i64 0]) (by rw [results_cell3 rfl]; go_simp; (try rfl)) rfl ?_
      refine And.intro rfl ?_
      repeat' (first | with_reducible exact hb1 | with_reducible refine Below.setCell ?_ ?_ _ | exact Nat.le_refl _)
set_option maxHeartbeats 1000000 in
theorem rone_small (s : ByteArray) (i : Nat) (w : World) (hi : i < s.size) (hs : s.size ≤ 140737488351232) (hsm : smallB s[i] = true) (hg : greatB s[i] = false) {T : Nat} (hT : i + twK wordB (bl s) i = T) (h64 : (T : Int) - i ≤ 64) :
    Calls Tryz.prog 114 #[.string s, .int .i64 i] w fun e w' => e = roneV 1 (s.extract i T) 0 T 0 ∧ Below w.heap.size w w' := by
  have hTs : T ≤ s.size := by rw [← hT]; exact tw_max wordB (bl s) i (Nat.le_of_lt hi)
  have hiT : i ≤ T := by omega
  have HT := Lib.hid hT
  obtain ⟨c, hc⟩ : ∃ c, s[i] = c := ⟨_, rfl⟩
  have hc' : ∀ h, s[i]'h = c := fun _ => hc
  rw [hc] at hsm hg
  have A := fun w => rsmall_any c w
  have B := fun w => rgreat_any c w
  rw [hsm] at A
  rw [hg] at B
  clear hsm hg hT hc
  obtain ⟨w1, hw1, hb1, hz1, hx1⟩ := box_new w #[.int .i64 0, .string ⟨#[]⟩, .int .i64 0, .bool false, .int .i64 0] 138
  obtain ⟨r0, r1, r2, r3, r4, rf⟩ := hx1.five
  go_enter Tryz.func114, Tryz.ntmps114
  go_wp2_with fail
  (try rw [hw1])
  clear hw1 hz1 hx1
  go_wp2_with (first | (go_at_call 151; go_fit (A _); rintro e w' ⟨rfl, rfl⟩) | (go_at_call 152; go_fit (B _); rintro e w' ⟨rfl, rfl⟩) | fail)
  go_loop [8] (fun v => ∃ k : Nat, i ≤ k ∧ k ≤ s.size ∧ v = .int .i64 k ∧ k + twK wordB (bl s) k = T) (fun v => s.size - (intOf v).toNat)
  case atStart => exact ⟨i, Nat.le_refl _, by omega, rfl, HT.out⟩
  case round =>
    obtain ⟨k, hik, hk, rfl, hkT⟩ := hrel
    have HK := Lib.hid hkT
    clear hkT
    by_cases hlt : k < s.size
    · cases hp : wordB s[k]
      · have he := tw_out (l := bl s) (p := wordB) (k := k) hlt hp
        have W := fun w => rword_any s[k] w
        rw [hp] at W
        have hkT := HK.out
        rw [he] at hkT
        obtain rfl : k = T := by omega
        clear he hp HK HT hkT
        go_wp2_with (first | (go_at_call 153; go_fit (W _); rintro e w' ⟨rfl, rfl⟩) | (go_at_call 152; go_fit (B _); rintro e w' ⟨rfl, rfl⟩) | fail)
        refine bodyPost_ret (v := .tuple #[rtokV 1 (s.extract i k) 0, .int .i64 k, .int .i64 0]) (by rw [results_cell3 rfl]; go_simp; (try rfl)) rfl ?_
        refine And.intro rfl ?_
        repeat' (first | with_reducible exact hb1 | with_reducible refine Below.setCell ?_ ?_ _ | exact Nat.le_refl _)
      · have he := tw_in (l := bl s) (p := wordB) (k := k) hlt hp
        have HE := Lib.hid he
        have W := fun w => rword_any s[k] w
        rw [hp] at W
        clear he hp
        go_wp2_with (first | (go_at_call 153; go_fit (W _); rintro e w' ⟨rfl, rfl⟩) | fail)
        go_round
        case rel => exact ⟨k + 1, by omega, by omega, by go_num, by have := HK.out; rw [HE.out] at this; omega⟩
        case measure => simp [intOf]; omega
    · have he := tw_end (l := bl s) (p := wordB) (k := k) (show s.size ≤ k by omega)
      have hkT := HK.out
      rw [he] at hkT
      obtain rfl : k = T := by omega
      clear he HK HT hkT
      go_wp2_with (first | (go_at_call 152; go_fit (B _); rintro e w' ⟨rfl, rfl⟩) | fail)
      refine bodyPost_ret (v := .tuple #[rtokV 1 (s.extract i k) 0, .int .i64 k, .int .i64 0]) (by rw [results_cell3 rfl]; go_simp; (try rfl)) rfl ?_
      refine And.intro rfl ?_
      repeat' (first | with_reducible exact hb1 | with_reducible refine Below.setCell ?_ ?_ _ | exact Nat.le_refl _)
set_option maxHeartbeats 1000000 in
theorem rone_long (s : ByteArray) (i : Nat) (w : World) (hi : i < s.size) (hs : s.size ≤ 140737488351232) (hsm : smallB s[i] = true) (hg : greatB s[i] = false) {T : Nat} (hT : i + twK wordB (bl s) i = T) (h64 : 64 < (T : Int) - i) :
    Calls Tryz.prog 114 #[.string s, .int .i64 i] w fun e w' => e = roneV 0 ⟨#[]⟩ 0 0 3 ∧ Below w.heap.size w w' := by
  have hTs : T ≤ s.size := by rw [← hT]; exact tw_max wordB (bl s) i (Nat.le_of_lt hi)
  have hiT : i ≤ T := by omega
  have HT := Lib.hid hT
  obtain ⟨c, hc⟩ : ∃ c, s[i] = c := ⟨_, rfl⟩
  have hc' : ∀ h, s[i]'h = c := fun _ => hc
  rw [hc] at hsm hg
  have A := fun w => rsmall_any c w
  have B := fun w => rgreat_any c w
  rw [hsm] at A
  rw [hg] at B
  clear hsm hg hT hc
  obtain ⟨w1, hw1, hb1, hz1, hx1⟩ := box_new w #[.int .i64 0, .string ⟨#[]⟩, .int .i64 0, .bool false, .int .i64 0] 138
  obtain ⟨r0, r1, r2, r3, r4, rf⟩ := hx1.five
  go_enter Tryz.func114, Tryz.ntmps114
  go_wp2_with fail
  (try rw [hw1])
  clear hw1 hz1 hx1
  go_wp2_with (first | (go_at_call 151; go_fit (A _); rintro e w' ⟨rfl, rfl⟩) | (go_at_call 152; go_fit (B _); rintro e w' ⟨rfl, rfl⟩) | fail)
  go_loop [8] (fun v => ∃ k : Nat, i ≤ k ∧ k ≤ s.size ∧ v = .int .i64 k ∧ k + twK wordB (bl s) k = T) (fun v => s.size - (intOf v).toNat)
  case atStart => exact ⟨i, Nat.le_refl _, by omega, rfl, HT.out⟩
  case round =>
    obtain ⟨k, hik, hk, rfl, hkT⟩ := hrel
    have HK := Lib.hid hkT
    clear hkT
    by_cases hlt : k < s.size
    · cases hp : wordB s[k]
      · have he := tw_out (l := bl s) (p := wordB) (k := k) hlt hp
        have W := fun w => rword_any s[k] w
        rw [hp] at W
        have hkT := HK.out
        rw [he] at hkT
        obtain rfl : k = T := by omega
        clear he hp HK HT hkT
        go_wp2_with (first | (go_at_call 153; go_fit (W _); rintro e w' ⟨rfl, rfl⟩) | (go_at_call 152; go_fit (B _); rintro e w' ⟨rfl, rfl⟩) | fail)
        refine bodyPost_ret (v := .tuple #[rtokV 0 ⟨#[]⟩ 0, .int .i64 0, .int .i64 3]) (by rw [results_cell3 rfl]; go_simp; (try rfl)) rfl ?_
        refine And.intro rfl ?_
        repeat' (first | with_reducible exact hb1 | with_reducible refine Below.setCell ?_ ?_ _ | exact Nat.le_refl _)
      · have he := tw_in (l := bl s) (p := wordB) (k := k) hlt hp
        have HE := Lib.hid he
        have W := fun w => rword_any s[k] w
        rw [hp] at W
        clear he hp
        go_wp2_with (first | (go_at_call 153; go_fit (W _); rintro e w' ⟨rfl, rfl⟩) | fail)
        go_round
        case rel => exact ⟨k + 1, by omega, by omega, by go_num, by have := HK.out; rw [HE.out] at this; omega⟩
        case measure => simp [intOf]; omega
    · have he := tw_end (l := bl s) (p := wordB) (k := k) (show s.size ≤ k by omega)
      have hkT := HK.out
      rw [he] at hkT
      obtain rfl : k = T := by omega
      clear he HK HT hkT
      go_wp2_with (first | (go_at_call 152; go_fit (B _); rintro e w' ⟨rfl, rfl⟩) | fail)
      refine bodyPost_ret (v := .tuple #[rtokV 0 ⟨#[]⟩ 0, .int .i64 0, .int .i64 3]) (by rw [results_cell3 rfl]; go_simp; (try rfl)) rfl ?_
      refine And.intro rfl ?_
      repeat' (first | with_reducible exact hb1 | with_reducible refine Below.setCell ?_ ?_ _ | exact Nat.le_refl _)
end Go.Proofs.YtobdhcaoeholhaaGreatDoor
