/- Operators: awake. -/
import Derived.Test.YthalpdjnclfleaaOpH
import Derived.Laws.StructEq
namespace Go.Proofs.Ythalpdjnclfleaa
open Go.Shelf Go.RowKit

theorem eq_op (a b c d : ByteArray) (x y : Int) (w : World) :
    (Op.equalIn 10000 28 (.agg #[.string a, .string b, .int .i64 x]) (.agg #[.string c, .string d, .int .i64 y])).run Try.prog w = .ok ((a.toList == c.toList) && ((b.toList == d.toList) && (x == y))) w := by
  have u3 := Try.underlying3
  have a3 := Try.isAgg3
  have z3 := Try.sizeOf3
  have u9 := Try.underlying9
  have a9 := Try.isAgg9
  have z9 := Try.sizeOf9
  have hS : Try.prog.underlying 28 = some (.struct (Try.prog.fieldsOf 28)) := by kernel_rfl
  have hp : Try.prog.stoodInHeld 28 = false := by kernel_rfl
  rw [show (10000 : Nat) = 9999 + 1 from rfl, run_equalIn_agg w 9999 28 _ _ hS hp]
  simp only [Program.fieldsOf, Try.underlying28]
  go_simp
  by_cases h1 : a.toList = c.toList <;> by_cases h2 : b.toList = d.toList <;> by_cases h3 : x = y <;> simp [h1, h2, h3]

abbrev plus : ByteArray := ⟨#[43]⟩
theorem plain_good : goodB plainB = true := by decide +kernel
theorem plain_plus : oneB plainB (bl plus) 2 = (⟨plus, yfx, 500⟩, true) := by kernel_rfl
theorem plus_sides : sidesB (bl yfx) 500 = (500, wrap64 499) := by
  unfold sidesB
  rfl

set_option maxHeartbeats 1000000 in
theorem awake_walk (w : World) : Calls Try.prog 7 #[] w fun e w' => e = .returned (.bool true) ∧ Below w.heap.size w w' := by
  go_enter Try.func7, Try.ntmps7
  (go_wp2_with fail; go_fit (plain_walk w); rintro e w1 ⟨v, rfl, h1, hb1⟩)
  have hin := in_walk h1 plus
  rw [plain_plus] at hin
  have HB1 := Lib.hid hb1; have HI := Lib.hid hin
  clear hb1 h1 hin
  (go_wp2_with fail; go_fit (HI.out); rintro e w2 ⟨rfl, hb2⟩)
  have HB2 := Lib.hid (Ext.trans' HB1.out hb2)
  clear hb2 HB1 HI
  have hs := fun (wq : World) => sides_walk plus yfx 500 wq
  rw [plus_sides, IntWalk.wrap64_in 499 (by omega)] at hs
  have HS := Lib.hid hs; clear hs
  (go_wp2_with fail; go_fit (HS.out _); rintro e w3 ⟨rfl, hb3⟩)
  have c0 : w3.cell? ⟨w2.heap.size, 0, none⟩ = some (.string plus) := cell_later hb3 (by simp)
  have c1 : w3.cell? ⟨w2.heap.size, 1, none⟩ = some (.string yfx) := cell_later hb3 (by simp)
  have c2 : w3.cell? ⟨w2.heap.size, 2, none⟩ = some (.int .i64 500) := cell_later hb3 (by simp)
  have HB3 : Hid (Below w.heap.size w w3) := Lib.hid (Ext.trans' (Ext.trans' HB2.out (bel1' _ _)) hb3)
  have heq : ∀ wq, (Op.equalIn 10000 28 (.agg #[.string ⟨#[43]⟩, .string ⟨#[121, 102, 120]⟩, .int .i64 500]) (.agg #[.string ⟨#[43]⟩, .string ⟨#[121, 102, 120]⟩, .int .i64 500])).run Try.prog wq = .ok true wq := fun wq => by rw [eq_op]; simp
  clear hb3 HS
  (go_wp2_with fail; go_fit (plain_walk _); rintro e w4 ⟨v4, rfl, h4, hb4⟩)
  have HO4 := Lib.hid h4; have HB4 := Lib.hid (Ext.trans' HB3.out hb4)
  clear h4 hb4 c0 c1 c2
  (go_wp2_with fail; go_fit (good_walk HO4.out); rintro e w5 ⟨rfl, hb5⟩)
  have HB5 := Lib.hid (Ext.trans' HB4.out hb5)
  rw [plain_good]
  clear hb5
  go_wp2
  go_ret
  exact ⟨rfl, HB5.out⟩
end Go.Proofs.Ythalpdjnclfleaa
