/- Package term: Items, Vars of what is not good. -/
import Derived.Test.YthikbenfhaglkaaTnG
import Derived.Test.YthikbenfhaglkaaTnN
namespace Go.Proofs.Ythikbenfhaglkaa
open Go.RowKit
set_option linter.unusedVariables false

set_option maxHeartbeats 4000000 in
theorem items_bad (x : Tm) (w : World) (v : Value) (hv : TmV w x v) (hg : goodT x = false) : Calls Try.prog 9 #[v] w fun e w' => e = .returned (.tuple #[.slice none 0 0, v]) ∧ Below w.heap.size w w' := by
  have G := fun w (h : TmV w x v) => Good_at x w v h
  rw [hg] at G
  obtain ⟨k, n, s, a, m, c, rfl⟩ := hv.full
  have hb0 : Below w.heap.size w ((w.alloc (box4 k n s (.slice a m c) 25)).alloc (box4 0 0 ⟨#[]⟩ (.slice none 0 0) 25)) := (bel1' w _).alloc (by simp) _
  have G0 := G _ (TmV.ext hb0 _ _ hv)
  have H0 := Lib.hid hb0
  clear G hv hg hb0
  go_enter Try.func9, Try.ntmps9
  (go_wp2_with fail; go_fit (G0); rintro e w1 ⟨rfl, b1⟩)
  have c0 : w1.cell? ⟨w.heap.size, 0, none⟩ = some (.int .i64 k) := cell_later b1 (by simp)
  have c1 : w1.cell? ⟨w.heap.size, 1, none⟩ = some (.int .i64 n) := cell_later b1 (by simp)
  have c2 : w1.cell? ⟨w.heap.size, 2, none⟩ = some (.string s) := cell_later b1 (by simp)
  have c3 : w1.cell? ⟨w.heap.size, 3, none⟩ = some (.slice a m c) := cell_later b1 (by simp)
  have q0 : w1.cell? ⟨w.heap.size + 1, 0, none⟩ = some (.int .i64 0) := cell_later b1 (by simp)
  have q1 : w1.cell? ⟨w.heap.size + 1, 1, none⟩ = some (.int .i64 0) := cell_later b1 (by simp)
  have q2 : w1.cell? ⟨w.heap.size + 1, 2, none⟩ = some (.string ⟨#[]⟩) := cell_later b1 (by simp)
  have q3 : w1.cell? ⟨w.heap.size + 1, 3, none⟩ = some (.slice none 0 0) := cell_later b1 (by simp)
  have qf : ∀ j, w1.frozen? ⟨w.heap.size + 1, j, none⟩ = false := fun j => by rw [World.frozen?_of_block (b1.block (w.heap.size + 1) (by simp <;> omega))]; simp
  have B1 := Lib.hid (Ext.trans' H0.out b1)
  clear b1 G0
  go_wp2_with fail
  go_region
  go_wp2
  refine bodyPost_ret (v := .tuple #[.slice none 0 0, .agg #[.int .i64 k, .int .i64 n, .string s, .slice a m c]]) (by rw [results_tmp_cell' rfl]; go_simp) rfl ⟨rfl, ?_⟩
  exact (four_below (B := w.heap.size + 1) _ _ _ _ B1.out (by omega)).drew
theorem vars_bad (x : Tm) (w : World) (v : Value) (hv : TmV w x v) (hg : goodT x = false) : Calls Try.prog 11 #[v] w fun e w' => e = .returned (.slice none 0 0) ∧ Below w.heap.size w w' := by
  have G := fun w (h : TmV w x v) => Good_at x w v h
  rw [hg] at G
  obtain ⟨k, n, s, u, rfl⟩ := hv.four
  have G0 := G _ (TmV.ext (bel1' w (box4 k n s u 25)) _ _ hv)
  clear hv hg G
  go_enter Try.func11, Try.ntmps11
  (go_wp2_with fail; go_fit (G0); rintro e w1 ⟨rfl, b1⟩)
  have B1 := Lib.hid (Ext.trans' (bel1' w _) b1)
  clear b1
  go_wp2
  go_ret
  exact ⟨rfl, B1.out⟩
end Go.Proofs.Ythikbenfhaglkaa
