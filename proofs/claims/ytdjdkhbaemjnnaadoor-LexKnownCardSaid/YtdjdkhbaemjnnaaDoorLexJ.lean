/- Package lex: a token: numbers, quoted names. -/
import Derived.Test.YtdjdkhbaemjnnaaDoorLexI
namespace Go.Proofs.YtdjdkhbaemjnnaaDoor
open Go.RowKit
set_option linter.unusedVariables false

set_option maxHeartbeats 4000000 in
theorem token_quoted {s t : ByteArray} {i b : Nat} (w : World) (hi : i < s.size) (hs : s.size ≤ 140737488351232) (hb : i < b) (hbs : b ≤ s.size) (h64 : t.size ≤ 64) (o : Bool) (ho : OpenAt s b o)
    (P : ∀ w, Calls Tryd.prog 19 #[.string s, .int .i64 i] w fun e w' => e = .returned (.tuple #[.int .i64 2, .int .i64 (i : Int)]) ∧ w = w')
    (U : ∀ w, Calls Tryd.prog 20 #[.string s, .int .i64 i] w fun e w' => e = .returned (.tuple #[.string t, .int .i64 (b : Int), .int .i64 0]) ∧ Below w.heap.size w w') :
    Calls Tryd.prog 13 #[.string s, .int .i64 i] w fun e w' => e = .returned (.tuple #[.agg #[.int .i64 2, .string t, .int .i64 0, .bool o, .int .i64 (i : Int)], .int .i64 (b : Int), .int .i64 0]) ∧ Below w.heap.size w w' := by
  rcases ho with ⟨rfl, rfl⟩ | ⟨hlt, ho⟩
  · go_enter Tryd.func13, Tryd.ntmps13
    (go_wp2_with fail; go_fit (P _); rintro e w' ⟨rfl, rfl⟩)
    (go_wp2_with fail; go_fit (U _); rintro e w1 ⟨rfl, hb1⟩)
    have c0 : w1.cell? ⟨w.heap.size, 0, none⟩ = some (.int .i64 0) := cell_later hb1 (by simp <;> omega)
    have c1 : w1.cell? ⟨w.heap.size, 1, none⟩ = some (.string ⟨#[]⟩) := cell_later hb1 (by simp <;> omega)
    have c2 : w1.cell? ⟨w.heap.size, 2, none⟩ = some (.int .i64 0) := cell_later hb1 (by simp <;> omega)
    have c3 : w1.cell? ⟨w.heap.size, 3, none⟩ = some (.bool false) := cell_later hb1 (by simp <;> omega)
    have c4 : w1.cell? ⟨w.heap.size, 4, none⟩ = some (.int .i64 0) := cell_later hb1 (by simp <;> omega)
    have d0 : w1.cell? ⟨w.heap.size + 1, 0, none⟩ = some (.int .i64 2) := cell_later hb1 (by simp <;> omega)
    have d1 : w1.cell? ⟨w.heap.size + 1, 1, none⟩ = some (.string ⟨#[]⟩) := cell_later hb1 (by simp <;> omega)
    have d2 : w1.cell? ⟨w.heap.size + 1, 2, none⟩ = some (.int .i64 0) := cell_later hb1 (by simp <;> omega)
    have d3 : w1.cell? ⟨w.heap.size + 1, 3, none⟩ = some (.bool false) := cell_later hb1 (by simp <;> omega)
    have d4 : w1.cell? ⟨w.heap.size + 1, 4, none⟩ = some (.int .i64 (i : Int)) := cell_later hb1 (by simp <;> omega)
    have f0 : ∀ j, w1.frozen? ⟨w.heap.size, j, none⟩ = false := fun j => (hb1.frozen (p := ⟨w.heap.size, j, none⟩) (by simp <;> omega)).trans (by simp)
    have f1 : ∀ j, w1.frozen? ⟨w.heap.size + 1, j, none⟩ = false := fun j => (hb1.frozen (p := ⟨w.heap.size + 1, j, none⟩) (by simp <;> omega)).trans (by simp)
    have hz1 : w.heap.size + 2 ≤ w1.heap.size := by have := hb1.size; simpa using this
    have HW := Lib.hid (show Below w.heap.size w w1 from (show Below w.heap.size w _ by repeat' (first | with_reducible exact Below.refl _ _ | (with_reducible refine Below.setCell ?_ ?_ _) | (with_reducible refine Below.alloc ?_ ?_ _) | (simp; done) | (simp; omega))).trans (hb1.mono (by simp <;> omega)))
    clear hb1
    go_wp2
    (try simp only [Exit.inBlock, Exit.then])
    refine bodyPost_ret (v := .tuple #[.agg #[.int .i64 2, .string t, .int .i64 0, .bool false, .int .i64 (i : Int)], .int .i64 (s.size : Int), .int .i64 0]) (by rw [results_cell3 rfl]; go_simp) rfl ⟨rfl, ?_⟩
    repeat' (first | with_reducible exact HW.out | (with_reducible refine Below.setCell ?_ ?_ _) | (with_reducible refine Below.alloc ?_ ?_ _) | (simp; done) | (simp; omega))
  · cases o
    · go_enter Tryd.func13, Tryd.ntmps13
      (go_wp2_with fail; go_fit (P _); rintro e w' ⟨rfl, rfl⟩)
      (go_wp2_with fail; go_fit (U _); rintro e w1 ⟨rfl, hb1⟩)
      have c0 : w1.cell? ⟨w.heap.size, 0, none⟩ = some (.int .i64 0) := cell_later hb1 (by simp <;> omega)
      have c1 : w1.cell? ⟨w.heap.size, 1, none⟩ = some (.string ⟨#[]⟩) := cell_later hb1 (by simp <;> omega)
      have c2 : w1.cell? ⟨w.heap.size, 2, none⟩ = some (.int .i64 0) := cell_later hb1 (by simp <;> omega)
      have c3 : w1.cell? ⟨w.heap.size, 3, none⟩ = some (.bool false) := cell_later hb1 (by simp <;> omega)
      have c4 : w1.cell? ⟨w.heap.size, 4, none⟩ = some (.int .i64 0) := cell_later hb1 (by simp <;> omega)
      have d0 : w1.cell? ⟨w.heap.size + 1, 0, none⟩ = some (.int .i64 2) := cell_later hb1 (by simp <;> omega)
      have d1 : w1.cell? ⟨w.heap.size + 1, 1, none⟩ = some (.string ⟨#[]⟩) := cell_later hb1 (by simp <;> omega)
      have d2 : w1.cell? ⟨w.heap.size + 1, 2, none⟩ = some (.int .i64 0) := cell_later hb1 (by simp <;> omega)
      have d3 : w1.cell? ⟨w.heap.size + 1, 3, none⟩ = some (.bool false) := cell_later hb1 (by simp <;> omega)
      have d4 : w1.cell? ⟨w.heap.size + 1, 4, none⟩ = some (.int .i64 (i : Int)) := cell_later hb1 (by simp <;> omega)
      have f0 : ∀ j, w1.frozen? ⟨w.heap.size, j, none⟩ = false := fun j => (hb1.frozen (p := ⟨w.heap.size, j, none⟩) (by simp <;> omega)).trans (by simp)
      have f1 : ∀ j, w1.frozen? ⟨w.heap.size + 1, j, none⟩ = false := fun j => (hb1.frozen (p := ⟨w.heap.size + 1, j, none⟩) (by simp <;> omega)).trans (by simp)
      have hz1 : w.heap.size + 2 ≤ w1.heap.size := by have := hb1.size; simpa using this
      have HW := Lib.hid (show Below w.heap.size w w1 from (show Below w.heap.size w _ by repeat' (first | with_reducible exact Below.refl _ _ | (with_reducible refine Below.setCell ?_ ?_ _) | (with_reducible refine Below.alloc ?_ ?_ _) | (simp; done) | (simp; omega))).trans (hb1.mono (by simp <;> omega)))
      clear hb1
      go_wp2
      (try simp only [Exit.inBlock, Exit.then])
      refine bodyPost_ret (v := .tuple #[.agg #[.int .i64 2, .string t, .int .i64 0, .bool false, .int .i64 (i : Int)], .int .i64 (b : Int), .int .i64 0]) (by rw [results_cell3 rfl]; go_simp) rfl ⟨rfl, ?_⟩
      repeat' (first | with_reducible exact HW.out | (with_reducible refine Below.setCell ?_ ?_ _) | (with_reducible refine Below.alloc ?_ ?_ _) | (simp; done) | (simp; omega))
    · have ho' := eq_of_beq ho
      clear ho
      go_enter Tryd.func13, Tryd.ntmps13
      (go_wp2_with fail; go_fit (P _); rintro e w' ⟨rfl, rfl⟩)
      (go_wp2_with fail; go_fit (U _); rintro e w1 ⟨rfl, hb1⟩)
      have c0 : w1.cell? ⟨w.heap.size, 0, none⟩ = some (.int .i64 0) := cell_later hb1 (by simp <;> omega)
      have c1 : w1.cell? ⟨w.heap.size, 1, none⟩ = some (.string ⟨#[]⟩) := cell_later hb1 (by simp <;> omega)
      have c2 : w1.cell? ⟨w.heap.size, 2, none⟩ = some (.int .i64 0) := cell_later hb1 (by simp <;> omega)
      have c3 : w1.cell? ⟨w.heap.size, 3, none⟩ = some (.bool false) := cell_later hb1 (by simp <;> omega)
      have c4 : w1.cell? ⟨w.heap.size, 4, none⟩ = some (.int .i64 0) := cell_later hb1 (by simp <;> omega)
      have d0 : w1.cell? ⟨w.heap.size + 1, 0, none⟩ = some (.int .i64 2) := cell_later hb1 (by simp <;> omega)
      have d1 : w1.cell? ⟨w.heap.size + 1, 1, none⟩ = some (.string ⟨#[]⟩) := cell_later hb1 (by simp <;> omega)
      have d2 : w1.cell? ⟨w.heap.size + 1, 2, none⟩ = some (.int .i64 0) := cell_later hb1 (by simp <;> omega)
      have d3 : w1.cell? ⟨w.heap.size + 1, 3, none⟩ = some (.bool false) := cell_later hb1 (by simp <;> omega)
      have d4 : w1.cell? ⟨w.heap.size + 1, 4, none⟩ = some (.int .i64 (i : Int)) := cell_later hb1 (by simp <;> omega)
      have f0 : ∀ j, w1.frozen? ⟨w.heap.size, j, none⟩ = false := fun j => (hb1.frozen (p := ⟨w.heap.size, j, none⟩) (by simp <;> omega)).trans (by simp)
      have f1 : ∀ j, w1.frozen? ⟨w.heap.size + 1, j, none⟩ = false := fun j => (hb1.frozen (p := ⟨w.heap.size + 1, j, none⟩) (by simp <;> omega)).trans (by simp)
      have hz1 : w.heap.size + 2 ≤ w1.heap.size := by have := hb1.size; simpa using this
      have HW := Lib.hid (show Below w.heap.size w w1 from (show Below w.heap.size w _ by repeat' (first | with_reducible exact Below.refl _ _ | (with_reducible refine Below.setCell ?_ ?_ _) | (with_reducible refine Below.alloc ?_ ?_ _) | (simp; done) | (simp; omega))).trans (hb1.mono (by simp <;> omega)))
      clear hb1
      go_wp2
      (try simp only [Exit.inBlock, Exit.then])
      refine bodyPost_ret (v := .tuple #[.agg #[.int .i64 2, .string t, .int .i64 0, .bool true, .int .i64 (i : Int)], .int .i64 (b : Int), .int .i64 0]) (by rw [results_cell3 rfl]; go_simp) rfl ⟨rfl, ?_⟩
      repeat' (first | with_reducible exact HW.out | (with_reducible refine Below.setCell ?_ ?_ _) | (with_reducible refine Below.alloc ?_ ?_ _) | (simp; done) | (simp; omega))
set_option maxHeartbeats 4000000 in
theorem token_quoted_long {s t : ByteArray} {i b : Nat} (w : World) (hi : i < s.size) (hs : s.size ≤ 140737488351232) (h64 : ¬ t.size ≤ 64)
    (P : ∀ w, Calls Tryd.prog 19 #[.string s, .int .i64 i] w fun e w' => e = .returned (.tuple #[.int .i64 2, .int .i64 (i : Int)]) ∧ w = w')
    (U : ∀ w, Calls Tryd.prog 20 #[.string s, .int .i64 i] w fun e w' => e = .returned (.tuple #[.string t, .int .i64 (b : Int), .int .i64 0]) ∧ Below w.heap.size w w') :
    Calls Tryd.prog 13 #[.string s, .int .i64 i] w fun e w' => e = .returned (tokenV i (.bad true)) ∧ Below w.heap.size w w' := by
  go_enter Tryd.func13, Tryd.ntmps13
  (go_wp2_with fail; go_fit (P _); rintro e w' ⟨rfl, rfl⟩)
  (go_wp2_with fail; go_fit (U _); rintro e w1 ⟨rfl, hb1⟩)
  have c0 : w1.cell? ⟨w.heap.size, 0, none⟩ = some (.int .i64 0) := cell_later hb1 (by simp <;> omega)
  have c1 : w1.cell? ⟨w.heap.size, 1, none⟩ = some (.string ⟨#[]⟩) := cell_later hb1 (by simp <;> omega)
  have c2 : w1.cell? ⟨w.heap.size, 2, none⟩ = some (.int .i64 0) := cell_later hb1 (by simp <;> omega)
  have c3 : w1.cell? ⟨w.heap.size, 3, none⟩ = some (.bool false) := cell_later hb1 (by simp <;> omega)
  have c4 : w1.cell? ⟨w.heap.size, 4, none⟩ = some (.int .i64 0) := cell_later hb1 (by simp <;> omega)
  have d0 : w1.cell? ⟨w.heap.size + 1, 0, none⟩ = some (.int .i64 2) := cell_later hb1 (by simp <;> omega)
  have d1 : w1.cell? ⟨w.heap.size + 1, 1, none⟩ = some (.string ⟨#[]⟩) := cell_later hb1 (by simp <;> omega)
  have d2 : w1.cell? ⟨w.heap.size + 1, 2, none⟩ = some (.int .i64 0) := cell_later hb1 (by simp <;> omega)
  have d3 : w1.cell? ⟨w.heap.size + 1, 3, none⟩ = some (.bool false) := cell_later hb1 (by simp <;> omega)
  have d4 : w1.cell? ⟨w.heap.size + 1, 4, none⟩ = some (.int .i64 (i : Int)) := cell_later hb1 (by simp <;> omega)
  have f0 : ∀ j, w1.frozen? ⟨w.heap.size, j, none⟩ = false := fun j => (hb1.frozen (p := ⟨w.heap.size, j, none⟩) (by simp <;> omega)).trans (by simp)
  have f1 : ∀ j, w1.frozen? ⟨w.heap.size + 1, j, none⟩ = false := fun j => (hb1.frozen (p := ⟨w.heap.size + 1, j, none⟩) (by simp <;> omega)).trans (by simp)
  have hz1 : w.heap.size + 2 ≤ w1.heap.size := by have := hb1.size; simpa using this
  have HW := Lib.hid (show Below w.heap.size w w1 from (show Below w.heap.size w _ by repeat' (first | with_reducible exact Below.refl _ _ | (with_reducible refine Below.setCell ?_ ?_ _) | (with_reducible refine Below.alloc ?_ ?_ _) | (simp; done) | (simp; omega))).trans (hb1.mono (by simp <;> omega)))
  clear hb1
  go_wp2
  (try simp only [Exit.inBlock, Exit.then])
  refine bodyPost_ret (v := tokenV i (.bad true)) (by rw [results_cell3 rfl]; go_simp; rfl) rfl ⟨rfl, ?_⟩
  repeat' (first | with_reducible exact HW.out | (with_reducible refine Below.setCell ?_ ?_ _) | (with_reducible refine Below.alloc ?_ ?_ _) | (simp; done) | (simp; omega))
set_option maxHeartbeats 4000000 in
theorem token_num {s : ByteArray} {i b n : Nat} (w : World) (he : Err w) (hi : i < s.size) (hs : s.size ≤ 140737488351232) (hb : i < b) (hbs : b ≤ s.size) (o : Bool) (ho : OpenAt s b o)
    (P : ∀ w, Calls Tryd.prog 19 #[.string s, .int .i64 i] w fun e w' => e = .returned (.tuple #[.int .i64 4, .int .i64 (b : Int)]) ∧ w = w')
    (V : ∀ w, Err w → Calls Tryd.prog 21 #[.string (s.extract i b)] w fun e w' => e = .returned (.tuple #[.int .i64 (n : Int), .int .i64 0]) ∧ Below w.heap.size w w') :
    Calls Tryd.prog 13 #[.string s, .int .i64 i] w fun e w' => e = .returned (.tuple #[.agg #[.int .i64 4, .string ⟨#[]⟩, .int .i64 (n : Int), .bool o, .int .i64 (i : Int)], .int .i64 (b : Int), .int .i64 0]) ∧ Below w.heap.size w w' := by
  rcases ho with ⟨rfl, rfl⟩ | ⟨hlt, ho⟩
  · go_enter Tryd.func13, Tryd.ntmps13
    (go_wp2_with fail; go_fit (P _); rintro e w' ⟨rfl, rfl⟩)
    (go_wp2_with fail; go_fit (V _ (he.ext (by repeat' (first | with_reducible exact Below.refl _ _ | (with_reducible refine Below.setCell ?_ ?_ _) | (with_reducible refine Below.alloc ?_ ?_ _) | (simp; done) | (simp; omega))))); rintro e w1 ⟨rfl, hb1⟩)
    have c0 : w1.cell? ⟨w.heap.size, 0, none⟩ = some (.int .i64 0) := cell_later hb1 (by simp <;> omega)
    have c1 : w1.cell? ⟨w.heap.size, 1, none⟩ = some (.string ⟨#[]⟩) := cell_later hb1 (by simp <;> omega)
    have c2 : w1.cell? ⟨w.heap.size, 2, none⟩ = some (.int .i64 0) := cell_later hb1 (by simp <;> omega)
    have c3 : w1.cell? ⟨w.heap.size, 3, none⟩ = some (.bool false) := cell_later hb1 (by simp <;> omega)
    have c4 : w1.cell? ⟨w.heap.size, 4, none⟩ = some (.int .i64 0) := cell_later hb1 (by simp <;> omega)
    have d0 : w1.cell? ⟨w.heap.size + 1, 0, none⟩ = some (.int .i64 4) := cell_later hb1 (by simp <;> omega)
    have d1 : w1.cell? ⟨w.heap.size + 1, 1, none⟩ = some (.string ⟨#[]⟩) := cell_later hb1 (by simp <;> omega)
    have d2 : w1.cell? ⟨w.heap.size + 1, 2, none⟩ = some (.int .i64 0) := cell_later hb1 (by simp <;> omega)
    have d3 : w1.cell? ⟨w.heap.size + 1, 3, none⟩ = some (.bool false) := cell_later hb1 (by simp <;> omega)
    have d4 : w1.cell? ⟨w.heap.size + 1, 4, none⟩ = some (.int .i64 (i : Int)) := cell_later hb1 (by simp <;> omega)
    have f0 : ∀ j, w1.frozen? ⟨w.heap.size, j, none⟩ = false := fun j => (hb1.frozen (p := ⟨w.heap.size, j, none⟩) (by simp <;> omega)).trans (by simp)
    have f1 : ∀ j, w1.frozen? ⟨w.heap.size + 1, j, none⟩ = false := fun j => (hb1.frozen (p := ⟨w.heap.size + 1, j, none⟩) (by simp <;> omega)).trans (by simp)
    have hz1 : w.heap.size + 2 ≤ w1.heap.size := by have := hb1.size; simpa using this
    have HW := Lib.hid (show Below w.heap.size w w1 from (show Below w.heap.size w _ by repeat' (first | with_reducible exact Below.refl _ _ | (with_reducible refine Below.setCell ?_ ?_ _) | (with_reducible refine Below.alloc ?_ ?_ _) | (simp; done) | (simp; omega))).trans (hb1.mono (by simp <;> omega)))
    clear hb1
    go_wp2
    (try simp only [Exit.inBlock, Exit.then])
    refine bodyPost_ret (v := .tuple #[.agg #[.int .i64 4, .string ⟨#[]⟩, .int .i64 (n : Int), .bool false, .int .i64 (i : Int)], .int .i64 (s.size : Int), .int .i64 0]) (by rw [results_cell3 rfl]; go_simp) rfl ⟨rfl, ?_⟩
    repeat' (first | with_reducible exact HW.out | (with_reducible refine Below.setCell ?_ ?_ _) | (with_reducible refine Below.alloc ?_ ?_ _) | (simp; done) | (simp; omega))
  · cases o
    · go_enter Tryd.func13, Tryd.ntmps13
      (go_wp2_with fail; go_fit (P _); rintro e w' ⟨rfl, rfl⟩)
      (go_wp2_with fail; go_fit (V _ (he.ext (by repeat' (first | with_reducible exact Below.refl _ _ | (with_reducible refine Below.setCell ?_ ?_ _) | (with_reducible refine Below.alloc ?_ ?_ _) | (simp; done) | (simp; omega))))); rintro e w1 ⟨rfl, hb1⟩)
      have c0 : w1.cell? ⟨w.heap.size, 0, none⟩ = some (.int .i64 0) := cell_later hb1 (by simp <;> omega)
      have c1 : w1.cell? ⟨w.heap.size, 1, none⟩ = some (.string ⟨#[]⟩) := cell_later hb1 (by simp <;> omega)
      have c2 : w1.cell? ⟨w.heap.size, 2, none⟩ = some (.int .i64 0) := cell_later hb1 (by simp <;> omega)
      have c3 : w1.cell? ⟨w.heap.size, 3, none⟩ = some (.bool false) := cell_later hb1 (by simp <;> omega)
      have c4 : w1.cell? ⟨w.heap.size, 4, none⟩ = some (.int .i64 0) := cell_later hb1 (by simp <;> omega)
      have d0 : w1.cell? ⟨w.heap.size + 1, 0, none⟩ = some (.int .i64 4) := cell_later hb1 (by simp <;> omega)
      have d1 : w1.cell? ⟨w.heap.size + 1, 1, none⟩ = some (.string ⟨#[]⟩) := cell_later hb1 (by simp <;> omega)
      have d2 : w1.cell? ⟨w.heap.size + 1, 2, none⟩ = some (.int .i64 0) := cell_later hb1 (by simp <;> omega)
      have d3 : w1.cell? ⟨w.heap.size + 1, 3, none⟩ = some (.bool false) := cell_later hb1 (by simp <;> omega)
      have d4 : w1.cell? ⟨w.heap.size + 1, 4, none⟩ = some (.int .i64 (i : Int)) := cell_later hb1 (by simp <;> omega)
      have f0 : ∀ j, w1.frozen? ⟨w.heap.size, j, none⟩ = false := fun j => (hb1.frozen (p := ⟨w.heap.size, j, none⟩) (by simp <;> omega)).trans (by simp)
      have f1 : ∀ j, w1.frozen? ⟨w.heap.size + 1, j, none⟩ = false := fun j => (hb1.frozen (p := ⟨w.heap.size + 1, j, none⟩) (by simp <;> omega)).trans (by simp)
      have hz1 : w.heap.size + 2 ≤ w1.heap.size := by have := hb1.size; simpa using this
      have HW := Lib.hid (show Below w.heap.size w w1 from (show Below w.heap.size w _ by repeat' (first | with_reducible exact Below.refl _ _ | (with_reducible refine Below.setCell ?_ ?_ _) | (with_reducible refine Below.alloc ?_ ?_ _) | (simp; done) | (simp; omega))).trans (hb1.mono (by simp <;> omega)))
      clear hb1
      go_wp2
      (try simp only [Exit.inBlock, Exit.then])
      refine bodyPost_ret (v := .tuple #[.agg #[.int .i64 4, .string ⟨#[]⟩, .int .i64 (n : Int), .bool false, .int .i64 (i : Int)], .int .i64 (b : Int), .int .i64 0]) (by rw [results_cell3 rfl]; go_simp) rfl ⟨rfl, ?_⟩
      repeat' (first | with_reducible exact HW.out | (with_reducible refine Below.setCell ?_ ?_ _) | (with_reducible refine Below.alloc ?_ ?_ _) | (simp; done) | (simp; omega))
    · have ho' := eq_of_beq ho
      clear ho
      go_enter Tryd.func13, Tryd.ntmps13
      (go_wp2_with fail; go_fit (P _); rintro e w' ⟨rfl, rfl⟩)
      (go_wp2_with fail; go_fit (V _ (he.ext (by repeat' (first | with_reducible exact Below.refl _ _ | (with_reducible refine Below.setCell ?_ ?_ _) | (with_reducible refine Below.alloc ?_ ?_ _) | (simp; done) | (simp; omega))))); rintro e w1 ⟨rfl, hb1⟩)
      have c0 : w1.cell? ⟨w.heap.size, 0, none⟩ = some (.int .i64 0) := cell_later hb1 (by simp <;> omega)
      have c1 : w1.cell? ⟨w.heap.size, 1, none⟩ = some (.string ⟨#[]⟩) := cell_later hb1 (by simp <;> omega)
      have c2 : w1.cell? ⟨w.heap.size, 2, none⟩ = some (.int .i64 0) := cell_later hb1 (by simp <;> omega)
      have c3 : w1.cell? ⟨w.heap.size, 3, none⟩ = some (.bool false) := cell_later hb1 (by simp <;> omega)
      have c4 : w1.cell? ⟨w.heap.size, 4, none⟩ = some (.int .i64 0) := cell_later hb1 (by simp <;> omega)
      have d0 : w1.cell? ⟨w.heap.size + 1, 0, none⟩ = some (.int .i64 4) := cell_later hb1 (by simp <;> omega)
      have d1 : w1.cell? ⟨w.heap.size + 1, 1, none⟩ = some (.string ⟨#[]⟩) := cell_later hb1 (by simp <;> omega)
      have d2 : w1.cell? ⟨w.heap.size + 1, 2, none⟩ = some (.int .i64 0) := cell_later hb1 (by simp <;> omega)
      have d3 : w1.cell? ⟨w.heap.size + 1, 3, none⟩ = some (.bool false) := cell_later hb1 (by simp <;> omega)
      have d4 : w1.cell? ⟨w.heap.size + 1, 4, none⟩ = some (.int .i64 (i : Int)) := cell_later hb1 (by simp <;> omega)
      have f0 : ∀ j, w1.frozen? ⟨w.heap.size, j, none⟩ = false := fun j => (hb1.frozen (p := ⟨w.heap.size, j, none⟩) (by simp <;> omega)).trans (by simp)
      have f1 : ∀ j, w1.frozen? ⟨w.heap.size + 1, j, none⟩ = false := fun j => (hb1.frozen (p := ⟨w.heap.size + 1, j, none⟩) (by simp <;> omega)).trans (by simp)
      have hz1 : w.heap.size + 2 ≤ w1.heap.size := by have := hb1.size; simpa using this
      have HW := Lib.hid (show Below w.heap.size w w1 from (show Below w.heap.size w _ by repeat' (first | with_reducible exact Below.refl _ _ | (with_reducible refine Below.setCell ?_ ?_ _) | (with_reducible refine Below.alloc ?_ ?_ _) | (simp; done) | (simp; omega))).trans (hb1.mono (by simp <;> omega)))
      clear hb1
      go_wp2
      (try simp only [Exit.inBlock, Exit.then])
      refine bodyPost_ret (v := .tuple #[.agg #[.int .i64 4, .string ⟨#[]⟩, .int .i64 (n : Int), .bool true, .int .i64 (i : Int)], .int .i64 (b : Int), .int .i64 0]) (by rw [results_cell3 rfl]; go_simp) rfl ⟨rfl, ?_⟩
      repeat' (first | with_reducible exact HW.out | (with_reducible refine Below.setCell ?_ ?_ _) | (with_reducible refine Below.alloc ?_ ?_ _) | (simp; done) | (simp; omega))
set_option maxHeartbeats 4000000 in
theorem token_num_over {s : ByteArray} {i b : Nat} (w : World) (he : Err w) (hi : i < s.size) (hs : s.size ≤ 140737488351232) (hb : i < b) (hbs : b ≤ s.size)
    (P : ∀ w, Calls Tryd.prog 19 #[.string s, .int .i64 i] w fun e w' => e = .returned (.tuple #[.int .i64 4, .int .i64 (b : Int)]) ∧ w = w')
    (V : ∀ w, Err w → Calls Tryd.prog 21 #[.string (s.extract i b)] w fun e w' => e = .returned (.tuple #[.int .i64 0, .int .i64 3]) ∧ Below w.heap.size w w') :
    Calls Tryd.prog 13 #[.string s, .int .i64 i] w fun e w' => e = .returned (tokenV i (.bad true)) ∧ Below w.heap.size w w' := by
  go_enter Tryd.func13, Tryd.ntmps13
  (go_wp2_with fail; go_fit (P _); rintro e w' ⟨rfl, rfl⟩)
  (go_wp2_with fail; go_fit (V _ (he.ext (by repeat' (first | with_reducible exact Below.refl _ _ | (with_reducible refine Below.setCell ?_ ?_ _) | (with_reducible refine Below.alloc ?_ ?_ _) | (simp; done) | (simp; omega))))); rintro e w1 ⟨rfl, hb1⟩)
  have c0 : w1.cell? ⟨w.heap.size, 0, none⟩ = some (.int .i64 0) := cell_later hb1 (by simp <;> omega)
  have c1 : w1.cell? ⟨w.heap.size, 1, none⟩ = some (.string ⟨#[]⟩) := cell_later hb1 (by simp <;> omega)
  have c2 : w1.cell? ⟨w.heap.size, 2, none⟩ = some (.int .i64 0) := cell_later hb1 (by simp <;> omega)
  have c3 : w1.cell? ⟨w.heap.size, 3, none⟩ = some (.bool false) := cell_later hb1 (by simp <;> omega)
  have c4 : w1.cell? ⟨w.heap.size, 4, none⟩ = some (.int .i64 0) := cell_later hb1 (by simp <;> omega)
  have d0 : w1.cell? ⟨w.heap.size + 1, 0, none⟩ = some (.int .i64 4) := cell_later hb1 (by simp <;> omega)
  have d1 : w1.cell? ⟨w.heap.size + 1, 1, none⟩ = some (.string ⟨#[]⟩) := cell_later hb1 (by simp <;> omega)
  have d2 : w1.cell? ⟨w.heap.size + 1, 2, none⟩ = some (.int .i64 0) := cell_later hb1 (by simp <;> omega)
  have d3 : w1.cell? ⟨w.heap.size + 1, 3, none⟩ = some (.bool false) := cell_later hb1 (by simp <;> omega)
  have d4 : w1.cell? ⟨w.heap.size + 1, 4, none⟩ = some (.int .i64 (i : Int)) := cell_later hb1 (by simp <;> omega)
  have f0 : ∀ j, w1.frozen? ⟨w.heap.size, j, none⟩ = false := fun j => (hb1.frozen (p := ⟨w.heap.size, j, none⟩) (by simp <;> omega)).trans (by simp)
  have f1 : ∀ j, w1.frozen? ⟨w.heap.size + 1, j, none⟩ = false := fun j => (hb1.frozen (p := ⟨w.heap.size + 1, j, none⟩) (by simp <;> omega)).trans (by simp)
  have hz1 : w.heap.size + 2 ≤ w1.heap.size := by have := hb1.size; simpa using this
  have HW := Lib.hid (show Below w.heap.size w w1 from (show Below w.heap.size w _ by repeat' (first | with_reducible exact Below.refl _ _ | (with_reducible refine Below.setCell ?_ ?_ _) | (with_reducible refine Below.alloc ?_ ?_ _) | (simp; done) | (simp; omega))).trans (hb1.mono (by simp <;> omega)))
  clear hb1
  go_wp2
  (try simp only [Exit.inBlock, Exit.then])
  refine bodyPost_ret (v := tokenV i (.bad true)) (by rw [results_cell3 rfl]; go_simp; rfl) rfl ⟨rfl, ?_⟩
  repeat' (first | with_reducible exact HW.out | (with_reducible refine Below.setCell ?_ ?_ _) | (with_reducible refine Below.alloc ?_ ?_ _) | (simp; done) | (simp; omega))
end Go.Proofs.YtdjdkhbaemjnnaaDoor
