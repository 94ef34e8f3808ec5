import Derived.Test.YtaojalicnnnkmaaGreatDoorHgaae
import Derived.Laws.ResultCell
import Derived.Test.YtaojalicnnnkmaaGreatDoorHgaaa
import Derived.Test.YtaojalicnnnkmaaGreatDoorHgaad
import Derived.Laws.OwnMore
import Derived.Shelf.SlGeneric
import Derived.Shelf.SlicesQ.IndexFunc
import Derived.Shelf.Spec.SlicesGrow
import Derived.Ground.SlgfProg
import Derived.Ground.Names7Prog
import Derived.Test.YtaojalicnnnkmaaGreatDoorProg
import Derived.Test.YtaojalicnnnkmaaGreatDoorHgaac
import Derived.Lib.SliceRun
set_option linter.unusedVariables false
set_option linter.unusedSimpArgs false
/- Package lex: a token. -/
namespace Go.Proofs.YtaojalicnnnkmaaGreatDoor
open Go.RowKit
set_option linter.unusedVariables false

theorem results_cell3 {fn : Func} {p u v : Tmp} {ty : TypeId} (h : fn.results = #[.cell p ty, .tmp u, .tmp v]) (tmps : Array Value) (P : Program) (w : World) :
    (results fn tmps).run P w =
      ((asAddr (tmps.getD p undef)).run P w).andThen fun a w₁ => ((loadVar ty a).run P w₁).andThen fun x w₂ => .ok (.tuple #[x, tmps.getD u undef, tmps.getD v undef]) w₂ := by
  simp only [results, h]
  simp [Sem.run_bind, Result.andThen]
def tokV (t : TokB) (i : Nat) : Value := .agg #[.int .i64 (t.kind : Int), .string ⟨t.text.toArray⟩, .int .i64 (t.n : Int), .bool t.opens, .int .i64 (i : Int)]
def zeroV : Value := .agg #[.int .i64 0, .string ⟨#[]⟩, .int .i64 0, .bool false, .int .i64 0]
/-- What token answers. -/
def tokenV (i : Nat) : NextB → Value
  | .tok t => .tuple #[tokV t i, .int .i64 ((i + t.len : Nat) : Int), .int .i64 0]
  | .bad true => .tuple #[zeroV, .int .i64 0, .int .i64 3]
  | _ => .tuple #[zeroV, .int .i64 0, .int .i64 2]
theorem token_none {s : ByteArray} {i : Nat} (w : World) (hi : i < s.size) (hs : s.size ≤ 140737488351232)
    (P : ∀ w, Calls Tryz.prog 93 #[.string s, .int .i64 i] w fun e w' => e = .returned (.tuple #[.int .i64 0, .int .i64 (i : Int)]) ∧ w = w') :
    Calls Tryz.prog 78 #[.string s, .int .i64 i] w fun e w' => e = .returned (tokenV i (.bad false)) ∧ Below w.heap.size w w' := by
  go_enter Tryz.func78, Tryz.ntmps78
  (go_wp2_with fail; go_fit (P _); rintro e w' ⟨rfl, rfl⟩)
  go_wp2
  (try simp only [Exit.inBlock, Exit.then])
  refine bodyPost_ret (v := tokenV i (.bad false)) (by rw [results_cell3 rfl]; go_simp; rfl) rfl ⟨rfl, ?_⟩
  repeat' (first | with_reducible exact Below.refl _ _ | (with_reducible refine Below.setCell ?_ ?_ _) | (with_reducible refine Below.alloc ?_ ?_ _) | (simp; done) | (simp; omega))
/-- A '(' stands at this place. -/
def OpenAt (s : ByteArray) (b : Nat) (o : Bool) : Prop := (b = s.size ∧ o = false) ∨ ∃ h : b < s.size, ((s[b].toNat : Int) == 40) = o
set_option maxHeartbeats 4000000 in
theorem token_text {s : ByteArray} {i b : Nat} (κ : Nat) (hκ : κ = 1 ∨ κ = 3 ∨ κ = 5) (w : World) (hi : i < s.size) (hs : s.size ≤ 140737488351232) (hb : i < b) (hbs : b ≤ s.size) (h64 : κ = 1 → b - i ≤ 64) (o : Bool) (ho : OpenAt s b o)
    (P : ∀ w, Calls Tryz.prog 93 #[.string s, .int .i64 i] w fun e w' => e = .returned (.tuple #[.int .i64 (κ : Int), .int .i64 (b : Int)]) ∧ w = w') :
    Calls Tryz.prog 78 #[.string s, .int .i64 i] w fun e w' => e = .returned (.tuple #[.agg #[.int .i64 (κ : Int), .string (s.extract i b), .int .i64 0, .bool o, .int .i64 (i : Int)], .int .i64 (b : Int), .int .i64 0]) ∧ Below w.heap.size w w' := by
  have hsz : (s.extract i b).size = b - i := by simp; omega
  rcases hκ with rfl | rfl | rfl
  · have h65 := h64 rfl
    clear h64
    rcases ho with ⟨rfl, rfl⟩ | ⟨hlt, ho⟩
    · go_enter Tryz.func78, Tryz.ntmps78
      (go_wp2_with fail; go_fit (P _); rintro e w' ⟨rfl, rfl⟩)
      go_wp2
      (try simp only [Exit.inBlock, Exit.then])
      refine bodyPost_ret (v := .tuple #[.agg #[.int .i64 1, .string (s.extract i s.size), .int .i64 0, .bool false, .int .i64 (i : Int)], .int .i64 (s.size : Int), .int .i64 0]) (by rw [results_cell3 rfl]; go_simp) rfl ⟨rfl, ?_⟩
      repeat' (first | with_reducible exact Below.refl _ _ | (with_reducible refine Below.setCell ?_ ?_ _) | (with_reducible refine Below.alloc ?_ ?_ _) | (simp; done) | (simp; omega))
    · cases o
      · go_enter Tryz.func78, Tryz.ntmps78
        (go_wp2_with fail; go_fit (P _); rintro e w' ⟨rfl, rfl⟩)
        go_wp2
        (try simp only [Exit.inBlock, Exit.then])
        refine bodyPost_ret (v := .tuple #[.agg #[.int .i64 1, .string (s.extract i b), .int .i64 0, .bool false, .int .i64 (i : Int)], .int .i64 (b : Int), .int .i64 0]) (by rw [results_cell3 rfl]; go_simp) rfl ⟨rfl, ?_⟩
        repeat' (first | with_reducible exact Below.refl _ _ | (with_reducible refine Below.setCell ?_ ?_ _) | (with_reducible refine Below.alloc ?_ ?_ _) | (simp; done) | (simp; omega))
      · have ho' := eq_of_beq ho
        clear ho
        go_enter Tryz.func78, Tryz.ntmps78
        (go_wp2_with fail; go_fit (P _); rintro e w' ⟨rfl, rfl⟩)
        go_wp2
        (try simp only [Exit.inBlock, Exit.then])
        refine bodyPost_ret (v := .tuple #[.agg #[.int .i64 1, .string (s.extract i b), .int .i64 0, .bool true, .int .i64 (i : Int)], .int .i64 (b : Int), .int .i64 0]) (by rw [results_cell3 rfl]; go_simp) rfl ⟨rfl, ?_⟩
        repeat' (first | with_reducible exact Below.refl _ _ | (with_reducible refine Below.setCell ?_ ?_ _) | (with_reducible refine Below.alloc ?_ ?_ _) | (simp; done) | (simp; omega))
  · clear h64
    rcases ho with ⟨rfl, rfl⟩ | ⟨hlt, ho⟩
    · go_enter Tryz.func78, Tryz.ntmps78
      (go_wp2_with fail; go_fit (P _); rintro e w' ⟨rfl, rfl⟩)
      go_wp2
      (try simp only [Exit.inBlock, Exit.then])
      refine bodyPost_ret (v := .tuple #[.agg #[.int .i64 3, .string (s.extract i s.size), .int .i64 0, .bool false, .int .i64 (i : Int)], .int .i64 (s.size : Int), .int .i64 0]) (by rw [results_cell3 rfl]; go_simp) rfl ⟨rfl, ?_⟩
      repeat' (first | with_reducible exact Below.refl _ _ | (with_reducible refine Below.setCell ?_ ?_ _) | (with_reducible refine Below.alloc ?_ ?_ _) | (simp; done) | (simp; omega))
    · cases o
      · go_enter Tryz.func78, Tryz.ntmps78
        (go_wp2_with fail; go_fit (P _); rintro e w' ⟨rfl, rfl⟩)
        go_wp2
        (try simp only [Exit.inBlock, Exit.then])
        refine bodyPost_ret (v := .tuple #[.agg #[.int .i64 3, .string (s.extract i b), .int .i64 0, .bool false, .int .i64 (i : Int)], .int .i64 (b : Int), .int .i64 0]) (by rw [results_cell3 rfl]; go_simp) rfl ⟨rfl, ?_⟩
        repeat' (first | with_reducible exact Below.refl _ _ | (with_reducible refine Below.setCell ?_ ?_ _) | (with_reducible refine Below.alloc ?_ ?_ _) | (simp; done) | (simp; omega))
      · have ho' := eq_of_beq ho
        clear ho
        go_enter Tryz.func78, Tryz.ntmps78
        (go_wp2_with fail; go_fit (P _); rintro e w' ⟨rfl, rfl⟩)
        go_wp2
        (try simp only [Exit.inBlock, Exit.then])
        refine bodyPost_ret (v := .tuple #[.agg #[.int .i64 3, .string (s.extract i b), .int .i64 0, .bool true, .int .i64 (i : Int)], .int .i64 (b : Int), .int .i64 0]) (by rw [results_cell3 rfl]; go_simp) rfl ⟨rfl, ?_⟩
        repeat' (first | with_reducible exact Below.refl _ _ | (with_reducible refine Below.setCell ?_ ?_ _) | (with_reducible refine Below.alloc ?_ ?_ _) | (simp; done) | (simp; omega))
  · clear h64
    rcases ho with ⟨rfl, rfl⟩ | ⟨hlt, ho⟩
    · go_enter Tryz.func78, Tryz.ntmps78
      (go_wp2_with fail; go_fit (P _); rintro e w' ⟨rfl, rfl⟩)
      go_wp2
      (try simp only [Exit.inBlock, Exit.then])
      refine bodyPost_ret (v := .tuple #[.agg #[.int .i64 5, .string (s.extract i s.size), .int .i64 0, .bool false, .int .i64 (i : Int)], .int .i64 (s.size : Int), .int .i64 0]) (by rw [results_cell3 rfl]; go_simp) rfl ⟨rfl, ?_⟩
      repeat' (first | with_reducible exact Below.refl _ _ | (with_reducible refine Below.setCell ?_ ?_ _) | (with_reducible refine Below.alloc ?_ ?_ _) | (simp; done) | (simp; omega))
    · cases o
      · go_enter Tryz.func78, Tryz.ntmps78
        (go_wp2_with fail; go_fit (P _); rintro e w' ⟨rfl, rfl⟩)
        go_wp2
        (try simp only [Exit.inBlock, Exit.then])
        refine bodyPost_ret (v := .tuple #[.agg #[.int .i64 5, .string (s.extract i b), .int .i64 0, .bool false, .int .i64 (i : Int)], .int .i64 (b : Int), .int .i64 0]) (by rw [results_cell3 rfl]; go_simp) rfl ⟨rfl, ?_⟩
        repeat' (first | with_reducible exact Below.refl _ _ | (with_reducible refine Below.setCell ?_ ?_ _) | (with_reducible refine Below.alloc ?_ ?_ _) | (simp; done) | (simp; omega))
      · have ho' := eq_of_beq ho
        clear ho
        go_enter Tryz.func78, Tryz.ntmps78
        (go_wp2_with fail; go_fit (P _); rintro e w' ⟨rfl, rfl⟩)
        go_wp2
        (try simp only [Exit.inBlock, Exit.then])
        refine bodyPost_ret (v := .tuple #[.agg #[.int .i64 5, .string (s.extract i b), .int .i64 0, .bool true, .int .i64 (i : Int)], .int .i64 (b : Int), .int .i64 0]) (by rw [results_cell3 rfl]; go_simp) rfl ⟨rfl, ?_⟩
        repeat' (first | with_reducible exact Below.refl _ _ | (with_reducible refine Below.setCell ?_ ?_ _) | (with_reducible refine Below.alloc ?_ ?_ _) | (simp; done) | (simp; omega))
set_option maxHeartbeats 4000000 in
theorem token_long {s : ByteArray} {i b : Nat} (w : World) (hi : i < s.size) (hs : s.size ≤ 140737488351232) (hb : i < b) (hbs : b ≤ s.size) (h64 : ¬ b - i ≤ 64)
    (P : ∀ w, Calls Tryz.prog 93 #[.string s, .int .i64 i] w fun e w' => e = .returned (.tuple #[.int .i64 1, .int .i64 (b : Int)]) ∧ w = w') :
    Calls Tryz.prog 78 #[.string s, .int .i64 i] w fun e w' => e = .returned (tokenV i (.bad true)) ∧ Below w.heap.size w w' := by
  have hsz : (s.extract i b).size = b - i := by simp; omega
  go_enter Tryz.func78, Tryz.ntmps78
  (go_wp2_with fail; go_fit (P _); rintro e w' ⟨rfl, rfl⟩)
  go_wp2
  (try simp only [Exit.inBlock, Exit.then])
  refine bodyPost_ret (v := tokenV i (.bad true)) (by rw [results_cell3 rfl]; go_simp; rfl) rfl ⟨rfl, ?_⟩
  repeat' (first | with_reducible exact Below.refl _ _ | (with_reducible refine Below.setCell ?_ ?_ _) | (with_reducible refine Below.alloc ?_ ?_ _) | (simp; done) | (simp; omega))
set_option maxHeartbeats 4000000 in
theorem token_end {s : ByteArray} {i : Nat} (w : World) (hi : i < s.size) (hs : s.size ≤ 140737488351232) (o : Bool) (ho : OpenAt s (i + 1) o)
    (P : ∀ w, Calls Tryz.prog 93 #[.string s, .int .i64 i] w fun e w' => e = .returned (.tuple #[.int .i64 6, .int .i64 ((i : Int) + 1)]) ∧ w = w') :
    Calls Tryz.prog 78 #[.string s, .int .i64 i] w fun e w' => e = .returned (.tuple #[.agg #[.int .i64 6, .string ⟨#[]⟩, .int .i64 0, .bool o, .int .i64 (i : Int)], .int .i64 ((i : Int) + 1), .int .i64 0]) ∧ Below w.heap.size w w' := by
  rcases ho with ⟨hlt, rfl⟩ | ⟨hlt, ho⟩
  · go_enter Tryz.func78, Tryz.ntmps78
    (go_wp2_with fail; go_fit (P _); rintro e w' ⟨rfl, rfl⟩)
    go_wp2
    (try simp only [Exit.inBlock, Exit.then])
    refine bodyPost_ret (v := .tuple #[.agg #[.int .i64 6, .string ⟨#[]⟩, .int .i64 0, .bool false, .int .i64 (i : Int)], .int .i64 ((i : Int) + 1), .int .i64 0]) (by rw [results_cell3 rfl]; go_simp) rfl ⟨rfl, ?_⟩
    repeat' (first | with_reducible exact Below.refl _ _ | (with_reducible refine Below.setCell ?_ ?_ _) | (with_reducible refine Below.alloc ?_ ?_ _) | (simp; done) | (simp; omega))
  · cases o
    · go_enter Tryz.func78, Tryz.ntmps78
      (go_wp2_with fail; go_fit (P _); rintro e w' ⟨rfl, rfl⟩)
      go_wp2
      (try simp only [Exit.inBlock, Exit.then])
      refine bodyPost_ret (v := .tuple #[.agg #[.int .i64 6, .string ⟨#[]⟩, .int .i64 0, .bool false, .int .i64 (i : Int)], .int .i64 ((i : Int) + 1), .int .i64 0]) (by rw [results_cell3 rfl]; go_simp) rfl ⟨rfl, ?_⟩
      repeat' (first | with_reducible exact Below.refl _ _ | (with_reducible refine Below.setCell ?_ ?_ _) | (with_reducible refine Below.alloc ?_ ?_ _) | (simp; done) | (simp; omega))
    · have ho' := eq_of_beq ho
      clear ho
      go_enter Tryz.func78, Tryz.ntmps78
      (go_wp2_with fail; go_fit (P _); rintro e w' ⟨rfl, rfl⟩)
      go_wp2
      (try simp only [Exit.inBlock, Exit.then])
      refine bodyPost_ret (v := .tuple #[.agg #[.int .i64 6, .string ⟨#[]⟩, .int .i64 0, .bool true, .int .i64 (i : Int)], .int .i64 ((i : Int) + 1), .int .i64 0]) (by rw [results_cell3 rfl]; go_simp) rfl ⟨rfl, ?_⟩
      repeat' (first | with_reducible exact Below.refl _ _ | (with_reducible refine Below.setCell ?_ ?_ _) | (with_reducible refine Below.alloc ?_ ?_ _) | (simp; done) | (simp; omega))
set_option maxHeartbeats 4000000 in
theorem token_quote {s : ByteArray} {i : Nat} (w : World) (hi : i < s.size) (hs : s.size ≤ 140737488351232)
    (P : ∀ w, Calls Tryz.prog 93 #[.string s, .int .i64 i] w fun e w' => e = .returned (.tuple #[.int .i64 2, .int .i64 (i : Int)]) ∧ w = w')
    (U : ∀ w, Calls Tryz.prog 94 #[.string s, .int .i64 i] w fun e w' => e = .returned (.tuple #[.string ⟨#[]⟩, .int .i64 0, .int .i64 2]) ∧ Below w.heap.size w w') :
    Calls Tryz.prog 78 #[.string s, .int .i64 i] w fun e w' => e = .returned (tokenV i (.bad false)) ∧ Below w.heap.size w w' := by
    go_enter Tryz.func78, Tryz.ntmps78
    (go_wp2_with fail; go_fit (P _); rintro e w' ⟨rfl, rfl⟩)
    (go_wp2_with fail; go_fit (U _); rintro e w1 ⟨rfl, hb1⟩)
    have c0 : w1.cell? ⟨w.heap.size, 0, none⟩ = some (.int .i64 0) := cell_later hb1 (by simp <;> omega)
    have c1 : w1.cell? ⟨w.heap.size, 1, none⟩ = some (.string ⟨#[]⟩) := cell_later hb1 (by simp <;> omega)
    have c2 : w1.cell? ⟨w.heap.size, 2, none⟩ = some (.int .i64 0) := cell_later hb1 (by simp <;> omega)
    have c3 : w1.cell? ⟨w.heap.size, 3, none⟩ = some (.bool false) := cell_later hb1 (by simp <;> omega)
    have c4 : w1.cell? ⟨w.heap.size, 4, none⟩ = some (.int .i64 0) := cell_later hb1 (by simp <;> omega)
    have d0 : w1.cell? ⟨w.heap.size + 1, 0, none⟩ = some (.int .i64 2) := cell_later hb1 (by simp <;> omega)
    have d1 : w1.cell? ⟨w.heap.size + 1, 1, none⟩ = some (.string ⟨#[]⟩) := cell_later hb1 (by simp <;> omega)
    have d2 : w1.cell? ⟨w.heap.size + 1, 2, none⟩ = some (.int .i64 0) := cell_later hb1 (by simp <;> omega)
    have d3 : w1.cell? ⟨w.heap.size + 1, 3, none⟩ = some (.bool false) := cell_later hb1 (by simp <;> omega)
    have d4 : w1.cell? ⟨w.heap.size + 1, 4, none⟩ = some (.int .i64 (i : Int)) := cell_later hb1 (by simp <;> omega)
    have f0 : ∀ j, w1.frozen? ⟨w.heap.size, j, none⟩ = false := fun j => (hb1.frozen (p := ⟨w.heap.size, j, none⟩) (by simp <;> omega)).trans (by simp)
    have f1 : ∀ j, w1.frozen? ⟨w.heap.size + 1, j, none⟩ = false := fun j => (hb1.frozen (p := ⟨w.heap.size + 1, j, none⟩) (by simp <;> omega)).trans (by simp)
    have hz1 : w.heap.size + 2 ≤ w1.heap.size := by have := hb1.size; simpa using this
    have HW := Lib.hid (show Below w.heap.size w w1 from (show Below w.heap.size w _ by repeat' (first | with_reducible exact Below.refl _ _ | (with_reducible refine Below.setCell ?_ ?_ _) | (with_reducible refine Below.alloc ?_ ?_ _) | (simp; done) | (simp; omega))).trans (hb1.mono (by simp; omega)))
    clear hb1
    go_wp2
    (try simp only [Exit.inBlock, Exit.then])
    refine bodyPost_ret (v := tokenV i (.bad false)) (by rw [results_cell3 rfl]; go_simp; rfl) rfl ⟨rfl, ?_⟩
    repeat' (first | with_reducible exact HW.out | (with_reducible refine Below.setCell ?_ ?_ _) | (with_reducible refine Below.alloc ?_ ?_ _) | (simp; done) | (simp; omega))
end Go.Proofs.YtaojalicnnnkmaaGreatDoor
/- Package lex: a token: numbers, quoted names. -/
namespace Go.Proofs.YtaojalicnnnkmaaGreatDoor
open Go.RowKit
set_option linter.unusedVariables false

set_option maxHeartbeats 4000000 in
theorem token_quoted {s t : ByteArray} {i b : Nat} (w : World) (hi : i < s.size) (hs : s.size ≤ 140737488351232) (hb : i < b) (hbs : b ≤ s.size) (h64 : t.size ≤ 64) (o : Bool) (ho : OpenAt s b o)
    (P : ∀ w, Calls Tryz.prog 93 #[.string s, .int .i64 i] w fun e w' => e = .returned (.tuple #[.int .i64 2, .int .i64 (i : Int)]) ∧ w = w')
    (U : ∀ w, Calls Tryz.prog 94 #[.string s, .int .i64 i] w fun e w' => e = .returned (.tuple #[.string t, .int .i64 (b : Int), .int .i64 0]) ∧ Below w.heap.size w w') :
    Calls Tryz.prog 78 #[.string s, .int .i64 i] w fun e w' => e = .returned (.tuple #[.agg #[.int .i64 2, .string t, .int .i64 0, .bool o, .int .i64 (i : Int)], .int .i64 (b : Int), .int .i64 0]) ∧ Below w.heap.size w w' := by
  rcases ho with ⟨rfl, rfl⟩ | ⟨hlt, ho⟩
  · go_enter Tryz.func78, Tryz.ntmps78
    (go_wp2_with fail; go_fit (P _); rintro e w' ⟨rfl, rfl⟩)
    (go_wp2_with fail; go_fit (U _); rintro e w1 ⟨rfl, hb1⟩)
    have c0 : w1.cell? ⟨w.heap.size, 0, none⟩ = some (.int .i64 0) := cell_later hb1 (by simp <;> omega)
    have c1 : w1.cell? ⟨w.heap.size, 1, none⟩ = some (.string ⟨#[]⟩) := cell_later hb1 (by simp <;> omega)
    have c2 : w1.cell? ⟨w.heap.size, 2, none⟩ = some (.int .i64 0) := cell_later hb1 (by simp <;> omega)
    have c3 : w1.cell? ⟨w.heap.size, 3, none⟩ = some (.bool false) := cell_later hb1 (by simp <;> omega)
    have c4 : w1.cell? ⟨w.heap.size, 4, none⟩ = some (.int .i64 0) := cell_later hb1 (by simp <;> omega)
    have d0 : w1.cell? ⟨w.heap.size + 1, 0, none⟩ = some (.int .i64 2) := cell_later hb1 (by simp <;> omega)
    have d1 : w1.cell? ⟨w.heap.size + 1, 1, none⟩ = some (.string ⟨#[]⟩) := cell_later hb1 (by simp <;> omega)
    have d2 : w1.cell? ⟨w.heap.size + 1, 2, none⟩ = some (.int .i64 0) := cell_later hb1 (by simp <;> omega)
    have d3 : w1.cell? ⟨w.heap.size + 1, 3, none⟩ = some (.bool false) := cell_later hb1 (by simp <;> omega)
    have d4 : w1.cell? ⟨w.heap.size + 1, 4, none⟩ = some (.int .i64 (i : Int)) := cell_later hb1 (by simp <;> omega)
    have f0 : ∀ j, w1.frozen? ⟨w.heap.size, j, none⟩ = false := fun j => (hb1.frozen (p := ⟨w.heap.size, j, none⟩) (by simp <;> omega)).trans (by simp)
    have f1 : ∀ j, w1.frozen? ⟨w.heap.size + 1, j, none⟩ = false := fun j => (hb1.frozen (p := ⟨w.heap.size + 1, j, none⟩) (by simp <;> omega)).trans (by simp)
    have hz1 : w.heap.size + 2 ≤ w1.heap.size := by have := hb1.size; simpa using this
    have HW := Lib.hid (show Below w.heap.size w w1 from (show Below w.heap.size w _ by repeat' (first | with_reducible exact Below.refl _ _ | (with_reducible refine Below.setCell ?_ ?_ _) | (with_reducible refine Below.alloc ?_ ?_ _) | (simp; done) | (simp; omega))).trans (hb1.mono (by simp <;> omega)))
    clear hb1
    go_wp2
    (try simp only [Exit.inBlock, Exit.then])
    refine bodyPost_ret (v := .tuple #[.agg #[.int .i64 2, .string t, .int .i64 0, .bool false, .int .i64 (i : Int)], .int .i64 (s.size : Int), .int .i64 0]) (by rw [results_cell3 rfl]; go_simp) rfl ⟨rfl, ?_⟩
    repeat' (first | with_reducible exact HW.out | (with_reducible refine Below.setCell ?_ ?_ _) | (with_reducible refine Below.alloc ?_ ?_ _) | (simp; done) | (simp; omega))
  · cases o
    · go_enter Tryz.func78, Tryz.ntmps78
      (go_wp2_with fail; go_fit (P _); rintro e w' ⟨rfl, rfl⟩)
      (go_wp2_with fail; go_fit (U _); rintro e w1 ⟨rfl, hb1⟩)
      have c0 : w1.cell? ⟨w.heap.size, 0, none⟩ = some (.int .i64 0) := cell_later hb1 (by simp <;> omega)
      have c1 : w1.cell? ⟨w.heap.size, 1, none⟩ = some (.string ⟨#[]⟩) := cell_later hb1 (by simp <;> omega)
      have c2 : w1.cell? ⟨w.heap.size, 2, none⟩ = some (.int .i64 0) := cell_later hb1 (by simp <;> omega)
      have c3 : w1.cell? ⟨w.heap.size, 3, none⟩ = some (.bool false) := cell_later hb1 (by simp <;> omega)
      have c4 : w1.cell? ⟨w.heap.size, 4, none⟩ = some (.int .i64 0) := cell_later hb1 (by simp <;> omega)
      have d0 : w1.cell? ⟨w.heap.size + 1, 0, none⟩ = some (.int .i64 2) := cell_later hb1 (by simp <;> omega)
      have d1 : w1.cell? ⟨w.heap.size + 1, 1, none⟩ = some (.string ⟨#[]⟩) := cell_later hb1 (by simp <;> omega)
      have d2 : w1.cell? ⟨w.heap.size + 1, 2, none⟩ = some (.int .i64 0) := cell_later hb1 (by simp <;> omega)
      have d3 : w1.cell? ⟨w.heap.size + 1, 3, none⟩ = some (.bool false) := cell_later hb1 (by simp <;> omega)
      have d4 : w1.cell? ⟨w.heap.size + 1, 4, none⟩ = some (.int .i64 (i : Int)) := cell_later hb1 (by simp <;> omega)
      have f0 : ∀ j, w1.frozen? ⟨w.heap.size, j, none⟩ = false := fun j => (hb1.frozen (p := ⟨w.heap.size, j, none⟩) (by simp <;> omega)).trans (by simp)
      have f1 : ∀ j, w1.frozen? ⟨w.heap.size + 1, j, none⟩ = false := fun j => (hb1.frozen (p := ⟨w.heap.size + 1, j, none⟩) (by simp <;> omega)).trans (by simp)
      have hz1 : w.heap.size + 2 ≤ w1.heap.size := by have := hb1.size; simpa using this
      have HW := Lib.hid (show Below w.heap.size w w1 from (show Below w.heap.size w _ by repeat' (first | with_reducible exact Below.refl _ _ | (with_reducible refine Below.setCell ?_ ?_ _) | (with_reducible refine Below.alloc ?_ ?_ _) | (simp; done) | (simp; omega))).trans (hb1.mono (by simp <;> omega)))
      clear hb1
      go_wp2
      (try simp only [Exit.inBlock, Exit.then])
      refine bodyPost_ret (v := .tuple #[.agg #[.int .i64 2, .string t, .int .i64 0, .bool false, .int .i64 (i : Int)], .int .i64 (b : Int), .int .i64 0]) (by rw [results_cell3 rfl]; go_simp) rfl ⟨rfl, ?_⟩
      repeat' (first | with_reducible exact HW.out | (with_reducible refine Below.setCell ?_ ?_ _) | (with_reducible refine Below.alloc ?_ ?_ _) | (simp; done) | (simp; omega))
    · have ho' := eq_of_beq ho
      clear ho
      go_enter Tryz.func78, Tryz.ntmps78
      (go_wp2_with fail; go_fit (P _); rintro e w' ⟨rfl, rfl⟩)
      (go_wp2_with fail; go_fit (U _); rintro e w1 ⟨rfl, hb1⟩)
      have c0 : w1.cell? ⟨w.heap.size, 0, none⟩ = some (.int .i64 0) := cell_later hb1 (by simp <;> omega)
      have c1 : w1.cell? ⟨w.heap.size, 1, none⟩ = some (.string ⟨#[]⟩) := cell_later hb1 (by simp <;> omega)
      have c2 : w1.cell? ⟨w.heap.size, 2, none⟩ = some (.int .i64 0) := cell_later hb1 (by simp <;> omega)
      have c3 : w1.cell? ⟨w.heap.size, 3, none⟩ = some (.bool false) := cell_later hb1 (by simp <;> omega)
      have c4 : w1.cell? ⟨w.heap.size, 4, none⟩ = some (.int .i64 0) := cell_later hb1 (by simp <;> omega)
      have d0 : w1.cell? ⟨w.heap.size + 1, 0, none⟩ = some (.int .i64 2) := cell_later hb1 (by simp <;> omega)
      have d1 : w1.cell? ⟨w.heap.size + 1, 1, none⟩ = some (.string ⟨#[]⟩) := cell_later hb1 (by simp <;> omega)
      have d2 : w1.cell? ⟨w.heap.size + 1, 2, none⟩ = some (.int .i64 0) := cell_later hb1 (by simp <;> omega)
      have d3 : w1.cell? ⟨w.heap.size + 1, 3, none⟩ = some (.bool false) := cell_later hb1 (by simp <;> omega)
      have d4 : w1.cell? ⟨w.heap.size + 1, 4, none⟩ = some (.int .i64 (i : Int)) := cell_later hb1 (by simp <;> omega)
      have f0 : ∀ j, w1.frozen? ⟨w.heap.size, j, none⟩ = false := fun j => (hb1.frozen (p := ⟨w.heap.size, j, none⟩) (by simp <;> omega)).trans (by simp)
      have f1 : ∀ j, w1.frozen? ⟨w.heap.size + 1, j, none⟩ = false := fun j => (hb1.frozen (p := ⟨w.heap.size + 1, j, none⟩) (by simp <;> omega)).trans (by simp)
      have hz1 : w.heap.size + 2 ≤ w1.heap.size := by have := hb1.size; simpa using this
      have HW := Lib.hid (show Below w.heap.size w w1 from (show Below w.heap.size w _ by repeat' (first | with_reducible exact Below.refl _ _ | (with_reducible refine Below.setCell ?_ ?_ _) | (with_reducible refine Below.alloc ?_ ?_ _) | (simp; done) | (simp; omega))).trans (hb1.mono (by simp <;> omega)))
      clear hb1
      go_wp2
      (try simp only [Exit.inBlock, Exit.then])
      refine bodyPost_ret (v := .tuple #[.agg #[.int .i64 2, .string t, .int .i64 0, .bool true, .int .i64 (i : Int)], .int .i64 (b : Int), .int .i64 0]) (by rw [results_cell3 rfl]; go_simp) rfl ⟨rfl, ?_⟩
      repeat' (first | with_reducible exact HW.out | (with_reducible refine Below.setCell ?_ ?_ _) | (with_reducible refine Below.alloc ?_ ?_ _) | (simp; done) | (simp; omega))
set_option maxHeartbeats 4000000 in
theorem token_quoted_long {s t : ByteArray} {i b : Nat} (w : World) (hi : i < s.size) (hs : s.size ≤ 140737488351232) (h64 : ¬ t.size ≤ 64)
    (P : ∀ w, Calls Tryz.prog 93 #[.string s, .int .i64 i] w fun e w' => e = .returned (.tuple #[.int .i64 2, .int .i64 (i : Int)]) ∧ w = w')
    (U : ∀ w, Calls Tryz.prog 94 #[.string s, .int .i64 i] w fun e w' => e = .returned (.tuple #[.string t, .int .i64 (b : Int), .int .i64 0]) ∧ Below w.heap.size w w') :
    Calls Tryz.prog 78 #[.string s, .int .i64 i] w fun e w' => e = .returned (tokenV i (.bad true)) ∧ Below w.heap.size w w' := by
  go_enter Tryz.func78, Tryz.ntmps78
  (go_wp2_with fail; go_fit (P _); rintro e w' ⟨rfl, rfl⟩)
  (go_wp2_with fail; go_fit (U _); rintro e w1 ⟨rfl, hb1⟩)
  have c0 : w1.cell? ⟨w.heap.size, 0, none⟩ = some (.int .i64 0) := cell_later hb1 (by simp <;> omega)
  have c1 : w1.cell? ⟨w.heap.size, 1, none⟩ = some (.string ⟨#[]⟩) := cell_later hb1 (by simp <;> omega)
  have c2 : w1.cell? ⟨w.heap.size, 2, none⟩ = some (.int .i64 0) := cell_later hb1 (by simp <;> omega)
  have c3 : w1.cell? ⟨w.heap.size, 3, none⟩ = some (.bool false) := cell_later hb1 (by simp <;> omega)
  have c4 : w1.cell? ⟨w.heap.size, 4, none⟩ = some (.int .i64 0) := cell_later hb1 (by simp <;> omega)
  have d0 : w1.cell? ⟨w.heap.size + 1, 0, none⟩ = some (.int .i64 2) := cell_later hb1 (by simp <;> omega)
  have d1 : w1.cell? ⟨w.heap.size + 1, 1, none⟩ = some (.string ⟨#[]⟩) := cell_later hb1 (by simp <;> omega)
  have d2 : w1.cell? ⟨w.heap.size + 1, 2, none⟩ = some (.int .i64 0) := cell_later hb1 (by simp <;> omega)
  have d3 : w1.cell? ⟨w.heap.size + 1, 3, none⟩ = some (.bool false) := cell_later hb1 (by simp <;> omega)
  have d4 : w1.cell? ⟨w.heap.size + 1, 4, none⟩ = some (.int .i64 (i : Int)) := cell_later hb1 (by simp <;> omega)
  have f0 : ∀ j, w1.frozen? ⟨w.heap.size, j, none⟩ = false := fun j => (hb1.frozen (p := ⟨w.heap.size, j, none⟩) (by simp <;> omega)).trans (by simp)
  have f1 : ∀ j, w1.frozen? ⟨w.heap.size + 1, j, none⟩ = false := fun j => (hb1.frozen (p := ⟨w.heap.size + 1, j, none⟩) (by simp <;> omega)).trans (by simp)
  have hz1 : w.heap.size + 2 ≤ w1.heap.size := by have := hb1.size; simpa using this
  have HW := Lib.hid (show Below w.heap.size w w1 from (show Below w.heap.size w _ by repeat' (first | with_reducible exact Below.refl _ _ | (with_reducible refine Below.setCell ?_ ?_ _) | (with_reducible refine Below.alloc ?_ ?_ _) | (simp; done) | (simp; omega))).trans (hb1.mono (by simp <;> omega)))
  clear hb1
  go_wp2
  (try simp only [Exit.inBlock, Exit.then])
  refine bodyPost_ret (v := tokenV i (.bad true)) (by rw [results_cell3 rfl]; go_simp; rfl) rfl ⟨rfl, ?_⟩
  repeat' (first | with_reducible exact HW.out | (with_reducible refine Below.setCell ?_ ?_ _) | (with_reducible refine Below.alloc ?_ ?_ _) | (simp; done) | (simp; omega))
set_option maxHeartbeats 4000000 in
theorem token_num {s : ByteArray} {i b n : Nat} (w : World) (he : Err w) (hi : i < s.size) (hs : s.size ≤ 140737488351232) (hb : i < b) (hbs : b ≤ s.size) (o : Bool) (ho : OpenAt s b o)
    (P : ∀ w, Calls Tryz.prog 93 #[.string s, .int .i64 i] w fun e w' => e = .returned (.tuple #[.int .i64 4, .int .i64 (b : Int)]) ∧ w = w')
    (V : ∀ w, Err w → Calls Tryz.prog 95 #[.string (s.extract i b)] w fun e w' => e = .returned (.tuple #[.int .i64 (n : Int), .int .i64 0]) ∧ Below w.heap.size w w') :
    Calls Tryz.prog 78 #[.string s, .int .i64 i] w fun e w' => e = .returned (.tuple #[.agg #[.int .i64 4, .string ⟨#[]⟩, .int .i64 (n : Int), .bool o, .int .i64 (i : Int)], .int .i64 (b : Int), .int .i64 0]) ∧ Below w.heap.size w w' := by
  rcases ho with ⟨rfl, rfl⟩ | ⟨hlt, ho⟩
  · go_enter Tryz.func78, Tryz.ntmps78
    (go_wp2_with fail; go_fit (P _); rintro e w' ⟨rfl, rfl⟩)
    (go_wp2_with fail; go_fit (V _ (he.ext (by repeat' (first | with_reducible exact Below.refl _ _ | (with_reducible refine Below.setCell ?_ ?_ _) | (with_reducible refine Below.alloc ?_ ?_ _) | (simp; done) | (simp; omega))))); rintro e w1 ⟨rfl, hb1⟩)
    have c0 : w1.cell? ⟨w.heap.size, 0, none⟩ = some (.int .i64 0) := cell_later hb1 (by simp <;> omega)
    have c1 : w1.cell? ⟨w.heap.size, 1, none⟩ = some (.string ⟨#[]⟩) := cell_later hb1 (by simp <;> omega)
    have c2 : w1.cell? ⟨w.heap.size, 2, none⟩ = some (.int .i64 0) := cell_later hb1 (by simp <;> omega)
    have c3 : w1.cell? ⟨w.heap.size, 3, none⟩ = some (.bool false) := cell_later hb1 (by simp <;> omega)
    have c4 : w1.cell? ⟨w.heap.size, 4, none⟩ = some (.int .i64 0) := cell_later hb1 (by simp <;> omega)
    have d0 : w1.cell? ⟨w.heap.size + 1, 0, none⟩ = some (.int .i64 4) := cell_later hb1 (by simp <;> omega)
    have d1 : w1.cell? ⟨w.heap.size + 1, 1, none⟩ = some (.string ⟨#[]⟩) := cell_later hb1 (by simp <;> omega)
    have d2 : w1.cell? ⟨w.heap.size + 1, 2, none⟩ = some (.int .i64 0) := cell_later hb1 (by simp <;> omega)
    have d3 : w1.cell? ⟨w.heap.size + 1, 3, none⟩ = some (.bool false) := cell_later hb1 (by simp <;> omega)
    have d4 : w1.cell? ⟨w.heap.size + 1, 4, none⟩ = some (.int .i64 (i : Int)) := cell_later hb1 (by simp <;> omega)
    have f0 : ∀ j, w1.frozen? ⟨w.heap.size, j, none⟩ = false := fun j => (hb1.frozen (p := ⟨w.heap.size, j, none⟩) (by simp <;> omega)).trans (by simp)
    have f1 : ∀ j, w1.frozen? ⟨w.heap.size + 1, j, none⟩ = false := fun j => (hb1.frozen (p := ⟨w.heap.size + 1, j, none⟩) (by simp <;> omega)).trans (by simp)
    have hz1 : w.heap.size + 2 ≤ w1.heap.size := by have := hb1.size; simpa using this
    have HW := Lib.hid (show Below w.heap.size w w1 from (show Below w.heap.size w _ by repeat' (first | with_reducible exact Below.refl _ _ | (with_reducible refine Below.setCell ?_ ?_ _) | (with_reducible refine Below.alloc ?_ ?_ _) | (simp; done) | (simp; omega))).trans (hb1.mono (by simp <;> omega)))
    clear hb1
    go_wp2
    (try simp only [Exit.inBlock, Exit.then])
    refine bodyPost_ret (v := .tuple #[.agg #[.int .i64 4, .string ⟨#[]⟩, .int .i64 (n : Int), .bool false, .int .i64 (i : Int)], .int .i64 (s.size : Int), .int .i64 0]) (by rw [results_cell3 rfl]; go_simp) rfl ⟨rfl, ?_⟩
    repeat' (first | with_reducible exact HW.out | (with_reducible refine Below.setCell ?_ ?_ _) | (with_reducible refine Below.alloc ?_ ?_ _) | (simp; done) | (simp; omega))
  · cases o
    · go_enter Tryz.func78, Tryz.ntmps78
      (go_wp2_with fail; go_fit (P _); rintro e w' ⟨rfl, rfl⟩)
      (go_wp2_with fail; go_fit (V _ (he.ext (by repeat' (first | with_reducible exact Below.refl _ _ | (with_reducible refine Below.setCell ?_ ?_ _) | (with_reducible refine Below.alloc ?_ ?_ _) | (simp; done) | (simp; omega))))); rintro e w1 ⟨rfl, hb1⟩)
      have c0 : w1.cell? ⟨w.heap.size, 0, none⟩ = some (.int .i64 0) := cell_later hb1 (by simp <;> omega)
      have c1 : w1.cell? ⟨w.heap.size, 1, none⟩ = some (.string ⟨#[]⟩) := cell_later hb1 (by simp <;> omega)
      have c2 : w1.cell? ⟨w.heap.size, 2, none⟩ = some (.int .i64 0) := cell_later hb1 (by simp <;> omega)
      have c3 : w1.cell? ⟨w.heap.size, 3, none⟩ = some (.bool false) := cell_later hb1 (by simp <;> omega)
      have c4 : w1.cell? ⟨w.heap.size, 4, none⟩ = some (.int .i64 0) := cell_later hb1 (by simp <;> omega)
      have d0 : w1.cell? ⟨w.heap.size + 1, 0, none⟩ = some (.int .i64 4) := cell_later hb1 (by simp <;> omega)
      have d1 : w1.cell? ⟨w.heap.size + 1, 1, none⟩ = some (.string ⟨#[]⟩) := cell_later hb1 (by simp <;> omega)
      have d2 : w1.cell? ⟨w.heap.size + 1, 2, none⟩ = some (.int .i64 0) := cell_later hb1 (by simp <;> omega)
      have d3 : w1.cell? ⟨w.heap.size + 1, 3, none⟩ = some (.bool false) := cell_later hb1 (by simp <;> omega)
      have d4 : w1.cell? ⟨w.heap.size + 1, 4, none⟩ = some (.int .i64 (i : Int)) := cell_later hb1 (by simp <;> omega)
      have f0 : ∀ j, w1.frozen? ⟨w.heap.size, j, none⟩ = false := fun j => (hb1.frozen (p := ⟨w.heap.size, j, none⟩) (by simp <;> omega)).trans (by simp)
      have f1 : ∀ j, w1.frozen? ⟨w.heap.size + 1, j, none⟩ = false := fun j => (hb1.frozen (p := ⟨w.heap.size + 1, j, none⟩) (by simp <;> omega)).trans (by simp)
      have hz1 : w.heap.size + 2 ≤ w1.heap.size := by have := hb1.size; simpa using this
      have HW := Lib.hid (show Below w.heap.size w w1 from (show Below w.heap.size w _ by repeat' (first | with_reducible exact Below.refl _ _ | (with_reducible refine Below.setCell ?_ ?_ _) | (with_reducible refine Below.alloc ?_ ?_ _) | (simp; done) | (simp; omega))).trans (hb1.mono (by simp <;> omega)))
      clear hb1
      go_wp2
      (try simp only [Exit.inBlock, Exit.then])
      refine bodyPost_ret (v := .tuple #[.agg #[.int .i64 4, .string ⟨#[]⟩, .int .i64 (n : Int), .bool false, .int .i64 (i : Int)], .int .i64 (b : Int), .int .i64 0]) (by rw [results_cell3 rfl]; go_simp) rfl ⟨rfl, ?_⟩
      repeat' (first | with_reducible exact HW.out | (with_reducible refine Below.setCell ?_ ?_ _) | (with_reducible refine Below.alloc ?_ ?_ _) | (simp; done) | (simp; omega))
    · have ho' := eq_of_beq ho
      clear ho
      go_enter Tryz.func78, Tryz.ntmps78
      (go_wp2_with fail; go_fit (P _); rintro e w' ⟨rfl, rfl⟩)
      (go_wp2_with fail; go_fit (V _ (he.ext (by repeat' (first | with_reducible exact Below.refl _ _ | (with_reducible refine Below.setCell ?_ ?_ _) | (with_reducible refine Below.alloc ?_ ?_ _) | (simp; done) | (simp; omega))))); rintro e w1 ⟨rfl, hb1⟩)
      have c0 : w1.cell? ⟨w.heap.size, 0, none⟩ = some (.int .i64 0) := cell_later hb1 (by simp <;> omega)
      have c1 : w1.cell? ⟨w.heap.size, 1, none⟩ = some (.string ⟨#[]⟩) := cell_later hb1 (by simp <;> omega)
      have c2 : w1.cell? ⟨w.heap.size, 2, none⟩ = some (.int .i64 0) := cell_later hb1 (by simp <;> omega)
      have c3 : w1.cell? ⟨w.heap.size, 3, none⟩ = some (.bool false) := cell_later hb1 (by simp <;> omega)
      have c4 : w1.cell? ⟨w.heap.size, 4, none⟩ = some (.int .i64 0) := cell_later hb1 (by simp <;> omega)
      have d0 : w1.cell? ⟨w.heap.size + 1, 0, none⟩ = some (.int .i64 4) := cell_later hb1 (by simp <;> omega)
      have d1 : w1.cell? ⟨w.heap.size + 1, 1, none⟩ = some (.string ⟨#[]⟩) := cell_later hb1 (by simp <;> omega)
      have d2 : w1.cell? ⟨w.heap.size + 1, 2, none⟩ = some (.int .i64 0) := cell_later hb1 (by simp <;> omega)
      have d3 : w1.cell? ⟨w.heap.size + 1, 3, none⟩ = some (.bool false) := cell_later hb1 (by simp <;> omega)
      have d4 : w1.cell? ⟨w.heap.size + 1, 4, none⟩ = some (.int .i64 (i : Int)) := cell_later hb1 (by simp <;> omega)
      have f0 : ∀ j, w1.frozen? ⟨w.heap.size, j, none⟩ = false := fun j => (hb1.frozen (p := ⟨w.heap.size, j, none⟩) (by simp <;> omega)).trans (by simp)
      have f1 : ∀ j, w1.frozen? ⟨w.heap.size + 1, j, none⟩ = false := fun j => (hb1.frozen (p := ⟨w.heap.size + 1, j, none⟩) (by simp <;> omega)).trans (by simp)
      have hz1 : w.heap.size + 2 ≤ w1.heap.size := by have := hb1.size; simpa using this
      have HW := Lib.hid (show Below w.heap.size w w1 from (show Below w.heap.size w _ by repeat' (first | with_reducible exact Below.refl _ _ | (with_reducible refine Below.setCell ?_ ?_ _) | (with_reducible refine Below.alloc ?_ ?_ _) | (simp; done) | (simp; omega))).trans (hb1.mono (by simp <;> omega)))
      clear hb1
      go_wp2
      (try simp only [Exit.inBlock, Exit.then])
      refine bodyPost_ret (v := .tuple #[.agg #[.int .i64 4, .string ⟨#[]⟩, .int .i64 (n : Int), .bool true, .int .i64 (i : Int)], .int .i64 (b : Int), .int .i64 0]) (by rw [results_cell3 rfl]; go_simp) rfl ⟨rfl, ?_⟩
      repeat' (first | with_reducible exact HW.out | (with_reducible refine Below.setCell ?_ ?_ _) | (with_reducible refine Below.alloc ?_ ?_ _) | (simp; done) | (simp; omega))
set_option maxHeartbeats 4000000 in
theorem token_num_over {s : ByteArray} {i b : Nat} (w : World) (he : Err w) (hi : i < s.size) (hs : s.size ≤ 140737488351232) (hb : i < b) (hbs : b ≤ s.size)
    (P : ∀ w, Calls Tryz.prog 93 #[.string s, .int .i64 i] w fun e w' => e = .returned (.tuple #[.int .i64 4, .int .i64 (b : Int)]) ∧ w = w')
    (V : ∀ w, Err w → Calls Tryz.prog 95 #[.string (s.extract i b)] w fun e w' => e = .returned (.tuple #[.int .i64 0, .int .i64 3]) ∧ Below w.heap.size w w') :
    Calls Tryz.prog 78 #[.string s, .int .i64 i] w fun e w' => e = .returned (tokenV i (.bad true)) ∧ Below w.heap.size w w' := by
  go_enter Tryz.func78, Tryz.ntmps78
  (go_wp2_with fail; go_fit (P _); rintro e w' ⟨rfl, rfl⟩)
  (go_wp2_with fail; go_fit (V _ (he.ext (by repeat' (first | with_reducible exact Below.refl _ _ | (with_reducible refine Below.setCell ?_ ?_ _) | (with_reducible refine Below.alloc ?_ ?_ _) | (simp; done) | (simp; omega))))); rintro e w1 ⟨rfl, hb1⟩)
  have c0 : w1.cell? ⟨w.heap.size, 0, none⟩ = some (.int .i64 0) := cell_later hb1 (by simp <;> omega)
  have c1 : w1.cell? ⟨w.heap.size, 1, none⟩ = some (.string ⟨#[]⟩) := cell_later hb1 (by simp <;> omega)
  have c2 : w1.cell? ⟨w.heap.size, 2, none⟩ = some (.int .i64 0) := cell_later hb1 (by simp <;> omega)
  have c3 : w1.cell? ⟨w.heap.size, 3, none⟩ = some (.bool false) := cell_later hb1 (by simp <;> omega)
  have c4 : w1.cell? ⟨w.heap.size, 4, none⟩ = some (.int .i64 0) := cell_later hb1 (by simp <;> omega)
  have d0 : w1.cell? ⟨w.heap.size + 1, 0, none⟩ = some (.int .i64 4) := cell_later hb1 (by simp <;> omega)
  have d1 : w1.cell? ⟨w.heap.size + 1, 1, none⟩ = some (.string ⟨#[]⟩) := cell_later hb1 (by simp <;> omega)
  have d2 : w1.cell? ⟨w.heap.size + 1, 2, none⟩ = some (.int .i64 0) := cell_later hb1 (by simp <;> omega)
  have d3 : w1.cell? ⟨w.heap.size + 1, 3, none⟩ = some (.bool false) := cell_later hb1 (by simp <;> omega)
  have d4 : w1.cell? ⟨w.heap.size + 1, 4, none⟩ = some (.int .i64 (i : Int)) := cell_later hb1 (by simp <;> omega)
  have f0 : ∀ j, w1.frozen? ⟨w.heap.size, j, none⟩ = false := fun j => (hb1.frozen (p := ⟨w.heap.size, j, none⟩) (by simp <;> omega)).trans (by simp)
  have f1 : ∀ j, w1.frozen? ⟨w.heap.size + 1, j, none⟩ = false := fun j => (hb1.frozen (p := ⟨w.heap.size + 1, j, none⟩) (by simp <;> omega)).trans (by simp)
  have hz1 : w.heap.size + 2 ≤ w1.heap.size := by have := hb1.size; simpa using this
  have HW := Lib.hid (show Below w.heap.size w w1 from (show Below w.heap.size w _ by repeat' (first | with_reducible exact Below.refl _ _ | (with_reducible refine Below.setCell ?_ ?_ _) | (with_reducible refine Below.alloc ?_ ?_ _) | (simp; done) | (simp; omega))).trans (hb1.mono (by simp <;> omega)))
  clear hb1
  go_wp2
  (try simp only [Exit.inBlock, Exit.then])
  refine bodyPost_ret (v := tokenV i (.bad true)) (by rw [results_cell3 rfl]; go_simp; rfl) rfl ⟨rfl, ?_⟩
  repeat' (first | with_reducible exact HW.out | (with_reducible refine Below.setCell ?_ ?_ _) | (with_reducible refine Below.alloc ?_ ?_ _) | (simp; done) | (simp; omega))
end Go.Proofs.YtaojalicnnnkmaaGreatDoor
/- Package lex: a token is what the document says stands next. -/
namespace Go.Proofs.YtaojalicnnnkmaaGreatDoor
open Go.RowKit
set_option linter.unusedVariables false

theorem take_ext (s : ByteArray) (i k : Nat) : (⟨(((bl s).drop i).take k).toArray⟩ : ByteArray) = s.extract i (i + k) := by
  apply bl_inj
  simp only [bl, ByteArray.data_extract, Array.toList_extract, List.extract_eq_take_drop, Nat.add_sub_cancel_left]
theorem open_at (s : ByteArray) (b : Nat) (h : b ≤ s.size) : OpenAt s b (openB ((bl s).drop b)) := by
  by_cases hb : b = s.size
  · left
    refine ⟨hb, ?_⟩
    rw [List.drop_eq_nil_of_le (by rw [bl_len]; omega)]
    rfl
  · right
    have hlt : b < s.size := by omega
    refine ⟨hlt, ?_⟩
    rw [drop_at (l := bl s) hlt]
    show _ = (s[b] == 40)
    rw [Bool.eq_iff_iff]
    simp only [beq_iff_eq]
    constructor
    · intro h; exact i64_u8 (by rw [h]; rfl)
    · intro h; rw [h]; rfl
theorem ext_size (s : ByteArray) (i k : Nat) (h : i + k ≤ s.size) : (s.extract i (i + k)).size = k := by simp; omega
theorem token_any (s : ByteArray) (i : Nat) (w : World) (he : Err w) (hi : i < s.size) (hs : s.size ≤ 140737488351232) (hns : ∀ k, nextC s[i] ((bl s).drop (i + 1)) ≠ .skip k) :
    Calls Tryz.prog 78 #[.string s, .int .i64 i] w fun e w' => e = .returned (tokenV i (nextC s[i] ((bl s).drop (i + 1)))) ∧ Below w.heap.size w w' := by
  have P := fun w => piece_any s i w hi hs
  have hop : ∀ k, i + k ≤ s.size → OpenAt s (i + k) (openB (((bl s).drop i).drop k)) := fun k hk => by
    rw [List.drop_drop]
    exact open_at s _ hk
  have hsub : ∀ k, i + k ≤ s.size → bl (s.extract i (i + k)) = ((bl s).drop i).take k := fun k hk => by rw [← take_ext]
  rcases piece_next (l := bl s) (i := i) hi hns with ⟨k, hk, hik, hp, hN⟩ | ⟨hp, hN⟩ | ⟨k, hk, hik, hp, hN⟩ | ⟨k, hk, hik, had, hp, hN⟩ | ⟨hp, hN⟩ | ⟨hp, hN⟩ | ⟨hp, hN⟩
  all_goals
    have hp' : pieceK (bl s) i s[i] = _ := hp
    have hN' : nextC s[i] ((bl s).drop (i + 1)) = _ := hN
    rw [hp'] at P
    rw [hN']
    clear hp hp' hN hN' hns
  · have hik' : i + k ≤ s.size := hik
    unfold nameB
    by_cases h64 : k ≤ 64
    · rw [if_pos (by simpa using h64)]
      refine (token_text 1 (Or.inl rfl) w hi hs (b := i + k) (by omega) hik' (fun _ => by omega) _ (hop k hik') P).mono fun e w' h => ⟨?_, h.2⟩
      rw [h.1]
      unfold tokB tokenV tokV
      simp only [take_ext]
      rfl
    · rw [if_neg (by simpa using h64)]
      exact token_long w hi hs (b := i + k) (by omega) hik' (by omega) P
  · have U := fun w => unquote_any s i w hi hs
    cases hq : quoB ((bl s).drop (i + 1)) with
    | none =>
      rw [hq] at U
      exact token_quote w hi hs P U
    | some p =>
      rw [hq] at U
      simp only
      have hql := quo_len _ ((bl s).drop (i + 1)) (Nat.le_refl _) p hq
      rw [List.length_drop, bl_len] at hql
      have hb : i + 1 + p.2 = i + (p.2 + 1) := by omega
      have hik' : i + (p.2 + 1) ≤ s.size := by omega
      by_cases h64 : p.1.length ≤ 64
      · rw [if_pos (by simpa using h64)]
        have U' : ∀ w, Calls Tryz.prog 94 #[.string s, .int .i64 i] w fun e w' => e = .returned (.tuple #[.string ⟨p.1.toArray⟩, .int .i64 ((i + (p.2 + 1) : Nat) : Int), .int .i64 0]) ∧ Below w.heap.size w w' := fun w => by
          have := U w
          have e : unqV i (some p) = .tuple #[.string ⟨p.1.toArray⟩, .int .i64 ((i + (p.2 + 1) : Nat) : Int), .int .i64 0] := by
            rw [← hb]; rfl
          rw [e] at this
          exact this
        refine (token_quoted w hi hs (b := i + (p.2 + 1)) (by omega) hik' (by show p.1.toArray.size ≤ 64; simpa using h64) _ (hop _ hik') P U').mono fun e w' h => ⟨?_, h.2⟩
        rw [h.1]
        rfl
      · rw [if_neg (by simpa using h64)]
        exact token_quoted_long w hi hs (b := i + 1 + p.2) (t := ⟨p.1.toArray⟩) (by show ¬ p.1.toArray.size ≤ 64; simpa using h64) P U
  · have hik' : i + k ≤ s.size := hik
    refine (token_text 3 (Or.inr (Or.inl rfl)) w hi hs (b := i + k) (by omega) hik' (fun h => by cases h) _ (hop k hik') P).mono fun e w' h => ⟨?_, h.2⟩
    rw [h.1]
    unfold tokB tokenV tokV
    simp only [take_ext]
    rfl
  · have hik' : i + k ≤ s.size := hik
    have hne : ((bl s).drop i).take k ≠ [] := fun e => by
      have := congrArg List.length e
      rw [List.length_take, List.length_drop, bl_len] at this
      simp at this
      omega
    have hz : (s.extract i (i + k)).size ≤ 140737488351232 := by rw [ext_size s i k hik']; omega
    have hsb := hsub k hik'
    by_cases hv : numB (((bl s).drop i).take k) ≤ 9223372036854775807
    · rw [if_pos (by simpa using hv)]
      have V := fun w (h : Err w) => @value_ok (s.extract i (i + k)) w hz (by rw [hsb]; exact had) (by rw [hsb]; exact hne) (by rw [hsb]; exact hv)
      rw [hsb] at V
      refine (token_num w he hi hs (b := i + k) (by omega) hik' _ (hop k hik') P V).mono fun e w' h => ⟨?_, h.2⟩
      rw [h.1]
      rfl
    · rw [if_neg (by simpa using hv)]
      have V := fun w (h : Err w) => @value_over (s.extract i (i + k)) w h hz (by rw [hsb]; exact had) (by rw [hsb]; exact hne) (by rw [hsb]; exact hv)
      exact token_num_over w he hi hs (b := i + k) (by omega) hik' P V
  · refine (token_text 5 (Or.inr (Or.inr rfl)) w hi hs (b := i + 1) (by omega) (by omega) (fun h => by cases h) _ (hop 1 (by omega)) P).mono fun e w' h => ⟨?_, h.2⟩
    rw [h.1]
    unfold tokB tokenV tokV
    simp only [take_ext]
    rfl
  · refine (token_end w hi hs _ (hop 1 (by omega)) P).mono fun e w' h => ⟨?_, h.2⟩
    rw [h.1]
    rfl
  · exact token_none w hi hs P
end Go.Proofs.YtaojalicnnnkmaaGreatDoor
/- Package lex: Cut. -/
namespace Go.Proofs.YtaojalicnnnkmaaGreatDoor
open Go.RowKit
set_option linter.unusedVariables false

def tCells (q : TokB × Nat) : List Value := [.int .i64 (q.1.kind : Int), .string ⟨q.1.text.toArray⟩, .int .i64 (q.1.n : Int), .bool q.1.opens, .int .i64 (q.2 : Int)]
theorem tCells_len (q : TokB × Nat) : (tCells q).length = 5 := rfl
theorem tCells_one (L : List (TokB × Nat)) : ∀ u ∈ L.flatMap tCells, u.oneCell' = true := by
  intro u hu
  obtain ⟨x, _, hx⟩ := List.mem_flatMap.1 hu
  simp [tCells] at hx
  rcases hx with rfl | rfl | rfl | rfl | rfl <;> rfl
def RowT (w : World) (base : Nat) (v : Value) (l : List (TokB × Nat)) : Prop := w.ownsRow base 125 5 v l.length (l.flatMap tCells)
theorem cell_two (w : World) (o : Obj) (cs : Array Value) (ty : TypeId) (j : Nat) (u : Value) (h : cs.toList[j]? = some u) : ((w.alloc o).alloc (.cells cs ty)).cell? ((⟨w.heap.size + 1, 0, none⟩ : Addr).add j) = some u := by
  have e : (w.alloc o).heap.size = w.heap.size + 1 := by simp
  have h1 := heap_alloc_new (w.alloc o) (.cells cs ty)
  rw [e] at h1
  rw [add_plain, Nat.zero_add, World.cell?, h1]
  simpa using h
theorem infoTok : (Tryz.prog.info? 125).map (fun i => (i.zero, i.size, i.bytes)) = some (some zeroV, 5, 48) := by kernel_rfl
def CutPost (W : World) (s : ByteArray) (X : CutR) (e : Ending) (w' : World) : Prop :=
  (match X with
    | .ok l => ∃ (ao : Option Addr) (cv : Nat), e = .returned (.tuple #[.slice ao l.length cv, .int .i64 (s.size : Int), .int .i64 0]) ∧ RowT w' W.heap.size (.slice ao l.length cv) l
    | .bad p o => e = .returned (.tuple #[.slice none 0 0, .int .i64 (p : Int), .int .i64 (if o then 3 else 2)])) ∧ Below W.heap.size W w'
theorem passK_cut (s : List UInt8) (k : Nat) (hk : k ≤ s.length) : k + passK s k ≤ s.length ∧ (∀ acc, cutF acc k (s.drop k) = cutF acc (k + passK s k) (s.drop (k + passK s k))) ∧ ∀ h : k + passK s k < s.length, ∀ j, nextC s[k + passK s k] (s.drop (k + passK s k + 1)) ≠ .skip j := by
  obtain ⟨h1, h2, h3⟩ := pass_cut (s.drop k).length (s.drop k) (Nat.le_refl _)
  unfold passK
  rw [List.length_drop] at h1
  refine ⟨by omega, fun acc => by rw [h2, List.drop_drop], fun h => h3 _ _ ?_⟩
  rw [List.drop_drop]
  exact drop_at h
set_option maxRecDepth 100000 in
set_option maxHeartbeats 4000000 in
theorem cut_any (s : ByteArray) (w : World) (he : Err w) (hs : s.size ≤ 140737488351232) : Calls Tryz.prog 64 #[.string s] w (CutPost w s (cutB (bl s))) := by
  obtain ⟨X, hX⟩ : ∃ X, cutB (bl s) = X := ⟨_, rfl⟩
  rw [hX]
  by_cases hbig : 4096 < s.size
  · have hx : X = .bad 4096 true := by rw [← hX]; unfold cutB; rw [if_pos (show 4096 < (bl s).length from hbig)]
    subst hx
    clear hX
    go_enter Tryz.func64, Tryz.ntmps64
    go_wp2
    go_ret3
    exact ⟨rfl, Below.refl _ _⟩
  have hx : cutF [] 0 (bl s) = X := by rw [← hX]; unfold cutB; rw [if_neg (show ¬ 4096 < (bl s).length from hbig)]
  clear hX
  obtain ⟨p1, p2, p3⟩ := passK_cut (bl s) 0 (Nat.zero_le _)
  rw [List.drop_zero] at p2
  have PA := fun w => pass_any s 0 w (Nat.zero_le _) hs
  generalize 0 + passK (bl s) 0 = k0 at PA p1 p2 p3
  have hX0 := (p2 []).symm.trans hx
  have HX0 := Lib.hid hX0
  have HP3 := Lib.hid p3
  have hk0s : k0 ≤ s.size := p1
  clear hX0 p3 p2 hx p1
  obtain ⟨i0, hi0, hz0, hs0, hb0⟩ := info_parts infoTok
  go_enter Tryz.func64, Tryz.ntmps64
  go_wp2_with (go_at_call 77; go_fit (PA _); rintro e w' ⟨rfl, rfl⟩)
  go_loopw [5, 6] (fun o v wr => ∃ (k : Nat) (ao : Option Addr) (cv : Nat) (acc : List (TokB × Nat)), k ≤ s.size ∧ v = .int .i64 k ∧ o = .slice ao acc.length cv ∧ acc.length ≤ 1024 ∧ Hid (RowT wr w.heap.size o acc) ∧ Hid (Below w.heap.size w wr) ∧
      Hid (cutF acc k ((bl s).drop k) = X) ∧ Hid (∀ h : k < (bl s).length, ∀ j, nextC (bl s)[k] ((bl s).drop (k + 1)) ≠ .skip j)) (fun _ v _ => s.size - (intOf v).toNat)
  case atStart => exact ⟨k0, none, 0, [], hk0s, rfl, rfl, by simp, Lib.hid (World.ownsRow_nil _ _ _ _), Lib.hid (Below.refl _ _), HX0, HP3⟩
  case round =>
    obtain ⟨k, ao, cv, acc, hk, rfl, rfl, hacc, HR, HB, HC, HN⟩ := hrel
    by_cases hlt : k < s.size
    · have T := token_any s k wr (he.ext HB.out) hlt hs (HN.out hlt)
      have hd : (bl s).drop k = s[k] :: (bl s).drop (k + 1) := drop_at (l := bl s) hlt
      have hC := HC.out
      rw [hd] at hC
      cases hn : nextC s[k] ((bl s).drop (k + 1)) with
      | skip j => exact absurd hn (HN.out hlt j)
      | bad o =>
        rw [hn] at T
        rw [cutF_bad hn] at hC
        subst hC
        clear HN HC HP3 HX0 hd hn PA
        cases o
        · replace T : Calls Tryz.prog 78 #[.string s, .int .i64 k] wr fun e w' => e = .returned (.tuple #[zeroV, .int .i64 0, .int .i64 2]) ∧ Below wr.heap.size wr w' := T
          unfold zeroV at T
          (go_wp2_with fail; go_fit (T); rintro e w1 ⟨rfl, b1⟩)
          go_wp2
          go_ret3
          exact ⟨rfl, Ext.trans' HB.out (b1.alloc b1.size _)⟩
        · replace T : Calls Tryz.prog 78 #[.string s, .int .i64 k] wr fun e w' => e = .returned (.tuple #[zeroV, .int .i64 0, .int .i64 3]) ∧ Below wr.heap.size wr w' := T
          unfold zeroV at T
          (go_wp2_with fail; go_fit (T); rintro e w1 ⟨rfl, b1⟩)
          go_wp2
          go_ret3
          exact ⟨rfl, Ext.trans' HB.out (b1.alloc b1.size _)⟩
      | tok t =>
        have hnl := next_len s[k] ((bl s).drop (k + 1))
        rw [hn, List.length_drop, bl_len] at hnl
        have hnl' : t.len ≤ s.size - (k + 1) + 1 := hnl
        have hpos : 1 ≤ t.len := by
          rcases next_pos s[k] ((bl s).drop (k + 1)) with ⟨j, h, _⟩ | ⟨u, h, hu⟩ | ⟨o, h⟩
          · rw [hn] at h; cases h
          · rw [hn] at h; cases h; exact hu
          · rw [hn] at h; cases h
        rw [hn] at T
        replace T : Calls Tryz.prog 78 #[.string s, .int .i64 k] wr fun e w' => e = .returned (.tuple #[.agg #[.int .i64 (t.kind : Int), .string ⟨t.text.toArray⟩, .int .i64 (t.n : Int), .bool t.opens, .int .i64 (k : Int)], .int .i64 ((k + t.len : Nat) : Int), .int .i64 0]) ∧ Below wr.heap.size wr w' := T
        by_cases hf : acc.length = 1024
        · rw [cutF_full hn hf] at hC
          subst hC
          clear HN HC HP3 HX0 hd hn PA hnl hnl' hpos
          (go_wp2_with fail; go_fit (T); rintro e w1 ⟨rfl, b1⟩)
          go_wp2
          go_ret3
          exact ⟨rfl, Ext.trans' HB.out (b1.alloc b1.size _)⟩
        · rw [cutF_tok hn hpos hf, ← hd, List.drop_drop] at hC
          have hkl : k + t.len ≤ s.size := by omega
          obtain ⟨q1, q2, q3⟩ := passK_cut (bl s) (k + t.len) hkl
          have PB := fun w => pass_any s (k + t.len) w hkl hs
          have q4 := (q2 (acc ++ [(t, k)])).symm.trans hC
          have q5 : k < k + t.len + passK (bl s) (k + t.len) := by omega
          clear hC q2
          generalize k + t.len + passK (bl s) (k + t.len) = k' at PB q1 q3 q4 q5
          generalize k + t.len = b at T PB
          have q1' : k' ≤ s.size := q1
          have Q3 := Lib.hid q3
          have Q4 := Lib.hid q4
          clear q1 q3 q4 HN HC HP3 HX0 hd hn PA hnl hnl' hpos hkl
          (go_wp2_with fail; go_fit (T); rintro e w1 ⟨rfl, b1⟩)
          have HR1 := Lib.hid (row_ext HR.out b1)
          have HB1 := Lib.hid (Ext.trans' HB.out b1)
          have hsz1 : w.heap.size ≤ w1.heap.size := HB1.out.size
          clear b1 HR HB
          go_wp2_with (first
            | (go_at_call 77; go_fit (PB _); rintro e w' ⟨rfl, rfl⟩)
            | (at_builtin; refine wpList_append_k rfl _ _ 88 rfl w.heap.size 125 i0 zeroV 5 48 Tryz.underlying88 hi0 hz0 hs0 (by decide) hb0 rfl (.slice ao acc.length cv) acc.length (acc.flatMap tCells) rfl ((HR1.out.alloc _).alloc _) _ 1 1 (tCells (t, k)) rfl rfl (Or.inr ⟨_, rfl, fun j u hu => ?_⟩) (fun u hu => tCells_one [(t, k)] u (by simpa using hu)) (by unfold maxLen; omega) (by omega) (by simp; omega) (acc.length + 1) ((acc ++ [(t, k)]).flatMap tCells) rfl (by rw [List.flatMap_append]; rfl) ?_; rotate_left; intro a4 c4 w4 hown4 hgrow4 hat4))
          · go_roundw
            case rel =>
              refine ⟨k', a4, c4, acc ++ [(t, k)], q1', rfl, by rw [List.length_append]; rfl, by rw [List.length_append, List.length_singleton]; omega, Lib.hid ?_, Lib.hid ?_, Q4, Q3⟩
              · unfold RowT
                rw [List.length_append]
                exact hown4
              · exact (((HB1.out.alloc hsz1 _).alloc (by simp; omega) _).grown hgrow4 (by simp; omega) (fun q hq => (HR1.out.lt q hq).1))
            case measure => simp [intOf]; omega
          · exact cell_two _ _ _ _ j u hu
    · have hkk : k = s.size := by omega
      have hC := HC.out
      rw [List.drop_eq_nil_of_le (by rw [bl_len]; omega), cutF_nil] at hC
      subst hC
      clear HN HC HP3 HX0 PA
      go_wp2
      go_ret3
      exact ⟨⟨_, _, rfl, HR.out⟩, HB.out⟩
end Go.Proofs.YtaojalicnnnkmaaGreatDoor
/- Package lex: Plain, Quote. -/
namespace Go.Proofs.YtaojalicnnnkmaaGreatDoor
open Go.RowKit
set_option linter.unusedVariables false

def Toks (w : World) (v : Value) (l : List (TokB × Nat)) : Prop := Elems 5 tCells w v l
theorem Toks.form {w : World} {v : Value} {l : List (TokB × Nat)} (h : Toks w v l) : ∃ a c, v = .slice a l.length c := by
  obtain ⟨a, c, rfl, _⟩ := h
  exact ⟨a, c, rfl⟩
end Go.Proofs.YtaojalicnnnkmaaGreatDoor
/-
  DERIVED: THE SHELF's CONTRACTS AT THIS DUMP, IN PLAIN WORDS (tools/lay-plain.mjs out of 'TryzLayXt.lean', which tools/lay-shelf.mjs wrote): THE SAME DECLARATIONS UNDER THE SAME NAMES: 'import', 'namespace', 'open', 'def', 'theorem' AND NOTHING ELSE: no command of the shelf's: FOR A HAND-IN. Each laying: the table of numbers ('.._ren') and one theorem, a field a fact of the dump's own or the kernel's comparison; each contract: ONE APPLICATION.
-/
namespace Go.Proofs
open Go.Shelf
def Tryz.indexOp_ren : Go.Shelf.Ren := ⟨fun | 6 => 88 | n => n, fun | 22 => 65 | 23 => 93 | 25 => 136 | 3 => 3 | 0 => 0 | 4 => 4 | n => n, fun | n => n⟩
theorem Tryz.indexOp : Go.Proofs.SlLaysH0.n6 Tryz.prog Tryz.indexOp_ren := {
  mixed := by kernel_rfl
  f6 := ⟨Tryz.f88.name, by decide, Tryz.func88.trans (congrArg some (by kernel_rfl))⟩
  t0 := Tryz.underlying0
  a0 := Tryz.isAgg0
  z0 := Tryz.sizeOf0
  v0 := Tryz.zeroValue0
  t3 := Tryz.underlying3
  a3 := Tryz.isAgg3
  z3 := Tryz.sizeOf3
  v3 := Tryz.zeroValue3
  t4 := Tryz.underlying4
  a4 := Tryz.isAgg4
  z4 := Tryz.sizeOf4
  v4 := Tryz.zeroValue4
  t22 := Tryz.underlying65
  a22 := Tryz.isAgg65
  z22 := Tryz.sizeOf65
  v22 := Tryz.zeroValue65
  t25 := Tryz.underlying136
  a25 := Tryz.isAgg136
  z25 := Tryz.sizeOf136
  v25 := Tryz.zeroValue136 }
def Tryz.indexNm_ren : Go.Shelf.Ren := ⟨fun | 6 => 120 | n => n, fun | 22 => 62 | 23 => 179 | 25 => 180 | 3 => 3 | 0 => 0 | 4 => 4 | n => n, fun | n => n⟩
theorem Tryz.indexNm : Go.Proofs.SlLaysH0.n6 Tryz.prog Tryz.indexNm_ren := {
  mixed := by kernel_rfl
  f6 := ⟨Tryz.f120.name, by decide, Tryz.func120.trans (congrArg some (by kernel_rfl))⟩
  t0 := Tryz.underlying0
  a0 := Tryz.isAgg0
  z0 := Tryz.sizeOf0
  v0 := Tryz.zeroValue0
  t3 := Tryz.underlying3
  a3 := Tryz.isAgg3
  z3 := Tryz.sizeOf3
  v3 := Tryz.zeroValue3
  t4 := Tryz.underlying4
  a4 := Tryz.isAgg4
  z4 := Tryz.sizeOf4
  v4 := Tryz.zeroValue4
  t22 := Tryz.underlying62
  a22 := Tryz.isAgg62
  z22 := Tryz.sizeOf62
  v22 := Tryz.zeroValue62
  t25 := Tryz.underlying180
  a25 := Tryz.isAgg180
  z25 := Tryz.sizeOf180
  v25 := Tryz.zeroValue180 }
def Tryz.growOp_ren : Go.Shelf.Ren := ⟨fun | 4 => 67 | n => n, fun | 22 => 65 | 25 => 93 | 3 => 3 | 4 => 4 | 9 => 9 | 20 => 20 | 0 => 0 | n => n, fun | n => n⟩
theorem Tryz.growOp : Go.Proofs.Lays8.n4 Tryz.prog Tryz.growOp_ren := {
  mixed := by kernel_rfl
  f4 := ⟨Tryz.f67.name, by decide, Tryz.func67.trans (congrArg some (by kernel_rfl))⟩
  t0 := Tryz.underlying0
  a0 := Tryz.isAgg0
  z0 := Tryz.sizeOf0
  v0 := Tryz.zeroValue0
  t3 := Tryz.underlying3
  a3 := Tryz.isAgg3
  z3 := Tryz.sizeOf3
  v3 := Tryz.zeroValue3
  t4 := Tryz.underlying4
  a4 := Tryz.isAgg4
  z4 := Tryz.sizeOf4
  v4 := Tryz.zeroValue4
  t9 := Tryz.underlying9
  a9 := Tryz.isAgg9
  z9 := Tryz.sizeOf9
  v9 := Tryz.zeroValue9
  t20 := Tryz.underlying20
  a20 := Tryz.isAgg20
  z20 := Tryz.sizeOf20
  v20 := Tryz.zeroValue20
  t22 := Tryz.underlying65
  a22 := Tryz.isAgg65
  z22 := Tryz.sizeOf65
  v22 := Tryz.zeroValue65 }
end Go.Proofs
/- Operators: where the one of a name and side is. -/
namespace Go.Proofs.YtaojalicnnnkmaaGreatDoor
open Go.Shelf Go.RowKit

def isAt (n : List UInt8) (s : Int) (y : O) : Bool := (bl y.n == n) && (sideB (bl y.k) == s)
/-- The first place of that name and side, or -1. -/
def placeB (xs : List O) (n : List UInt8) (s : Int) : Int := Lib.idxBy (fun _ y => isAt n s y) xs default
def Ops (w : World) (v : Value) (xs : List O) : Prop := Elems 3 oCells w v xs
theorem Ops.ext {w w' : World} {v : Value} {xs : List O} (h : Ops w v xs) (hb : Below w.heap.size w w') : Ops w' v xs := Elems.ext h hb

theorem pred_walk (n : ByteArray) (s : Int) (b1 b2 : Nat) (hne : b1 ≠ b2) (w : World) (h1 : w.cell? ⟨b1, 0, none⟩ = some (.string n)) (h2 : w.cell? ⟨b2, 0, none⟩ = some (.int .i64 s)) (l1 : b1 < w.heap.size) (l2 : b2 < w.heap.size) (y : O) :
    Calls Tryz.prog 89 #[.agg #[.string y.n, .string y.k, .int .i64 y.l], .pointer (some ⟨b1, 0, none⟩), .pointer (some ⟨b2, 0, none⟩)] w fun e w' => e = .returned (.bool (isAt (bl n) s y)) ∧ Below w.heap.size w w' := by
  rcases y with ⟨yn, yk, yl⟩
  have hS := side_walk yk
  show Calls _ _ _ _ fun e w' => e = .returned (.bool ((bl yn == bl n) && (sideB (bl yk) == s))) ∧ _
  obtain ⟨z, hz⟩ : ∃ z, sideB (bl yk) = z := ⟨_, rfl⟩
  rw [hz]; rw [hz] at hS; clear hz
  have HS := Lib.hid hS; clear hS
  have n1 : b1 ≠ w.heap.size := by omega
  have n2 : b2 ≠ w.heap.size := by omega
  rw [show (bl yn == bl n) = (yn.toList == n.toList) by rw [Lib.toList_data, Lib.toList_data]]
  cases h3 : (yn.toList == n.toList)
  · go_enter Tryz.func89, Tryz.ntmps89
    go_wp2_with fail
    go_quiet (fail)
    go_wp2
    go_ret
    exact ⟨rfl, bel_drewN (bel1' _ _) _⟩
  · cases h4 : (z == s)
    · go_enter Tryz.func89, Tryz.ntmps89
      go_wp2_with fail
      go_quiet ((go_at_call 76; exact Calls.quiet_of_same ((HS.out _).mono fun _ _ ⟨a, b⟩ => ⟨a, b.symm⟩)))
      go_wp2
      go_ret
      exact ⟨rfl, bel_drewN (bel1' _ _) _⟩
    · go_enter Tryz.func89, Tryz.ntmps89
      go_wp2_with fail
      go_quiet ((go_at_call 76; exact Calls.quiet_of_same ((HS.out _).mono fun _ _ ⟨a, b⟩ => ⟨a, b.symm⟩)))
      go_wp2
      go_ret
      exact ⟨rfl, bel_drewN (bel1' _ _) _⟩

theorem index_none (a : Option Addr) (c : Nat) (f : Value) (w : World) : Calls Tryz.prog 88 #[.slice a 0 c, f] w fun e w' => e = .returned (.int .i64 (-1)) ∧ w = w' := by
  go_enter Tryz.func88, Tryz.ntmps88
  go_wp2_with fail
  refine wp_loop_rounds 1 ?_
  rw [rounds_succ]
  go_wp2
  go_ret
  exact ⟨rfl, rfl⟩
end Go.Proofs.YtaojalicnnnkmaaGreatDoor
