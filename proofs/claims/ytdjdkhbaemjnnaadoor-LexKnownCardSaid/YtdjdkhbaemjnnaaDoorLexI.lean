/- Package lex: a token. -/
import Derived.Test.YtdjdkhbaemjnnaaDoorLexH
import Derived.Laws.ResultCell
namespace Go.Proofs.YtdjdkhbaemjnnaaDoor
open Go.RowKit
set_option linter.unusedVariables false

theorem results_cell3 {fn : Func} {p u v : Tmp} {ty : TypeId} (h : fn.results = #[.cell p ty, .tmp u, .tmp v]) (tmps : Array Value) (P : Program) (w : World) :
    (results fn tmps).run P w =
      ((asAddr (tmps.getD p undef)).run P w).andThen fun a w₁ => ((loadVar ty a).run P w₁).andThen fun x w₂ => .ok (.tuple #[x, tmps.getD u undef, tmps.getD v undef]) w₂ := by
  simp only [results, h]
  simp [Sem.run_bind, Result.andThen]
def tokV (t : TokB) (i : Nat) : Value := .agg #[.int .i64 (t.kind : Int), .string ⟨t.text.toArray⟩, .int .i64 (t.n : Int), .bool t.opens, .int .i64 (i : Int)]
def zeroV : Value := .agg #[.int .i64 0, .string ⟨#[]⟩, .int .i64 0, .bool false, .int .i64 0]
/-- What token answers. -/
def tokenV (i : Nat) : NextB → Value
  | .tok t => .tuple #[tokV t i, .int .i64 ((i + t.len : Nat) : Int), .int .i64 0]
  | .bad true => .tuple #[zeroV, .int .i64 0, .int .i64 3]
  | _ => .tuple #[zeroV, .int .i64 0, .int .i64 2]
theorem token_none {s : ByteArray} {i : Nat} (w : World) (hi : i < s.size) (hs : s.size ≤ 140737488351232)
    (P : ∀ w, Calls Tryd.prog 19 #[.string s, .int .i64 i] w fun e w' => e = .returned (.tuple #[.int .i64 0, .int .i64 (i : Int)]) ∧ w = w') :
    Calls Tryd.prog 13 #[.string s, .int .i64 i] w fun e w' => e = .returned (tokenV i (.bad false)) ∧ Below w.heap.size w w' := by
  go_enter Tryd.func13, Tryd.ntmps13
  (go_wp2_with fail; go_fit (P _); rintro e w' ⟨rfl, rfl⟩)
  go_wp2
  (try simp only [Exit.inBlock, Exit.then])
  refine bodyPost_ret (v := tokenV i (.bad false)) (by rw [results_cell3 rfl]; go_simp; rfl) rfl ⟨rfl, ?_⟩
  repeat' (first | with_reducible exact Below.refl _ _ | (with_reducible refine Below.setCell ?_ ?_ _) | (with_reducible refine Below.alloc ?_ ?_ _) | (simp; done) | (simp; omega))
/-- A '(' stands at this place. -/
def OpenAt (s : ByteArray) (b : Nat) (o : Bool) : Prop := (b = s.size ∧ o = false) ∨ ∃ h : b < s.size, ((s[b].toNat : Int) == 40) = o
set_option maxHeartbeats 4000000 in
theorem token_text {s : ByteArray} {i b : Nat} (κ : Nat) (hκ : κ = 1 ∨ κ = 3 ∨ κ = 5) (w : World) (hi : i < s.size) (hs : s.size ≤ 140737488351232) (hb : i < b) (hbs : b ≤ s.size) (h64 : κ = 1 → b - i ≤ 64) (o : Bool) (ho : OpenAt s b o)
    (P : ∀ w, Calls Tryd.prog 19 #[.string s, .int .i64 i] w fun e w' => e = .returned (.tuple #[.int .i64 (κ : Int), .int .i64 (b : Int)]) ∧ w = w') :
    Calls Tryd.prog 13 #[.string s, .int .i64 i] w fun e w' => e = .returned (.tuple #[.agg #[.int .i64 (κ : Int), .string (s.extract i b), .int .i64 0, .bool o, .int .i64 (i : Int)], .int .i64 (b : Int), .int .i64 0]) ∧ Below w.heap.size w w' := by
  have hsz : (s.extract i b).size = b - i := by simp; omega
  rcases hκ with rfl | rfl | rfl
  · have h65 := h64 rfl
    clear h64
    rcases ho with ⟨rfl, rfl⟩ | ⟨hlt, ho⟩
    · go_enter Tryd.func13, Tryd.ntmps13
      (go_wp2_with fail; go_fit (P _); rintro e w' ⟨rfl, rfl⟩)
      go_wp2
      (try simp only [Exit.inBlock, Exit.then])
      refine bodyPost_ret (v := .tuple #[.agg #[.int .i64 1, .string (s.extract i s.size), .int .i64 0, .bool false, .int .i64 (i : Int)], .int .i64 (s.size : Int), .int .i64 0]) (by rw [results_cell3 rfl]; go_simp) rfl ⟨rfl, ?_⟩
      repeat' (first | with_reducible exact Below.refl _ _ | (with_reducible refine Below.setCell ?_ ?_ _) | (with_reducible refine Below.alloc ?_ ?_ _) | (simp; done) | (simp; omega))
    · cases o
      · go_enter Tryd.func13, Tryd.ntmps13
        (go_wp2_with fail; go_fit (P _); rintro e w' ⟨rfl, rfl⟩)
        go_wp2
        (try simp only [Exit.inBlock, Exit.then])
        refine bodyPost_ret (v := .tuple #[.agg #[.int .i64 1, .string (s.extract i b), .int .i64 0, .bool false, .int .i64 (i : Int)], .int .i64 (b : Int), .int .i64 0]) (by rw [results_cell3 rfl]; go_simp) rfl ⟨rfl, ?_⟩
        repeat' (first | with_reducible exact Below.refl _ _ | (with_reducible refine Below.setCell ?_ ?_ _) | (with_reducible refine Below.alloc ?_ ?_ _) | (simp; done) | (simp; omega))
      · have ho' := eq_of_beq ho
        clear ho
        go_enter Tryd.func13, Tryd.ntmps13
        (go_wp2_with fail; go_fit (P _); rintro e w' ⟨rfl, rfl⟩)
        go_wp2
        (try simp only [Exit.inBlock, Exit.then])
        refine bodyPost_ret (v := .tuple #[.agg #[.int .i64 1, .string (s.extract i b), .int .i64 0, .bool true, .int .i64 (i : Int)], .int .i64 (b : Int), .int .i64 0]) (by rw [results_cell3 rfl]; go_simp) rfl ⟨rfl, ?_⟩
        repeat' (first | with_reducible exact Below.refl _ _ | (with_reducible refine Below.setCell ?_ ?_ _) | (with_reducible refine Below.alloc ?_ ?_ _) | (simp; done) | (simp; omega))
  · clear h64
    rcases ho with ⟨rfl, rfl⟩ | ⟨hlt, ho⟩
    · go_enter Tryd.func13, Tryd.ntmps13
      (go_wp2_with fail; go_fit (P _); rintro e w' ⟨rfl, rfl⟩)
      go_wp2
      (try simp only [Exit.inBlock, Exit.then])
      refine bodyPost_ret (v := .tuple #[.agg #[.int .i64 3, .string (s.extract i s.size), .int .i64 0, .bool false, .int .i64 (i : Int)], .int .i64 (s.size : Int), .int .i64 0]) (by rw [results_cell3 rfl]; go_simp) rfl ⟨rfl, ?_⟩
      repeat' (first | with_reducible exact Below.refl _ _ | (with_reducible refine Below.setCell ?_ ?_ _) | (with_reducible refine Below.alloc ?_ ?_ _) | (simp; done) | (simp; omega))
    · cases o
      · go_enter Tryd.func13, Tryd.ntmps13
        (go_wp2_with fail; go_fit (P _); rintro e w' ⟨rfl, rfl⟩)
        go_wp2
        (try simp only [Exit.inBlock, Exit.then])
        refine bodyPost_ret (v := .tuple #[.agg #[.int .i64 3, .string (s.extract i b), .int .i64 0, .bool false, .int .i64 (i : Int)], .int .i64 (b : Int), .int .i64 0]) (by rw [results_cell3 rfl]; go_simp) rfl ⟨rfl, ?_⟩
        repeat' (first | with_reducible exact Below.refl _ _ | (with_reducible refine Below.setCell ?_ ?_ _) | (with_reducible refine Below.alloc ?_ ?_ _) | (simp; done) | (simp; omega))
      · have ho' := eq_of_beq ho
        clear ho
        go_enter Tryd.func13, Tryd.ntmps13
        (go_wp2_with fail; go_fit (P _); rintro e w' ⟨rfl, rfl⟩)
        go_wp2
        (try simp only [Exit.inBlock, Exit.then])
        refine bodyPost_ret (v := .tuple #[.agg #[.int .i64 3, .string (s.extract i b), .int .i64 0, .bool true, .int .i64 (i : Int)], .int .i64 (b : Int), .int .i64 0]) (by rw [results_cell3 rfl]; go_simp) rfl ⟨rfl, ?_⟩
        repeat' (first | with_reducible exact Below.refl _ _ | (with_reducible refine Below.setCell ?_ ?_ _) | (with_reducible refine Below.alloc ?_ ?_ _) | (simp; done) | (simp; omega))
  · clear h64
    rcases ho with ⟨rfl, rfl⟩ | ⟨hlt, ho⟩
    · go_enter Tryd.func13, Tryd.ntmps13
      (go_wp2_with fail; go_fit (P _); rintro e w' ⟨rfl, rfl⟩)
      go_wp2
      (try simp only [Exit.inBlock, Exit.then])
      refine bodyPost_ret (v := .tuple #[.agg #[.int .i64 5, .string (s.extract i s.size), .int .i64 0, .bool false, .int .i64 (i : Int)], .int .i64 (s.size : Int), .int .i64 0]) (by rw [results_cell3 rfl]; go_simp) rfl ⟨rfl, ?_⟩
      repeat' (first | with_reducible exact Below.refl _ _ | (with_reducible refine Below.setCell ?_ ?_ _) | (with_reducible refine Below.alloc ?_ ?_ _) | (simp; done) | (simp; omega))
    · cases o
      · go_enter Tryd.func13, Tryd.ntmps13
        (go_wp2_with fail; go_fit (P _); rintro e w' ⟨rfl, rfl⟩)
        go_wp2
        (try simp only [Exit.inBlock, Exit.then])
        refine bodyPost_ret (v := .tuple #[.agg #[.int .i64 5, .string (s.extract i b), .int .i64 0, .bool false, .int .i64 (i : Int)], .int .i64 (b : Int), .int .i64 0]) (by rw [results_cell3 rfl]; go_simp) rfl ⟨rfl, ?_⟩
        repeat' (first | with_reducible exact Below.refl _ _ | (with_reducible refine Below.setCell ?_ ?_ _) | (with_reducible refine Below.alloc ?_ ?_ _) | (simp; done) | (simp; omega))
      · have ho' := eq_of_beq ho
        clear ho
        go_enter Tryd.func13, Tryd.ntmps13
        (go_wp2_with fail; go_fit (P _); rintro e w' ⟨rfl, rfl⟩)
        go_wp2
        (try simp only [Exit.inBlock, Exit.then])
        refine bodyPost_ret (v := .tuple #[.agg #[.int .i64 5, .string (s.extract i b), .int .i64 0, .bool true, .int .i64 (i : Int)], .int .i64 (b : Int), .int .i64 0]) (by rw [results_cell3 rfl]; go_simp) rfl ⟨rfl, ?_⟩
        repeat' (first | with_reducible exact Below.refl _ _ | (with_reducible refine Below.setCell ?_ ?_ _) | (with_reducible refine Below.alloc ?_ ?_ _) | (simp; done) | (simp; omega))
set_option maxHeartbeats 4000000 in
theorem token_long {s : ByteArray} {i b : Nat} (w : World) (hi : i < s.size) (hs : s.size ≤ 140737488351232) (hb : i < b) (hbs : b ≤ s.size) (h64 : ¬ b - i ≤ 64)
    (P : ∀ w, Calls Tryd.prog 19 #[.string s, .int .i64 i] w fun e w' => e = .returned (.tuple #[.int .i64 1, .int .i64 (b : Int)]) ∧ w = w') :
    Calls Tryd.prog 13 #[.string s, .int .i64 i] w fun e w' => e = .returned (tokenV i (.bad true)) ∧ Below w.heap.size w w' := by
  have hsz : (s.extract i b).size = b - i := by simp; omega
  go_enter Tryd.func13, Tryd.ntmps13
  (go_wp2_with fail; go_fit (P _); rintro e w' ⟨rfl, rfl⟩)
  go_wp2
  (try simp only [Exit.inBlock, Exit.then])
  refine bodyPost_ret (v := tokenV i (.bad true)) (by rw [results_cell3 rfl]; go_simp; rfl) rfl ⟨rfl, ?_⟩
  repeat' (first | with_reducible exact Below.refl _ _ | (with_reducible refine Below.setCell ?_ ?_ _) | (with_reducible refine Below.alloc ?_ ?_ _) | (simp; done) | (simp; omega))
set_option maxHeartbeats 4000000 in
theorem token_end {s : ByteArray} {i : Nat} (w : World) (hi : i < s.size) (hs : s.size ≤ 140737488351232) (o : Bool) (ho : OpenAt s (i + 1) o)
    (P : ∀ w, Calls Tryd.prog 19 #[.string s, .int .i64 i] w fun e w' => e = .returned (.tuple #[.int .i64 6, .int .i64 ((i : Int) + 1)]) ∧ w = w') :
    Calls Tryd.prog 13 #[.string s, .int .i64 i] w fun e w' => e = .returned (.tuple #[.agg #[.int .i64 6, .string ⟨#[]⟩, .int .i64 0, .bool o, .int .i64 (i : Int)], .int .i64 ((i : Int) + 1), .int .i64 0]) ∧ Below w.heap.size w w' := by
  rcases ho with ⟨hlt, rfl⟩ | ⟨hlt, ho⟩
  · go_enter Tryd.func13, Tryd.ntmps13
    (go_wp2_with fail; go_fit (P _); rintro e w' ⟨rfl, rfl⟩)
    go_wp2
    (try simp only [Exit.inBlock, Exit.then])
    refine bodyPost_ret (v := .tuple #[.agg #[.int .i64 6, .string ⟨#[]⟩, .int .i64 0, .bool false, .int .i64 (i : Int)], .int .i64 ((i : Int) + 1), .int .i64 0]) (by rw [results_cell3 rfl]; go_simp) rfl ⟨rfl, ?_⟩
    repeat' (first | with_reducible exact Below.refl _ _ | (with_reducible refine Below.setCell ?_ ?_ _) | (with_reducible refine Below.alloc ?_ ?_ _) | (simp; done) | (simp; omega))
  · cases o
    · go_enter Tryd.func13, Tryd.ntmps13
      (go_wp2_with fail; go_fit (P _); rintro e w' ⟨rfl, rfl⟩)
      go_wp2
      (try simp only [Exit.inBlock, Exit.then])
      refine bodyPost_ret (v := .tuple #[.agg #[.int .i64 6, .string ⟨#[]⟩, .int .i64 0, .bool false, .int .i64 (i : Int)], .int .i64 ((i : Int) + 1), .int .i64 0]) (by rw [results_cell3 rfl]; go_simp) rfl ⟨rfl, ?_⟩
      repeat' (first | with_reducible exact Below.refl _ _ | (with_reducible refine Below.setCell ?_ ?_ _) | (with_reducible refine Below.alloc ?_ ?_ _) | (simp; done) | (simp; omega))
    · have ho' := eq_of_beq ho
      clear ho
      go_enter Tryd.func13, Tryd.ntmps13
      (go_wp2_with fail; go_fit (P _); rintro e w' ⟨rfl, rfl⟩)
      go_wp2
      (try simp only [Exit.inBlock, Exit.then])
      refine bodyPost_ret (v := .tuple #[.agg #[.int .i64 6, .string ⟨#[]⟩, .int .i64 0, .bool true, .int .i64 (i : Int)], .int .i64 ((i : Int) + 1), .int .i64 0]) (by rw [results_cell3 rfl]; go_simp) rfl ⟨rfl, ?_⟩
      repeat' (first | with_reducible exact Below.refl _ _ | (with_reducible refine Below.setCell ?_ ?_ _) | (with_reducible refine Below.alloc ?_ ?_ _) | (simp; done) | (simp; omega))
set_option maxHeartbeats 4000000 in
theorem token_quote {s : ByteArray} {i : Nat} (w : World) (hi : i < s.size) (hs : s.size ≤ 140737488351232)
    (P : ∀ w, Calls Tryd.prog 19 #[.string s, .int .i64 i] w fun e w' => e = .returned (.tuple #[.int .i64 2, .int .i64 (i : Int)]) ∧ w = w')
    (U : ∀ w, Calls Tryd.prog 20 #[.string s, .int .i64 i] w fun e w' => e = .returned (.tuple #[.string ⟨#[]⟩, .int .i64 0, .int .i64 2]) ∧ Below w.heap.size w w') :
    Calls Tryd.prog 13 #[.string s, .int .i64 i] w fun e w' => e = .returned (tokenV i (.bad false)) ∧ Below w.heap.size w w' := by
    go_enter Tryd.func13, Tryd.ntmps13
    (go_wp2_with fail; go_fit (P _); rintro e w' ⟨rfl, rfl⟩)
    (go_wp2_with fail; go_fit (U _); rintro e w1 ⟨rfl, hb1⟩)
    have c0 : w1.cell? ⟨w.heap.size, 0, none⟩ = some (.int .i64 0) := cell_later hb1 (by simp <;> omega)
    have c1 : w1.cell? ⟨w.heap.size, 1, none⟩ = some (.string ⟨#[]⟩) := cell_later hb1 (by simp <;> omega)
    have c2 : w1.cell? ⟨w.heap.size, 2, none⟩ = some (.int .i64 0) := cell_later hb1 (by simp <;> omega)
    have c3 : w1.cell? ⟨w.heap.size, 3, none⟩ = some (.bool false) := cell_later hb1 (by simp <;> omega)
    have c4 : w1.cell? ⟨w.heap.size, 4, none⟩ = some (.int .i64 0) := cell_later hb1 (by simp <;> omega)
    have d0 : w1.cell? ⟨w.heap.size + 1, 0, none⟩ = some (.int .i64 2) := cell_later hb1 (by simp <;> omega)
    have d1 : w1.cell? ⟨w.heap.size + 1, 1, none⟩ = some (.string ⟨#[]⟩) := cell_later hb1 (by simp <;> omega)
    have d2 : w1.cell? ⟨w.heap.size + 1, 2, none⟩ = some (.int .i64 0) := cell_later hb1 (by simp <;> omega)
    have d3 : w1.cell? ⟨w.heap.size + 1, 3, none⟩ = some (.bool false) := cell_later hb1 (by simp <;> omega)
    have d4 : w1.cell? ⟨w.heap.size + 1, 4, none⟩ = some (.int .i64 (i : Int)) := cell_later hb1 (by simp <;> omega)
    have f0 : ∀ j, w1.frozen? ⟨w.heap.size, j, none⟩ = false := fun j => (hb1.frozen (p := ⟨w.heap.size, j, none⟩) (by simp <;> omega)).trans (by simp)
    have f1 : ∀ j, w1.frozen? ⟨w.heap.size + 1, j, none⟩ = false := fun j => (hb1.frozen (p := ⟨w.heap.size + 1, j, none⟩) (by simp <;> omega)).trans (by simp)
    have hz1 : w.heap.size + 2 ≤ w1.heap.size := by have := hb1.size; simpa using this
    have HW := Lib.hid (show Below w.heap.size w w1 from (show Below w.heap.size w _ by repeat' (first | with_reducible exact Below.refl _ _ | (with_reducible refine Below.setCell ?_ ?_ _) | (with_reducible refine Below.alloc ?_ ?_ _) | (simp; done) | (simp; omega))).trans (hb1.mono (by simp; omega)))
    clear hb1
    go_wp2
    (try simp only [Exit.inBlock, Exit.then])
    refine bodyPost_ret (v := tokenV i (.bad false)) (by rw [results_cell3 rfl]; go_simp; rfl) rfl ⟨rfl, ?_⟩
    repeat' (first | with_reducible exact HW.out | (with_reducible refine Below.setCell ?_ ?_ _) | (with_reducible refine Below.alloc ?_ ?_ _) | (simp; done) | (simp; omega))
end Go.Proofs.YtdjdkhbaemjnnaaDoor
