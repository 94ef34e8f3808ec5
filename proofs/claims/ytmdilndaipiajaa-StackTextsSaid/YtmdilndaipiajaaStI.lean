/- Stacks of int: New, Mark, At, Top, cut, Pop. -/
import Derived.Test.YtmdilndaipiajaaStk
namespace Go.Proofs.Ytmdilndaipiajaa
open Go.RowKit

/-- p is a stack. -/
abbrev StkI (F : List Nat) (w : World) (p : Value) (R : Nat) (xs : List Value) : Prop := IsStk 3 52 F w p R xs
theorem infoI : (Try.prog.info? 3).map (fun i => (i.zero, i.size, i.bytes)) = some (some (.int .i64 0), 1, 8) := by kernel_rfl

theorem new_doneI (w : World) {R : Nat} {x : Int} (hx : x = R) (hR : 1 ≤ R ∧ R ≤ 65536) :
    StkI [w.heap.size] (w.alloc (.cells #[.int .i64 x, .slice none 0 0] 52)) (.pointer (some ⟨w.heap.size, 0, none⟩)) R [] ∧
      Below w.heap.size w (w.alloc (.cells #[.int .i64 x, .slice none 0 0] 52)) ∧ ∀ k ∈ [w.heap.size], w.heap.size ≤ k := by
  subst hx
  exact ⟨⟨w.heap.size, .slice none 0 0, rfl, by simp [Value.ownBlock], rfl, heap_alloc_new w _, World.ownsRow_nil _ _ _ _, by simp, hR.1, hR.2, by simp⟩, (Below.refl _ _).alloc (Nat.le_refl _) _, by simp⟩
theorem newI (m : Int) (R : Nat) (hR : (R : Int) = max 1 (min m 65536)) (w : World) :
    Calls Try.prog 9 #[.int .i64 m] w fun e w' => ∃ p, e = .returned p ∧ ∃ F, StkI F w' p R [] ∧ Below w.heap.size w w' ∧ ∀ k ∈ F, w.heap.size ≤ k := by
  go_enter Try.func9, Try.ntmps9
  go_wp2
  all_goals go_ret
  all_goals exact ⟨_, rfl, _, new_doneI (R := R) w (by omega) (by omega)⟩

section
variable {F : List Nat} {w : World} {p : Value} {R : Nat} {xs : List Value}
theorem markI (h : StkI F w p R xs) : Calls Try.prog 20 #[p] w fun e w' => e = .returned (.int .i64 xs.length) ∧ w = w' := by
  obtain ⟨bt, v, rfl, h1, rfl, hbt, hr, hN, hR⟩ := h
  have c1 : w.cell? ⟨bt, 1, none⟩ = some v := by simp [blk_cell hbt]
  obtain ⟨a, c, rfl, _⟩ := row_form hr
  clear hbt hN hr h1
  go_enter Try.func20, Try.ntmps20
  go_wp2
  go_ret
  exact ⟨rfl, rfl⟩
theorem at_outI (h : StkI F w p R xs) (i : Int) (hi : i < 0 ∨ (xs.length : Int) ≤ i) : Calls Try.prog 29 #[p, .int .i64 i] w fun e w' => e = .returned (.tuple #[.int .i64 0, .bool false]) ∧ w = w' := by
  obtain ⟨bt, v, rfl, h1, rfl, hbt, hr, hN, hR⟩ := h
  have c1 : w.cell? ⟨bt, 1, none⟩ = some v := by simp [blk_cell hbt]
  obtain ⟨a, c, rfl, _⟩ := row_form hr
  clear hbt hN hr h1
  by_cases h0 : i < 0
  · go_enter Try.func29, Try.ntmps29
    go_wp2
    go_ret2
    exact ⟨rfl, rfl⟩
  · have hle : (xs.length : Int) ≤ i := by omega
    go_enter Try.func29, Try.ntmps29
    go_wp2
    go_ret2
    exact ⟨rfl, rfl⟩
theorem at_inI (h : StkI F w p R xs) (i : Nat) (x : Value) (hx : xs[i]? = some x) : Calls Try.prog 29 #[p, .int .i64 i] w fun e w' => e = .returned (.tuple #[x, .bool true]) ∧ w = w' := by
  obtain ⟨bt, v, rfl, h1, rfl, hbt, hr, hN, hR⟩ := h
  have c1 : w.cell? ⟨bt, 1, none⟩ = some v := by simp [blk_cell hbt]
  have hi := (List.getElem?_eq_some_iff.1 hx).1
  rcases row_cells hr with ⟨rfl, rfl⟩ | ⟨g, c, cur, rfl, hg, hc1, hc2, hc3, hc4⟩
  · simp at hx
  have cx : w.cell? ⟨g, i, none⟩ = some x := by rw [blk_cell hg]; exact cur_at hc4 hx
  clear hbt hN hr h1 hg hc4 hx
  go_enter Try.func29, Try.ntmps29
  go_wp2
  go_ret2
  exact ⟨rfl, rfl⟩
theorem top_noneI (h : StkI F w p R []) : Calls Try.prog 19 #[p] w fun e w' => e = .returned (.tuple #[.int .i64 0, .bool false]) ∧ w = w' := by
  have HS := Lib.hid h
  obtain ⟨bt, v, rfl, h1, rfl, hbt, hr, hN, hR⟩ := h
  have c1 : w.cell? ⟨bt, 1, none⟩ = some v := by simp [blk_cell hbt]
  obtain ⟨a, c, rfl, _⟩ := row_form hr
  clear hbt hN hr h1
  go_enter Try.func19, Try.ntmps19
  (go_wp2_with fail; go_fit (at_outI HS.out (-1) (Or.inl (by omega))); rintro e w' ⟨rfl, rfl⟩)
  go_wp2
  go_ret2
  exact ⟨rfl, rfl⟩
theorem top_inI {ys : List Value} {x : Value} (h : StkI F w p R (ys ++ [x])) : Calls Try.prog 19 #[p] w fun e w' => e = .returned (.tuple #[x, .bool true]) ∧ w = w' := by
  have HS := Lib.hid h
  have hroom := h.room
  obtain ⟨bt, v, rfl, h1, rfl, hbt, hr, hN, hR⟩ := h
  have c1 : w.cell? ⟨bt, 1, none⟩ = some v := by simp [blk_cell hbt]
  obtain ⟨a, c, rfl, _⟩ := row_form hr
  rw [List.length_append, List.length_singleton] at c1 hroom
  clear hbt hN hr h1 hR
  go_enter Try.func19, Try.ntmps19
  (go_wp2_with fail; go_fit (at_inI HS.out ys.length x (by simp)); rintro e w' ⟨rfl, rfl⟩)
  go_wp2
  go_ret2
  exact ⟨rfl, rfl⟩

theorem storedI {bt g c n : Nat} {v : Value} {ys : List Value} (hb : w.heap[bt]? = some (.cells #[.int .i64 (R : Int), v] 52 (0, 0))) (hn : ys.length = n)
    (hr : w.ownsRow 0 3 1 (.slice (some ⟨g, 0, none⟩) ys.length c) ys.length ys) (hgb : g ≠ bt) (h1 : ∀ x ∈ ys, x.oneCell' = true) (hR : 1 ≤ R ∧ R ≤ 65536 ∧ ys.length ≤ R) :
    StkI [bt, g] (w.setCell ⟨bt, 1, none⟩ (.slice (some ⟨g, 0, none⟩) n c)) (.pointer (some ⟨bt, 0, none⟩)) R ys := by
  subst hn
  exact ⟨bt, _, rfl, by simpa [Value.ownBlock] using hgb, rfl, blk_set hb _, owns_row_block hr (fun k hk => heap_set_other _ _ _ _ (fun e => by simp [Value.ownBlock] at hk; simp at e; omega)), h1, hR⟩

set_option maxHeartbeats 400000 in
theorem cutI (h : StkI F w p R xs) (n : Nat) (hn : n ≤ xs.length) :
    Calls Try.prog 26 #[p, .int .i64 n] w fun e w' => e = .returned (.tuple #[]) ∧ StkI F w' p R (xs.take n) ∧ Touch F w w' := by
  have hroom := h.room
  obtain ⟨bt, v, rfl, h1, rfl, hbt, hr, hN, hR⟩ := h
  have c1 : w.cell? ⟨bt, 1, none⟩ = some v := by simp [blk_cell hbt]
  have f1 : w.frozen? ⟨bt, 1, none⟩ = false := blk_froz hbt 1
  have hl : (xs.take n).length = n := by simp; omega
  have hcl0 := fun w ty => run_clear_none (P := Try.prog) w 37 3 ty Try.underlying37
  rcases row_cells hr with ⟨rfl, rfl⟩ | ⟨g, c, cur, rfl, hg, hc1, hc2, hc3, hc4⟩
  · obtain rfl : n = 0 := by simpa using hn
    have HB := Lib.hid hbt
    clear hbt hN hr h1
    go_enter Try.func26, Try.ntmps26
    go_wp2
    all_goals go_end0
    all_goals exact ⟨rfl, ⟨bt, _, rfl, by simp [Value.ownBlock], rfl, blk_set HB.out _, World.ownsRow_nil _ _ _ _, by simp, hR.1, hR.2.1, by simp⟩, touch_set⟩
  have hgb : g ≠ bt := fun e => h1 (by rw [e]; rfl)
  have HB := Lib.hid hbt
  have HG := Lib.hid hg
  have H4 := Lib.hid hc4
  have HN := Lib.hid hN
  clear hbt hN hr h1 hg hc4
  unfold maxLen at hc2
  by_cases hlt : n < xs.length
  · have hcl : ∀ ty c', (Builtin.clear_ #[37] ty #[.slice (some ⟨g, n, none⟩) (xs.length - n) c']).run Try.prog w = .ok (.tuple #[]) (w.setRow g (cur.toList.take n ++ List.replicate (xs.length - n) (.int .i64 0 : Value) ++ cur.toList.drop (n + (xs.length - n))).toArray) :=
      fun ty c' => run_clear_row w _ _ ty _ Try.underlying37 (fun w => by kernel_rfl) rfl rfl g n (xs.length - n) c' cur 3 HG.out (by omega) (by omega)
    generalize hcur : (cur.toList.take n ++ List.replicate (xs.length - n) (.int .i64 0 : Value) ++ cur.toList.drop (n + (xs.length - n))).toArray = cur' at hcl
    have hb2 : (w.setRow g cur').heap[bt]? = some (.cells #[.int .i64 (R : Int), .slice (some ⟨g, 0, none⟩) xs.length c] 52 (0, 0)) := (setRow_other w g bt cur' (fun e => hgb e.symm)).trans HB.out
    have hg2 : (w.setRow g cur').heap[g]? = some (.cells cur' 3 (0, 0)) := setRow_heap w g _ _ _ _ HG.out
    have hT : Touch [bt, g] w (w.setRow g cur') := ⟨rfl, rfl, rfl, by simp [World.setRow], fun k _ hn => setRow_other w g k cur' (by simp at hn; exact hn.2)⟩
    have hsz : cur'.size = c := by rw [← hcur, List.size_toArray]; simp; omega
    have htk : cur'.toList.take n = xs.take n := by
      rw [← hcur, List.append_assoc, List.take_append_of_le_length (by simp; omega), List.take_take, Nat.min_self]
      have := congrArg (List.take n) H4.out
      rw [List.take_take, Nat.min_eq_left (by omega)] at this
      exact this
    have c1' : (w.setRow g cur').cell? ⟨bt, 1, none⟩ = some (.slice (some ⟨g, 0, none⟩) xs.length c) := by simp [blk_cell hb2]
    have f1' : (w.setRow g cur').frozen? ⟨bt, 1, none⟩ = false := blk_froz hb2 1
    have HD := Lib.hid (And.intro (storedI (n := n) hb2 hl (cells_row (xs := xs.take n) hg2 (by omega) (by unfold maxLen; omega) hsz (by rw [hl]; exact htk)) hgb (fun x hx => HN.out x (List.mem_of_mem_take hx)) ⟨hR.1, hR.2.1, by omega⟩) hT)
    clear hb2 hg2 hT hsz htk hcl0
    have hlt' : ¬ (xs.length < n) := by omega
    go_enter Try.func26, Try.ntmps26
    go_wp2
    all_goals go_end0
    all_goals exact ⟨rfl, HD.out.1, HD.out.2.trans (F' := [bt]) touch_set (fun k hk => Or.inl (by simp at hk; simp [hk]))⟩
  · obtain rfl : n = xs.length := by omega
    have HD := Lib.hid (storedI (n := xs.length) HB.out (by simp) (cells_row (xs := xs) HG.out hc1 (by unfold maxLen; omega) hc3 H4.out) hgb HN.out ⟨hR.1, hR.2.1, by omega⟩)
    rw [List.take_length]
    by_cases hcap : c = xs.length
    · subst hcap
      go_enter Try.func26, Try.ntmps26
      go_wp2
      all_goals go_end0
      all_goals exact ⟨rfl, HD.out, touch_set⟩
    have hcap' : xs.length < c := by omega
    go_enter Try.func26, Try.ntmps26
    go_wp2
    all_goals go_end0
    all_goals exact ⟨rfl, HD.out, touch_set⟩
end
end Go.Proofs.Ytmdilndaipiajaa
