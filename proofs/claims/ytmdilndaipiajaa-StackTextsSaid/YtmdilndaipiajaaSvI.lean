/- Stacks of int: from, All, Undo. -/
import Derived.Test.YtmdilndaipiajaaSuI
namespace Go.Proofs.Ytmdilndaipiajaa
open Go.RowKit

section
variable {F : List Nat} {w : World} {p : Value} {R : Nat} {xs : List Value}
/-- The copy's block. -/
theorem copiedI {w3 : World} {g m : Nat} {cs : List Value} (hm : cs.length = m) (h : w3.heap[g]? = some (.cells (splice (madeCells #[(.int .i64 0 : Value)] m).toList 0 cs).toArray 3 (0, 0))) : w3.heap[g]? = some (.cells cs.toArray 3 (0, 0)) := by
  rw [h]
  simp [splice, madeCells, hm]

set_option maxHeartbeats 400000 in
theorem fromI (h : StkI F w p R xs) (n : Nat) (hn : n ≤ xs.length) (m : Nat) (hm : xs.length = n + m) :
    Calls Try.prog 27 #[p, .int .i64 n] w fun e w' => e = .returned (.slice (some ⟨w.heap.size, 0, none⟩) m m) ∧ Below w.heap.size w w' ∧ w'.heap[w.heap.size]? = some (.cells (xs.drop n).toArray 3 (0, 0)) := by
  have hroom := h.room
  obtain ⟨bt, v, rfl, h1, rfl, hbt, hr, hN, hR⟩ := h
  have c1 : w.cell? ⟨bt, 1, none⟩ = some v := by simp [blk_cell hbt]
  have c1' : ∀ o, (w.alloc o).cell? ⟨bt, 1, none⟩ = some v := fun o => Lib.cell?_alloc_some _ c1
  obtain ⟨i0, hi, hz0, hz1, hz2⟩ := info_parts infoI
  have hmm : (xs.length : Int) - (n : Int) = (m : Int) := by omega
  have hdl : (xs.drop n).length = m := by simp; omega
  have HN := Lib.hid (fun x (hx : x ∈ xs.drop n) => hN x (List.mem_of_mem_drop hx))
  have HM := Lib.hid hdl
  have HQ := Lib.hid hm
  rcases row_cells hr with ⟨rfl, rfl⟩ | ⟨g, c, cur, rfl, hg, hc1, hc2, hc3, hc4⟩
  · obtain rfl : n = 0 := by simpa using hn
    obtain rfl : m = 0 := by simpa using hm.symm
    clear hbt hN hr h1
    go_enter Try.func27, Try.ntmps27
    go_wp2_with (first
      | (at_make; refine wpList_make_row _ rfl _ _ 37 rfl 3 i0 (.int .i64 0) Try.underlying37 hi hz0 hz1 rfl .i64 .i64 0 rfl rfl (by rw [hz2]; omega) (by omega) ?_)
      | (refine wpList_copy_splice rfl _ _ 37 37 rfl 3 Try.underlying37 (by rw [hi]; simp [hz1]) _ _ _ _ _ _ rfl rfl w.heap.size 0 (madeCells #[(.int .i64 0 : Value)] 0).toList 3 (by rw [Array.toArray_toList]; exact heap_alloc_new w _) [] (by simp) (fun h0 => absurd h0 (by simp)) (by simp [madeCells]) (by simp [Value.oneCell']) w.heap.size w ((Below.refl _ _).alloc (Nat.le_refl _) _) (Nat.le_refl _) ?_; intro w3 HG3 HB3)
      | go_in)
    go_ret
    exact ⟨rfl, HB3, copiedI rfl HG3.out⟩
  by_cases hlt : n < xs.length
  · have HC := Lib.hid (show ∀ o, ∀ j u, (xs.drop n)[j]? = some u → (w.alloc o).cell? ((⟨g, n, none⟩ : Addr).add j) = some u from fun o j u hu => by
      rw [add_plain]
      refine Lib.cell?_alloc_some _ ?_
      rw [blk_cell hg]
      exact cur_at hc4 (by rw [List.getElem?_drop] at hu; exact hu))
    clear hbt hN hr h1 hg hc4 hdl hm
    unfold maxLen at hc2
    go_enter Try.func27, Try.ntmps27
    go_wp2_with (first
      | (at_make; go_loud (refine wpList_make_row _ rfl _ _ 37 rfl 3 i0 (.int .i64 0) Try.underlying37 hi hz0 hz1 rfl .i64 .i64 m (by first | rfl | exact congrArg (Value.int .i64) hmm) (by first | rfl | exact congrArg (Value.int .i64) hmm) (by rw [hz2]; omega) (by omega) ?_))
      | (refine wpList_copy_splice rfl _ _ 37 37 rfl 3 Try.underlying37 (by rw [hi]; simp [hz1]) _ _ _ _ _ _ rfl rfl w.heap.size 0 (madeCells #[(.int .i64 0 : Value)] m).toList 3 (by rw [Array.toArray_toList]; exact heap_alloc_new w _) (xs.drop n) (by rw [HM.out]; have := HQ.out; show m = min (xs.length - n) m; omega) (fun h0 => ⟨rfl, _, rfl, HC.out _⟩) (by rw [HM.out]; simp [madeCells]) HN.out w.heap.size w ((Below.refl _ _).alloc (Nat.le_refl _) _) (Nat.le_refl _) ?_; intro w3 HG3 HB3)
      | go_in)
    go_ret
    exact ⟨rfl, HB3, copiedI HM.out HG3.out⟩
  have hm0 : m = 0 := by omega
  rw [List.drop_eq_nil_of_le (by omega)]
  have H0 := Lib.hid hm0
  have hnl : xs.length ≤ n := by omega
  clear hbt hN hr h1 hg hc4 hdl HN HM hR hm hm0 HQ hlt
  unfold maxLen at hc2
  generalize xs.length = L at *
  by_cases hcap : c ≤ n
  · go_enter Try.func27, Try.ntmps27
    go_wp2_with (first
      | (at_make; go_loud (refine wpList_make_row _ rfl _ _ 37 rfl 3 i0 (.int .i64 0) Try.underlying37 hi hz0 hz1 rfl .i64 .i64 m (by first | rfl | exact congrArg (Value.int .i64) hmm) (by first | rfl | exact congrArg (Value.int .i64) hmm) (by rw [hz2]; omega) (by omega) ?_))
      | (refine wpList_copy_splice rfl _ _ 37 37 rfl 3 Try.underlying37 (by rw [hi]; simp [hz1]) _ _ _ _ _ _ rfl rfl w.heap.size 0 (madeCells #[(.int .i64 0 : Value)] m).toList 3 (by rw [Array.toArray_toList]; exact heap_alloc_new w _) [] (by rw [H0.out]; simp) (fun h0 => absurd h0 (by simp)) (by simp [madeCells]) (by simp [Value.oneCell']) w.heap.size w ((Below.refl _ _).alloc (Nat.le_refl _) _) (Nat.le_refl _) ?_; intro w3 HG3 HB3)
      | go_in)
    go_ret
    exact ⟨rfl, HB3, copiedI H0.out.symm HG3.out⟩
  have hcap' : n < c := by omega
  · go_enter Try.func27, Try.ntmps27
    go_wp2_with (first
      | (at_make; go_loud (refine wpList_make_row _ rfl _ _ 37 rfl 3 i0 (.int .i64 0) Try.underlying37 hi hz0 hz1 rfl .i64 .i64 m (by first | rfl | exact congrArg (Value.int .i64) hmm) (by first | rfl | exact congrArg (Value.int .i64) hmm) (by rw [hz2]; omega) (by omega) ?_))
      | (refine wpList_copy_splice rfl _ _ 37 37 rfl 3 Try.underlying37 (by rw [hi]; simp [hz1]) _ _ _ _ _ _ rfl rfl w.heap.size 0 (madeCells #[(.int .i64 0 : Value)] m).toList 3 (by rw [Array.toArray_toList]; exact heap_alloc_new w _) [] (by rw [H0.out]; simp) (fun h0 => absurd h0 (by simp)) (by simp [madeCells]) (by simp [Value.oneCell']) w.heap.size w ((Below.refl _ _).alloc (Nat.le_refl _) _) (Nat.le_refl _) ?_; intro w3 HG3 HB3)
      | go_in)
    go_ret
    exact ⟨rfl, HB3, copiedI H0.out.symm HG3.out⟩
end
end Go.Proofs.Ytmdilndaipiajaa
