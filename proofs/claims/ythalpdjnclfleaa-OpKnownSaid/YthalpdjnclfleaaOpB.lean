/- Operators: place, Good, the one of a name and side, Pre, In. -/
import Derived.Test.YthalpdjnclfleaaOpA
namespace Go.Proofs.Ythalpdjnclfleaa
open Go.Shelf Go.RowKit

theorem Ops.at {w : World} {b off n c : Nat} {xs : List O} (h : Ops w (.slice (some ⟨b, off, none⟩) n c) xs) : n = xs.length := by
  obtain ⟨a, cap, e, _⟩ := h; injection e
theorem Ops.form {w : World} {v : Value} {xs : List O} (h : Ops w v xs) : ∃ a c, v = .slice a xs.length c ∧ xs.length ≤ c ∧ c ≤ maxLen := by
  obtain ⟨a, cap, e, h1, h2, _⟩ := h; exact ⟨a, cap, e, h1, h2⟩
theorem Ops.shape {w : World} {v : Value} {xs : List O} (h : Ops w v xs) (h0 : 0 < xs.length) :
    ∃ b off c, v = .slice (some ⟨b, off, none⟩) xs.length c ∧ xs.length ≤ c ∧ c ≤ maxLen ∧ b < w.heap.size ∧ ∀ (i : Nat) (x : O), xs[i]? = some x → ∀ (j : Nat) (u : Value), (oCells x)[j]? = some u → w.cell? ⟨b, off + (i * 3 + j), none⟩ = some u := by
  obtain ⟨a, cap, rfl, h1, h2, h3⟩ := h
  rcases h3 with rfl | ⟨b, off, rfl, h4, h5⟩
  · simp at h0
  · exact ⟨b, off, cap, rfl, h1, h2, h4, h5⟩

set_option maxHeartbeats 1000000 in
theorem place_walk {w : World} {v : Value} {xs : List O} (h : Ops w v xs) (n : ByteArray) (s : Int) :
    Calls Try.prog 25 #[v, .string n, .int .i64 s] w fun e w' => e = .returned (.int .i64 (placeB xs (bl n) s)) ∧ Below w.heap.size w w' := by
  by_cases h0 : 0 < xs.length
  · obtain ⟨b, off, c, rfl, h1, h2, h3, hc⟩ := h.shape h0
    clear h
    have eg : ∀ args w, (callFunc 32 args).run Try.prog w = .ok (.enter 32 args) w := enters_of Try.func32 (by kernel_rfl) rfl
    have hcon := AnyQ.slices_IndexFunc Try.indexOp 3 Try.isAgg28 Try.sizeOf28 oCells oCells_len (fun y => isAt (bl n) s y) 32 #[.pointer (some ⟨w.heap.size, 0, none⟩), .pointer (some ⟨w.heap.size + 1, 0, none⟩)] eg b off xs.length c xs
      ((w.alloc (.cells #[.string n] 9)).alloc (.cells #[.int .i64 s] 3))
      (fun W y hb => by
        have c1 : W.cell? ⟨w.heap.size, 0, none⟩ = some (.string n) := (hb.cell (p := ⟨w.heap.size, 0, none⟩) (by simp; omega)).trans (by simp)
        have c2 : W.cell? ⟨w.heap.size + 1, 0, none⟩ = some (.int .i64 s) := (hb.cell (p := ⟨w.heap.size + 1, 0, none⟩) (by simp)).trans (by simp)
        refine (pred_walk n s w.heap.size (w.heap.size + 1) (by omega) W c1 c2 (by have := hb.size; simp at this; omega) (by have := hb.size; simp at this; omega) y).mono ?_
        rintro e w' ⟨rfl, hb'⟩
        exact ⟨rfl, hb.trans (hb'.mono hb.size)⟩)
      (Nat.le_refl _) (by unfold maxLen at h2; omega) (by simp; omega)
      (fun j hj i u hi => by
        have hg : xs[j]? = some xs[j]! := by rw [List.getElem!_eq_getElem?_getD, List.getElem?_eq_getElem hj]; rfl
        have := hc j _ hg i u hi
        rw [← Nat.add_assoc] at this
        exact Lib.cell?_alloc_some _ (Lib.cell?_alloc_some _ this))
    rw [List.take_length] at hcon
    change Calls Try.prog 31 _ _ (fun e w' => e = .returned (.int .i64 (placeB xs (bl n) s)) ∧ _) at hcon
    clear hc
    generalize placeB xs (bl n) s = r at hcon ⊢
    have HC := Lib.hid hcon; clear hcon
    go_enter Try.func25, Try.ntmps25
    (go_wp2_with fail; go_fit (HC.out); rintro e w' ⟨rfl, hb'⟩)
    go_wp2
    go_ret
    exact ⟨rfl, Below.trans ((bel1' _ _).trans ((bel1' _ _).mono (by simp))) (hb'.mono (by simp; omega))⟩
  · obtain rfl : xs = [] := List.length_eq_zero_iff.1 (by omega)
    obtain ⟨a, c, rfl, _⟩ := h.form
    have hE : placeB [] (bl n) s = -1 := rfl
    rw [hE]
    have HC := Lib.hid (fun f w => index_none a c f w)
    clear h hE
    simp only [List.length_nil]
    go_enter Try.func25, Try.ntmps25
    (go_wp2_with fail; go_fit (HC.out _ _); rintro e w' ⟨rfl, rfl⟩)
    go_wp2
    go_ret
    exact ⟨rfl, Below.trans (bel1' _ _) ((bel1' _ _).mono (by simp))⟩
end Go.Proofs.Ythalpdjnclfleaa
