/- Tables of strings: All, New. -/
import Derived.Test.YtjpdigdocdppbaaTabP
import Derived.Deep.OwnRows
namespace Go.Proofs.Ytjpdigdocdppbaa
open Go.RowKit Go.Maps Go.WideMaps

theorem all_any {F : List Nat} {w : World} {p : Value} {R : Nat} {ks : List ByteArray} (h : STab F w p R ks) :
    Calls Try.prog 16 #[p] w fun e w' => e = .returned (.slice (some ⟨w.heap.size, 0, none⟩) ks.length ks.length) ∧ Below w.heap.size w w' ∧ w.heap.size < w'.heap.size ∧
      ∀ (i : Nat) (x : ByteArray), ks[i]? = some x → w'.cell? ⟨w.heap.size, i, none⟩ = some (.string x) := by
  have hroom := h.room
  obtain ⟨bt, bm, v, D, rfl, hne, h1, h2, rfl, hbt, hr, hm, hN, hR⟩ := h
  have c1 : w.cell? ⟨bt, 1, none⟩ = some v := by simp [blk_cell hbt]
  obtain ⟨i0, hi, hz0, hz1, hz2⟩ := info_parts sInfo
  obtain ⟨a, c, rfl, hc, hcell⟩ := stab_cells hr
  have c1' : ∀ o, (w.alloc o).cell? ⟨bt, 1, none⟩ = some (.slice a ks.length c) := fun o => Lib.cell?_alloc_some _ c1
  have HC := Lib.hid (show ∀ o, 0 < (ks.map Value.string).length → ∃ ad, a = some ad ∧ ∀ j u, (ks.map Value.string)[j]? = some u → (w.alloc o).cell? (ad.add j) = some u from fun o h0 => by
    rcases hcell with ⟨_, rfl⟩ | ⟨g, rfl, hg, hx⟩
    · simp at h0
    · refine ⟨_, rfl, fun j u hu => ?_⟩
      rw [List.getElem?_map, Option.map_eq_some_iff] at hu
      obtain ⟨x, hx1, rfl⟩ := hu
      have e : (⟨g, 0, none⟩ : Addr).add j = ⟨g, j, none⟩ := by unfold Addr.add; split <;> simp_all
      rw [e]
      exact Lib.cell?_alloc_some _ (hx j x hx1))
  clear hm hbt hN hr h1 h2 hcell
  go_enter Try.func16, Try.ntmps16
  go_wp2_with (first
    | (at_make; refine wpList_make_row _ rfl _ _ 34 rfl 9 i0 (.string ⟨#[]⟩) Try.underlying34 hi hz0 hz1 rfl .i64 .i64 ks.length rfl rfl (by rw [hz2]; omega) (by omega) ?_)
    | (refine wpList_copy_splice rfl _ _ 34 34 rfl 9 Try.underlying34 (by rw [hi]; simp [hz1]) _ _ _ _ _ _ rfl rfl w.heap.size 0 (madeCells #[Value.string ⟨#[]⟩] ks.length).toList 9 (by rw [Array.toArray_toList]; exact heap_alloc_new w _) (ks.map Value.string) (by simp) (fun h0 => ⟨rfl, HC.out _ h0⟩) (by simp [madeCells]) (by simp [Value.oneCell']) w.heap.size w ((Below.refl _ _).alloc (Nat.le_refl _) _) (Nat.le_refl _) ?_; intro w3 HG3 HB3)
    | go_in)
  go_ret
  refine ⟨rfl, HB3, ?_, fun i x hx => ?_⟩
  · exact (Array.getElem?_eq_some_iff.1 HG3.out).1
  · obtain ⟨hi, hxe⟩ := List.getElem?_eq_some_iff.1 hx
    have e := HG3.out
    simp only [splice, List.take_zero, List.nil_append] at e
    rw [blk_cell e]
    simp [List.getElem?_append_left, hi, hxe]

theorem new_done (w : World) {R : Nat} {x : Int} (hx : x = R) (hR : 1 ≤ R ∧ R ≤ 65536) :
    STab [w.heap.size + 1, w.heap.size] ((w.alloc (.map #[] 0)).alloc (.cells #[.int .i64 x, .slice none 0 0, .map (some w.heap.size)] 50)) (.pointer (some ⟨w.heap.size + 1, 0, none⟩)) R [] ∧
      Below w.heap.size w ((w.alloc (.map #[] 0)).alloc (.cells #[.int .i64 x, .slice none 0 0, .map (some w.heap.size)] 50)) ∧ ∀ k ∈ [w.heap.size + 1, w.heap.size], w.heap.size ≤ k := by
  subst hx
  refine ⟨⟨w.heap.size + 1, w.heap.size, .slice none 0 0, .map [], rfl, by omega, by simp [Value.ownBlock], by simp [Value.ownBlock], rfl, ?_, World.ownsRow_nil _ _ _ _, ?_, Numbers.nil _ _, hR.1, hR.2, by simp⟩, ?_, by simp⟩
  · have := heap_alloc_new (w.alloc (.map #[] 0)) (.cells #[.int .i64 (R : Int), .slice none 0 0, .map (some w.heap.size)] 50)
    simpa using this
  · exact (World.ownsMap_made w _ _ _).alloc _
  · exact ((Below.refl _ _).alloc (Nat.le_refl _) _).alloc (by simp) _
theorem new_any (m : Int) (R : Nat) (hR : (R : Int) = max 1 (min m 65536)) (w : World) :
    Calls Try.prog 10 #[.int .i64 m] w fun e w' => ∃ p, e = .returned p ∧ ∃ F, STab F w' p R [] ∧ Below w.heap.size w w' ∧ ∀ k ∈ F, w.heap.size ≤ k := by
  have hmm := @run_makeMap Try.prog
  go_enter Try.func10, Try.ntmps10
  go_wp2
  all_goals go_ret
  · exact ⟨_, rfl, _, new_done (R := R) w (by omega) (by omega)⟩
  · exact ⟨_, rfl, _, new_done (R := R) w (by omega) (by omega)⟩
  · exact ⟨_, rfl, _, new_done (R := R) w (by omega) (by omega)⟩
end Go.Proofs.Ytjpdigdocdppbaa
