/- slices.Reverse of a block of the call's own. -/
import Derived.Test.YtmdilndaipiajaaSuI
import Derived.Test.YtmdilndaipiajaaSuS
namespace Go.Proofs.Ytmdilndaipiajaa
open Go.RowKit

theorem setCells_below {B : Nat} {a : World} (b : Nat) (hb : B ≤ b) : ∀ (vs : List Value) (o : Nat) {w : World}, Below B a w → Below B a (w.setCells b o vs)
  | [], _, _, h => h
  | v :: r, o, _, h => setCells_below b hb r (o + 1) (h.setCell (p := ⟨b, o, none⟩) hb v)
theorem reversed_cells {w : World} {g e : Nat} {cs : List Value} {fz : Nat × Nat} (hb : w.heap[g]? = some (.cells cs.toArray e fz)) (q : Nat) (j : Nat) (u : Value) (hu : cs.reverse[j]? = some u) : ((w.drewN q).setCells g 0 cs.reverse).cell? ⟨g, j, none⟩ = some u := by
  obtain ⟨hj, rfl⟩ := List.getElem?_eq_some_iff.1 hu
  have h := World.cell?_setCells_in g cs.reverse 0 (w.drewN q) (fun i hi => by
    rw [blk_cell (w := w.drewN q) (show (w.drewN q).heap[g]? = _ from hb)]
    simp at hi
    simp [hi]) j hj
  rw [Nat.zero_add] at h
  exact h

theorem revI (B g m : Nat) (ys : List Int) (w : World) (hblk : w.heap[g]? = some (.cells (ys.map (Value.int .i64)).toArray 3 (0, 0))) (hB : B ≤ g) (hm : ys.length = m) (hl : m ≤ 65536) :
    Calls Try.prog 28 #[.slice (some ⟨g, 0, none⟩) m m] w fun e w' => e = .returned (.tuple #[]) ∧ Below B w w' ∧ ∀ j u, (ys.map (Value.int .i64)).reverse[j]? = some u → w'.cell? ⟨g, j, none⟩ = some u := by
  refine (Try.slices_Reverse_int_cells g 0 m m ys w (by omega) (by omega) (fun j hj => ?_) (fun j _ => by rw [Nat.zero_add]; exact blk_froz hblk j)).mono ?_
  · rw [Nat.zero_add, blk_cell hblk]
    simp [hj]
  · rintro e w' ⟨rfl, q, rfl⟩
    rw [List.take_of_length_le (by omega), ← List.map_reverse]
    refine ⟨rfl, setCells_below g hB _ 0 (belN (Below.refl _ _) q), fun j u hu => ?_⟩
    rw [List.map_reverse]
    rw [List.map_reverse] at hu
    exact reversed_cells hblk q j u hu

theorem revS (B g m : Nat) (ys : List ByteArray) (w : World) (hblk : w.heap[g]? = some (.cells (ys.map Value.string).toArray 9 (0, 0))) (hB : B ≤ g) (hm : ys.length = m) (hl : m ≤ 65536) :
    Calls Try.prog 25 #[.slice (some ⟨g, 0, none⟩) m m] w fun e w' => e = .returned (.tuple #[]) ∧ Below B w w' ∧ ∀ j u, (ys.map Value.string).reverse[j]? = some u → w'.cell? ⟨g, j, none⟩ = some u := by
  refine (Try.slices_Reverse_string_cells g 0 m m (fun i => (ys[i]?).getD ⟨#[]⟩) w (by omega) (fun j hj => ?_) (fun j _ => by rw [Nat.zero_add]; exact blk_froz hblk j)).mono ?_
  · rw [Nat.zero_add, blk_cell hblk]
    simp [show j < ys.length by omega]
  · rintro e w' ⟨rfl, q, rfl⟩
    have he : (Lib.strsOf (fun i => (ys[i]?).getD ⟨#[]⟩) m).reverse.map encStr = (ys.map Value.string).reverse := by
      rw [List.map_reverse]
      congr 1
      apply List.ext_getElem
      · simp [Lib.strsOf, hm]
      · intro i h1 h2
        simp at h2
        simp [Lib.strsOf, h2]
    rw [he]
    exact ⟨rfl, setCells_below g hB _ 0 (belN (Below.refl _ _) q), fun j u hu => reversed_cells hblk q j u hu⟩
end Go.Proofs.Ytmdilndaipiajaa
