/- sizarlaw4's own: ints, awake. -/
import Derived.Test.YtmdilndaipiajaaSwI
import Derived.Test.YtmdilndaipiajaaSwS
import Derived.LoopTactic
import Derived.Lib.Strings
namespace Go.Proofs.Ytmdilndaipiajaa
open Go.RowKit

/-- The slice at a holds these numbers. -/
def ICells (w : World) (a : Option Addr) (zs : List Int) : Prop := zs = [] ∨ ∃ b off, a = some ⟨b, off, none⟩ ∧ ∀ (i : Nat) (x : Int), zs[i]? = some x → w.cell? ⟨b, off + i, none⟩ = some (.int .i64 x)
theorem ICells.ext {w w' : World} {a : Option Addr} {zs : List Int} (h : ICells w a zs) (hb : Below w.heap.size w w') : ICells w' a zs := by
  rcases h with h | ⟨b, off, e, hc⟩
  · exact Or.inl h
  · exact Or.inr ⟨b, off, e, fun i x hx => cell_later hb (hc i x hx)⟩
theorem icells_new {w : World} {g : Nat} {zs : List Int} (hc : ∀ (j : Nat) (u : Value), (zs.map (Value.int .i64))[j]? = some u → w.cell? ⟨g, j, none⟩ = some u) : ICells w (some ⟨g, 0, none⟩) zs :=
  Or.inr ⟨g, 0, rfl, fun i x hx => by rw [Nat.zero_add]; exact hc i _ (by rw [List.getElem?_map, hx]; rfl)⟩
theorem icells_laid (w : World) (zs : List Int) (e : TypeId) : ICells (w.alloc (.cells (zs.map (Value.int .i64)).toArray e)) (some ⟨w.heap.size, 0, none⟩) zs :=
  icells_new (fun j u hu => by rw [blk_cell (heap_alloc_new w _)]; simpa using hu)
theorem src_new (w : World) (cs : List Value) (e : TypeId) : ∀ (j : Nat) (u : Value), cs[j]? = some u → (w.alloc (.cells cs.toArray e)).cell? ((⟨w.heap.size, 0, none⟩ : Addr).add j) = some u := fun j u hu => by
  rw [add_plain, Nat.zero_add, blk_cell (heap_alloc_new w _)]
  simpa using hu

theorem ints_eq {w : World} {zs : List Int} {a1 a2 : Option Addr} (c1 c2 : Nat) (h1 : ICells w a1 zs) (h2 : ICells w a2 zs) (hl : zs.length ≤ 70000) :
    Calls Try.prog 21 #[.slice a1 zs.length c1, .slice a2 zs.length c2] w fun e w' => e = .returned (.bool true) ∧ Below w.heap.size w w' := by
  have H1 := Lib.hid h1
  have H2 := Lib.hid h2
  clear h1 h2
  go_enter Try.func21, Try.ntmps21
  go_wp2_with fail
  go_loopw [5] (fun i wr => ∃ k : Nat, k ≤ zs.length ∧ i = .int .i64 k ∧ Hid (Below w.heap.size w wr)) (fun i _ => zs.length - (intOf i).toNat)
  case atStart => exact ⟨0, by omega, rfl, Lib.hid (Below.refl _ _)⟩
  case round =>
    obtain ⟨k, hk, rfl, HB⟩ := hrel
    by_cases hlt : k < zs.length
    · obtain ⟨x, hx⟩ : ∃ x, zs[k]? = some x := ⟨_, List.getElem?_eq_getElem hlt⟩
      obtain ⟨b1, o1, rfl, d1⟩ : ∃ b off, a1 = some ⟨b, off, none⟩ ∧ wr.cell? ⟨b, off + k, none⟩ = some (.int .i64 x) := by
        rcases H1.out.ext HB.out with rfl | ⟨b, off, e, hc⟩
        · simp at hlt
        · exact ⟨b, off, e, hc k x hx⟩
      obtain ⟨b2, o2, rfl, d2⟩ : ∃ b off, a2 = some ⟨b, off, none⟩ ∧ wr.cell? ⟨b, off + k, none⟩ = some (.int .i64 x) := by
        rcases H2.out.ext HB.out with rfl | ⟨b, off, e, hc⟩
        · simp at hlt
        · exact ⟨b, off, e, hc k x hx⟩
      have hkk : (k : Int) < zs.length := by omega
      clear hx
      go_wp2_with fail
      go_quiet (fail)
      go_wp2
      go_roundw
      case rel => exact ⟨k + 1, by omega, by go_num, Lib.hid (belN HB.out _)⟩
      case measure => simp [intOf]; omega
    · go_wp2
      go_ret
      exact ⟨rfl, HB.out⟩

set_option maxHeartbeats 400000 in
theorem awake_any (w : World) : Calls Try.prog 7 #[] w fun e w' => e = .returned (.bool true) ∧ Below w.heap.size w w' := by
  go_enter Try.func7, Try.ntmps7
  (go_wp2_with fail; go_fit (new_inI (W := w) (Below.refl _ _) 9 9 (by decide) [] (by simp)); rintro e w1 ⟨bt, rfl, h1, _⟩)
  have h1' := h1.same ((Below.refl _ _).alloc (Nat.le_refl _) (.cells #[.int .i64 1, .int .i64 2, .int .i64 3] 3))
  have H1 := Lib.hid h1'
  clear h1 h1'
  (go_wp2_with fail; go_fit (push_fitsI H1.out (some ⟨w1.heap.size, 0, none⟩) 3 3 ([1, 2, 3].map (Value.int .i64)) rfl (Or.inr ⟨_, rfl, src_new w1 _ _⟩) (by simp [Value.oneCell']) (by simp)); rintro e w2 ⟨rfl, h2, _⟩)
  have H2 := Lib.hid h2
  clear h2
  (go_wp2_with fail; go_fit (undo_hitI (zs := [1, 2, 3]) H2.out 1 2 rfl); rintro e w3 ⟨rfl, h3, _, hc⟩)
  have H3 := Lib.hid h3
  have HC := Lib.hid (icells_new (zs := [3, 2]) hc)
  clear h3 hc
  (go_wp2_with fail; go_fit (ints_eq (w := w3.alloc (.cells #[.int .i64 3, .int .i64 2] 3)) (zs := [3, 2]) 2 2 (HC.out.ext ((Below.refl _ _).alloc (Nat.le_refl _) _)) (icells_laid w3 [3, 2] _) (by simp)); rintro e w4 ⟨rfl, h4⟩)
  have H4 := Lib.hid ((H3.out.same ((Below.refl _ _).alloc (Nat.le_refl _) _)).same h4)
  clear h4
  (go_wp2_with fail; go_fit (mark_inI H4.out); rintro e w' ⟨rfl, rfl⟩)
  (go_wp2_with fail; go_fit (all_inI H4.out); rintro e w5 ⟨rfl, h5, _, hc⟩)
  have H5 := Lib.hid h5
  have HC5 := Lib.hid (icells_new (zs := [1]) hc)
  clear h5 hc
  (go_wp2_with fail; go_fit (ints_eq (w := w5.alloc (.cells #[.int .i64 1] 3)) (zs := [1]) 1 1 (HC5.out.ext ((Below.refl _ _).alloc (Nat.le_refl _) _)) (icells_laid w5 [1] _) (by simp)); rintro e w6 ⟨rfl, h6⟩)
  have H6 := Lib.hid ((H5.out.same ((Below.refl _ _).alloc (Nat.le_refl _) _)).same h6)
  clear h6
  go_wp2
  go_ret
  exact ⟨rfl, H6.out.below⟩
end Go.Proofs.Ytmdilndaipiajaa
