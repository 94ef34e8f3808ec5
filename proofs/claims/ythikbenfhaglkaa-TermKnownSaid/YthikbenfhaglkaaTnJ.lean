/- Package term: List. -/
import Derived.Test.YthikbenfhaglkaaTnI
namespace Go.Proofs.Ythikbenfhaglkaa
open Go.RowKit Go.Shelf
attribute [local go_sem] Oper.semAt_some
set_option linter.unusedVariables false

theorem val_slice {w : World} {t : Tm} {u : Value} (h : TmV w t (pVal (t, u))) : ∃ a c, u = .slice a t.args.length c := by
  cases t with
  | mk k n s ts =>
    obtain ⟨u', hu', _, _, _, hq⟩ := tmV_iff.1 h
    simp only [pVal, Value.agg.injEq] at hu'
    have h2 := congrArg Array.toList hu'
    simp only [List.cons.injEq, and_true] at h2
    obtain ⟨a, c, e, _⟩ := hq.len
    exact ⟨a, c, by rw [h2.2.2.2, e]; rfl⟩
/-- The two boxes are hidden, too. -/
def hid2 (D : Nat → Bool) (B : Nat) : Nat → Bool := fun k => D k || k == B || k == B + 1
theorem plus_low {D : Nat → Bool} {B k : Nat} (hk : k < B) (h : D k = false) : hid2 D B k = false := by
  unfold hid2
  rw [h, beq_false_of_ne (by omega), beq_false_of_ne (by omega)]
  rfl
theorem plus_high {D : Nat → Bool} {B k : Nat} (h : D k = false) (hk : B + 2 ≤ k) : hid2 D B k = false := by
  unfold hid2
  rw [h, beq_false_of_ne (by omega), beq_false_of_ne (by omega)]
  rfl
theorem plus_ne {D : Nat → Bool} {B k : Nat} (h : hid2 D B k = false) : D k = false ∧ k ≠ B ∧ k ≠ B + 1 := by
  unfold hid2 at h
  simp only [Bool.or_eq_false_iff, beq_eq_false_iff_ne] at h
  exact ⟨h.1.1, h.1.2, h.2⟩
/-- Between two rounds: the list so far in its box. -/
structure ListAt (D : Nat → Bool) (w W : World) (T : Tm) (u : Value) : Prop where
  tm : TmV (hide (hid2 D w.heap.size) W) T (pVal (T, u))
  b0 : W.cell? ⟨w.heap.size, 0, none⟩ = some (.int .i64 T.k)
  b1 : W.cell? ⟨w.heap.size, 1, none⟩ = some (.int .i64 T.n)
  b2 : W.cell? ⟨w.heap.size, 2, none⟩ = some (.string T.s)
  b3 : W.cell? ⟨w.heap.size, 3, none⟩ = some u
  fz : ∀ j, W.frozen? ⟨w.heap.size, j, none⟩ = false
  fz1 : ∀ j, W.frozen? ⟨w.heap.size + 1, j, none⟩ = false
  r0 : W.cell? ⟨w.heap.size + 1, 0, none⟩ = some (.int .i64 0)
  r1 : W.cell? ⟨w.heap.size + 1, 1, none⟩ = some (.int .i64 0)
  r2 : W.cell? ⟨w.heap.size + 1, 2, none⟩ = some (.string ⟨#[]⟩)
  r3 : W.cell? ⟨w.heap.size + 1, 3, none⟩ = some (.slice none 0 0)
  bel : Below w.heap.size w W
  big : w.heap.size + 3 ≤ W.heap.size
theorem stays_kept {D : Nat → Bool} {A B : World} {row : Option Nat} (hg : A.grownBy B row) (hr : ∀ r, row = some r → ∃ o : Obj, A.heap[r]? = some o ∧ o.isCells = false) : Stays (hide D A) (hide D B) := by
  refine ⟨by rw [hide_size, hide_size]; exact hg.size, fun a v hv => ?_⟩
  cases hd : D a.block with
  | true => rw [hide_gone D A a hd] at hv; cases hv
  | false =>
    rw [hide_cell D A a hd] at hv
    rw [hide_cell D B a hd]
    exact cell_kept hv hg hr
theorem ListAt.kept {D : Nat → Bool} {w A B : World} {T : Tm} {u : Value} {row : Option Nat} {C : Nat} (h : ListAt D w A T u) (hC : w.heap.size ≤ C) (hg : A.grownBy B row) (hr : ∀ r, row = some r → C ≤ r ∧ ∃ o : Obj, A.heap[r]? = some o ∧ o.isCells = false) : ListAt D w B T u := by
  have hr' := fun r e => (hr r e).2
  have zf : ∀ {b j v}, A.cell? ⟨b, 0, none⟩ = some v → B.frozen? ⟨b, j, none⟩ = A.frozen? ⟨b, j, none⟩ := fun {b j v} hv => by
    obtain ⟨o, ho, hc⟩ := cells_of_cell hv
    exact World.frozen?_of_block (grownBy_keeps_cells hg hr' ho hc)
  exact { tm := TmV.stay (stays_kept hg hr') _ _ h.tm, b0 := cell_kept h.b0 hg hr', b1 := cell_kept h.b1 hg hr', b2 := cell_kept h.b2 hg hr', b3 := cell_kept h.b3 hg hr', fz := fun j => (zf h.b0).trans (h.fz j), fz1 := fun j => (zf h.r0).trans (h.fz1 j), r0 := cell_kept h.r0 hg hr', r1 := cell_kept h.r1 hg hr', r2 := cell_kept h.r2 hg hr', r3 := cell_kept h.r3 hg hr', bel := h.bel.grown hg (by have := h.bel.size; omega) (fun k e => by have := (hr k e).1; omega), big := Nat.le_trans h.big hg.size }
theorem ListAt.box {D : Nat → Bool} {w W w4 : World} {T : Tm} {u : Value} {o : Obj} (h : ListAt D w W T u) (hb : Below (W.alloc o).heap.size (W.alloc o) w4) :
    w4.cell? ⟨w.heap.size, 0, none⟩ = some (.int .i64 T.k) ∧ w4.cell? ⟨w.heap.size, 1, none⟩ = some (.int .i64 T.n) ∧ w4.cell? ⟨w.heap.size, 2, none⟩ = some (.string T.s) ∧ w4.cell? ⟨w.heap.size, 3, none⟩ = some u ∧ ∀ j, w4.frozen? ⟨w.heap.size, j, none⟩ = false := by
  have hbig := h.big
  have k0 := (Ext.trans' (bel1' W o) hb).block w.heap.size (by omega)
  exact ⟨(World.cell?_of_block (a := ⟨w.heap.size, 0, none⟩) k0).trans h.b0, (World.cell?_of_block (a := ⟨w.heap.size, 1, none⟩) k0).trans h.b1, (World.cell?_of_block (a := ⟨w.heap.size, 2, none⟩) k0).trans h.b2, (World.cell?_of_block (a := ⟨w.heap.size, 3, none⟩) k0).trans h.b3,
    fun j => by rw [World.frozen?_of_block k0]; exact h.fz j⟩
theorem set_kept {w4 : World} {B : Nat} (v0 v1 v2 v3 : Value) (k : Nat) (hk : k ≠ B) : (setFour w4 B v0 v1 v2 v3).heap[k]? = w4.heap[k]? := by
  unfold setFour
  rw [Below.heap_setCell _ _ _ _ hk, Below.heap_setCell _ _ _ _ hk, Below.heap_setCell _ _ _ _ hk, Below.heap_setCell _ _ _ _ hk]
theorem set_size (w4 : World) (B : Nat) (v0 v1 v2 v3 : Value) : (setFour w4 B v0 v1 v2 v3).heap.size = w4.heap.size := by
  unfold setFour
  simp [World.setCell]
/-- A round's making. -/
theorem ListAt.next {D : Nat → Bool} {w W w4 : World} {T t : Tm} {u ut : Value} {a : Option Addr} {c' : Nat} {o : Obj} (ho : Old D w) (h : ListAt D w W T u) (ht : TmV (hide D w) t (pVal (t, ut)))
    (hR : RowP w4 ((W.alloc o).heap.size + 1) 25 (.slice a 2 c') [(t, ut), (T, u)]) (hb : Below (W.alloc o).heap.size (W.alloc o) w4) :
    ListAt D w (setFour w4 w.heap.size (.int .i64 2) (.int .i64 0) (.string ⟨#[46]⟩) (.slice a 2 c')) (consT t T) (.slice a 2 c') ∧ KeepsOthers W (setFour w4 w.heap.size (.int .i64 2) (.int .i64 0) (.string ⟨#[46]⟩) (.slice a 2 c')) := by
  have hbig := h.big
  have hwW := h.bel
  have hW4 : Below W.heap.size W w4 := Ext.trans' (bel1' W o) hb
  have hw4 : Below w.heap.size w w4 := hwW.trans (hW4.mono hwW.size)
  have hF := four_below (.int .i64 2) (.int .i64 0) (.string ⟨#[46]⟩) (.slice a 2 c') hw4 (Nat.le_refl w.heap.size)
  have kb : ∀ k, k < W.heap.size → w4.heap[k]? = W.heap[k]? := fun k hk => hW4.block k hk
  have c0 := (World.cell?_of_block (a := ⟨w.heap.size, 0, none⟩) (kb w.heap.size (by omega))).trans h.b0
  have c1 := (World.cell?_of_block (a := ⟨w.heap.size, 1, none⟩) (kb w.heap.size (by omega))).trans h.b1
  have c2 := (World.cell?_of_block (a := ⟨w.heap.size, 2, none⟩) (kb w.heap.size (by omega))).trans h.b2
  have c3 := (World.cell?_of_block (a := ⟨w.heap.size, 3, none⟩) (kb w.heap.size (by omega))).trans h.b3
  obtain ⟨d0, d1, d2, d3⟩ := four_cells (.int .i64 2) (.int .i64 0) (.string ⟨#[46]⟩) (.slice a 2 c') c0 c1 c2 c3
  have far := fun j => four_far w4 w.heap.size (.int .i64 2) (.int .i64 0) (.string ⟨#[46]⟩) (.slice a 2 c') (w.heap.size + 1) j (by omega)
  have fr : ∀ b j, (setFour w4 w.heap.size (.int .i64 2) (.int .i64 0) (.string ⟨#[46]⟩) (.slice a 2 c')).frozen? ⟨b, j, none⟩ = w4.frozen? ⟨b, j, none⟩ := fun b j => by
    unfold setFour
    rw [World.frozen?_setCell, World.frozen?_setCell, World.frozen?_setCell, World.frozen?_setCell]
  have k1 := kb (w.heap.size + 1) (by omega)
  have fh : ∀ k, k ≠ w.heap.size → (setFour w4 w.heap.size (.int .i64 2) (.int .i64 0) (.string ⟨#[46]⟩) (.slice a 2 c')).heap[k]? = w4.heap[k]? := fun k hk => by
    unfold setFour
    rw [Below.heap_setCell _ _ _ _ hk, Below.heap_setCell _ _ _ _ hk, Below.heap_setCell _ _ _ _ hk, Below.heap_setCell _ _ _ _ hk]
  have hsz : (setFour w4 w.heap.size (.int .i64 2) (.int .i64 0) (.string ⟨#[46]⟩) (.slice a 2 c')).heap.size = w4.heap.size := by
    unfold setFour
    simp [World.setCell]
  refine ⟨{ tm := ?_, b0 := d0, b1 := d1, b2 := d2, b3 := d3, fz := fun j => by rw [fr, World.frozen?_of_block (kb w.heap.size (by omega))]; exact h.fz j, fz1 := fun j => by rw [fr, World.frozen?_of_block k1]; exact h.fz1 j, r0 := by rw [far, World.cell?_of_block k1]; exact h.r0, r1 := by rw [far, World.cell?_of_block k1]; exact h.r1, r2 := by rw [far, World.cell?_of_block k1]; exact h.r2, r3 := by rw [far, World.cell?_of_block k1]; exact h.r3, bel := hF, big := by rw [hsz]; have := hW4.size; omega }, ?_⟩
  · have hR2 : RowP (setFour w4 w.heap.size (.int .i64 2) (.int .i64 0) (.string ⟨#[46]⟩) (.slice a 2 c')) ((W.alloc o).heap.size + 1) 25 (.slice a 2 c') [(t, ut), (T, u)] := four_row _ _ _ _ hR (by simp; omega)
    have hT := (hR2.hide (D := hid2 D w.heap.size) (fun k hk _ => plus_high (ho k (by simp at hk; omega)) (by simp at hk; omega))).terms (fun p hp => by
      simp at hp
      rcases hp with rfl | rfl
      · exact TmV.stay (Stays.below hF fun k hk hd => plus_low hk hd) _ _ ht
      · refine TmV.stay (Stays.hide (by rw [hsz]; exact hW4.size) fun k hk hd => ⟨hd, ?_⟩) _ _ h.tm
        rw [fh k (plus_ne hd).2.1]
        exact kb k hk) (by unfold BIG; simp)
    exact tmV_iff.2 ⟨_, rfl, by unfold BIG; decide, i64_2, i64_0, hT⟩
  · refine ⟨by rw [hsz]; exact hW4.size, fun k o' hk ho' => ?_⟩
    have hne : k ≠ w.heap.size := fun e => by
      obtain ⟨o2, ho2, hc2⟩ := cells_of_cell h.b0
      rw [e] at hk
      have : o2 = o' := Option.some.inj (ho2.symm.trans hk)
      rw [this, ho'] at hc2
      cases hc2
    rw [fh k hne, kb k (Array.getElem?_eq_some_iff.1 hk).1]
    exact hk
end Go.Proofs.Ythikbenfhaglkaa
