import Derived.Test.YtaojalicnnnkmaaGreatDoorHgaac
import Derived.Shelf.Small.Strs
import Derived.Shelf.Strconv.Itoa0
import Derived.Shelf.Strconv.ParseIntEmpty
import Derived.Shelf.LaysM
import Derived.Shelf.Strconv.Clone
import Derived.Shelf.Strconv.SyntaxError
import Derived.Shelf.LaysC
import Derived.Shelf.Strconv.ToError
import Derived.Shelf.Strconv.Lower
import Derived.Shelf.Strconv.ParseUint10
import Derived.Shelf.Strconv.ParseUint10Empty
import Derived.Shelf.Strconv.ParseUint10Any
import Derived.Shelf.Strconv.ParseInt10
import Derived.Shelf.Strconv.RangeError
import Derived.Shelf.Strconv.ToErrorRange
import Derived.Shelf.Strconv.ParseUintEmpty
import Derived.Shelf.Strconv.ParseUint10b64
import Derived.Shelf.Strconv.ParseUint10b32
import Derived.Shelf.Strconv.ParseUint10b16
import Derived.Shelf.Strconv.ParseUint10b8
import Derived.Shelf.Strconv.ParseUint10At
import Derived.Shelf.Strconv.ParseInt10At64
import Derived.Shelf.Strconv.ParseInt10At32
import Derived.Shelf.Strconv.ParseInt10At16
import Derived.Shelf.Strconv.ParseInt10At8
import Derived.Shelf.Strconv.ParseInt10All
import Derived.Shelf.Strconv.ParseIntPublic10
import Derived.Shelf.Strconv.ErrVarParseInt
import Derived.Shelf.Strings.Search1
import Derived.Shelf.Strings.Prefix
import Derived.Test.YtaojalicnnnkmaaGreatDoorProg
import Derived.Test.YtaojalicnnnkmaaGreatDoorHgaaa
import Derived.Test.YtaojalicnnnkmaaGreatDoorRows
set_option linter.unusedVariables false
set_option linter.unusedSimpArgs false
/- Package term: List. -/
namespace Go.Proofs.YtaojalicnnnkmaaGreatDoor
open Go.RowKit Go.Shelf
attribute [local go_sem] Oper.semAt_some
set_option linter.unusedVariables false

theorem val_slice {w : World} {t : Tm} {u : Value} (h : TmV w t (pVal (t, u))) : ∃ a c, u = .slice a t.args.length c := by
  cases t with
  | mk k n s ts =>
    obtain ⟨u', hu', _, _, _, hq⟩ := tmV_iff.1 h
    simp only [pVal, Value.agg.injEq] at hu'
    have h2 := congrArg Array.toList hu'
    simp only [List.cons.injEq, and_true] at h2
    obtain ⟨a, c, e, _⟩ := hq.len
    exact ⟨a, c, by rw [h2.2.2.2, e]; rfl⟩
/-- The two boxes are hidden, too. -/
def hid2 (D : Nat → Bool) (B : Nat) : Nat → Bool := fun k => D k || k == B || k == B + 1
theorem plus_low {D : Nat → Bool} {B k : Nat} (hk : k < B) (h : D k = false) : hid2 D B k = false := by
  unfold hid2
  rw [h, beq_false_of_ne (by omega), beq_false_of_ne (by omega)]
  rfl
theorem plus_high {D : Nat → Bool} {B k : Nat} (h : D k = false) (hk : B + 2 ≤ k) : hid2 D B k = false := by
  unfold hid2
  rw [h, beq_false_of_ne (by omega), beq_false_of_ne (by omega)]
  rfl
theorem plus_ne {D : Nat → Bool} {B k : Nat} (h : hid2 D B k = false) : D k = false ∧ k ≠ B ∧ k ≠ B + 1 := by
  unfold hid2 at h
  simp only [Bool.or_eq_false_iff, beq_eq_false_iff_ne] at h
  exact ⟨h.1.1, h.1.2, h.2⟩
/-- Between two rounds: the list so far in its box. -/
structure ListAt (D : Nat → Bool) (w W : World) (T : Tm) (u : Value) : Prop where
  tm : TmV (hide (hid2 D w.heap.size) W) T (pVal (T, u))
  b0 : W.cell? ⟨w.heap.size, 0, none⟩ = some (.int .i64 T.k)
  b1 : W.cell? ⟨w.heap.size, 1, none⟩ = some (.int .i64 T.n)
  b2 : W.cell? ⟨w.heap.size, 2, none⟩ = some (.string T.s)
  b3 : W.cell? ⟨w.heap.size, 3, none⟩ = some u
  fz : ∀ j, W.frozen? ⟨w.heap.size, j, none⟩ = false
  fz1 : ∀ j, W.frozen? ⟨w.heap.size + 1, j, none⟩ = false
  r0 : W.cell? ⟨w.heap.size + 1, 0, none⟩ = some (.int .i64 0)
  r1 : W.cell? ⟨w.heap.size + 1, 1, none⟩ = some (.int .i64 0)
  r2 : W.cell? ⟨w.heap.size + 1, 2, none⟩ = some (.string ⟨#[]⟩)
  r3 : W.cell? ⟨w.heap.size + 1, 3, none⟩ = some (.slice none 0 0)
  bel : Below w.heap.size w W
  big : w.heap.size + 3 ≤ W.heap.size
theorem stays_kept {D : Nat → Bool} {A B : World} {row : Option Nat} (hg : A.grownBy B row) (hr : ∀ r, row = some r → ∃ o : Obj, A.heap[r]? = some o ∧ o.isCells = false) : Stays (hide D A) (hide D B) := by
  refine ⟨by rw [hide_size, hide_size]; exact hg.size, fun a v hv => ?_⟩
  cases hd : D a.block with
  | true => rw [hide_gone D A a hd] at hv; cases hv
  | false =>
    rw [hide_cell D A a hd] at hv
    rw [hide_cell D B a hd]
    exact cell_kept hv hg hr
theorem ListAt.kept {D : Nat → Bool} {w A B : World} {T : Tm} {u : Value} {row : Option Nat} {C : Nat} (h : ListAt D w A T u) (hC : w.heap.size ≤ C) (hg : A.grownBy B row) (hr : ∀ r, row = some r → C ≤ r ∧ ∃ o : Obj, A.heap[r]? = some o ∧ o.isCells = false) : ListAt D w B T u := by
  have hr' := fun r e => (hr r e).2
  have zf : ∀ {b j v}, A.cell? ⟨b, 0, none⟩ = some v → B.frozen? ⟨b, j, none⟩ = A.frozen? ⟨b, j, none⟩ := fun {b j v} hv => by
    obtain ⟨o, ho, hc⟩ := cells_of_cell hv
    exact World.frozen?_of_block (grownBy_keeps_cells hg hr' ho hc)
  exact { tm := TmV.stay (stays_kept hg hr') _ _ h.tm, b0 := cell_kept h.b0 hg hr', b1 := cell_kept h.b1 hg hr', b2 := cell_kept h.b2 hg hr', b3 := cell_kept h.b3 hg hr', fz := fun j => (zf h.b0).trans (h.fz j), fz1 := fun j => (zf h.r0).trans (h.fz1 j), r0 := cell_kept h.r0 hg hr', r1 := cell_kept h.r1 hg hr', r2 := cell_kept h.r2 hg hr', r3 := cell_kept h.r3 hg hr', bel := h.bel.grown hg (by have := h.bel.size; omega) (fun k e => by have := (hr k e).1; omega), big := Nat.le_trans h.big hg.size }
theorem ListAt.box {D : Nat → Bool} {w W w4 : World} {T : Tm} {u : Value} {o : Obj} (h : ListAt D w W T u) (hb : Below (W.alloc o).heap.size (W.alloc o) w4) :
    w4.cell? ⟨w.heap.size, 0, none⟩ = some (.int .i64 T.k) ∧ w4.cell? ⟨w.heap.size, 1, none⟩ = some (.int .i64 T.n) ∧ w4.cell? ⟨w.heap.size, 2, none⟩ = some (.string T.s) ∧ w4.cell? ⟨w.heap.size, 3, none⟩ = some u ∧ ∀ j, w4.frozen? ⟨w.heap.size, j, none⟩ = false := by
  have hbig := h.big
  have k0 := (Ext.trans' (bel1' W o) hb).block w.heap.size (by omega)
  exact ⟨(World.cell?_of_block (a := ⟨w.heap.size, 0, none⟩) k0).trans h.b0, (World.cell?_of_block (a := ⟨w.heap.size, 1, none⟩) k0).trans h.b1, (World.cell?_of_block (a := ⟨w.heap.size, 2, none⟩) k0).trans h.b2, (World.cell?_of_block (a := ⟨w.heap.size, 3, none⟩) k0).trans h.b3,
    fun j => by rw [World.frozen?_of_block k0]; exact h.fz j⟩
theorem set_kept {w4 : World} {B : Nat} (v0 v1 v2 v3 : Value) (k : Nat) (hk : k ≠ B) : (setFour w4 B v0 v1 v2 v3).heap[k]? = w4.heap[k]? := by
  unfold setFour
  rw [Below.heap_setCell _ _ _ _ hk, Below.heap_setCell _ _ _ _ hk, Below.heap_setCell _ _ _ _ hk, Below.heap_setCell _ _ _ _ hk]
theorem set_size (w4 : World) (B : Nat) (v0 v1 v2 v3 : Value) : (setFour w4 B v0 v1 v2 v3).heap.size = w4.heap.size := by
  unfold setFour
  simp [World.setCell]
/-- A round's making. -/
theorem ListAt.next {D : Nat → Bool} {w W w4 : World} {T t : Tm} {u ut : Value} {a : Option Addr} {c' : Nat} {o : Obj} (ho : Old D w) (h : ListAt D w W T u) (ht : TmV (hide D w) t (pVal (t, ut)))
    (hR : RowP w4 ((W.alloc o).heap.size + 1) 31 (.slice a 2 c') [(t, ut), (T, u)]) (hb : Below (W.alloc o).heap.size (W.alloc o) w4) :
    ListAt D w (setFour w4 w.heap.size (.int .i64 2) (.int .i64 0) (.string ⟨#[46]⟩) (.slice a 2 c')) (consT t T) (.slice a 2 c') ∧ KeepsOthers W (setFour w4 w.heap.size (.int .i64 2) (.int .i64 0) (.string ⟨#[46]⟩) (.slice a 2 c')) := by
  have hbig := h.big
  have hwW := h.bel
  have hW4 : Below W.heap.size W w4 := Ext.trans' (bel1' W o) hb
  have hw4 : Below w.heap.size w w4 := hwW.trans (hW4.mono hwW.size)
  have hF := four_below (.int .i64 2) (.int .i64 0) (.string ⟨#[46]⟩) (.slice a 2 c') hw4 (Nat.le_refl w.heap.size)
  have kb : ∀ k, k < W.heap.size → w4.heap[k]? = W.heap[k]? := fun k hk => hW4.block k hk
  have c0 := (World.cell?_of_block (a := ⟨w.heap.size, 0, none⟩) (kb w.heap.size (by omega))).trans h.b0
  have c1 := (World.cell?_of_block (a := ⟨w.heap.size, 1, none⟩) (kb w.heap.size (by omega))).trans h.b1
  have c2 := (World.cell?_of_block (a := ⟨w.heap.size, 2, none⟩) (kb w.heap.size (by omega))).trans h.b2
  have c3 := (World.cell?_of_block (a := ⟨w.heap.size, 3, none⟩) (kb w.heap.size (by omega))).trans h.b3
  obtain ⟨d0, d1, d2, d3⟩ := four_cells (.int .i64 2) (.int .i64 0) (.string ⟨#[46]⟩) (.slice a 2 c') c0 c1 c2 c3
  have far := fun j => four_far w4 w.heap.size (.int .i64 2) (.int .i64 0) (.string ⟨#[46]⟩) (.slice a 2 c') (w.heap.size + 1) j (by omega)
  have fr : ∀ b j, (setFour w4 w.heap.size (.int .i64 2) (.int .i64 0) (.string ⟨#[46]⟩) (.slice a 2 c')).frozen? ⟨b, j, none⟩ = w4.frozen? ⟨b, j, none⟩ := fun b j => by
    unfold setFour
    rw [World.frozen?_setCell, World.frozen?_setCell, World.frozen?_setCell, World.frozen?_setCell]
  have k1 := kb (w.heap.size + 1) (by omega)
  have fh : ∀ k, k ≠ w.heap.size → (setFour w4 w.heap.size (.int .i64 2) (.int .i64 0) (.string ⟨#[46]⟩) (.slice a 2 c')).heap[k]? = w4.heap[k]? := fun k hk => by
    unfold setFour
    rw [Below.heap_setCell _ _ _ _ hk, Below.heap_setCell _ _ _ _ hk, Below.heap_setCell _ _ _ _ hk, Below.heap_setCell _ _ _ _ hk]
  have hsz : (setFour w4 w.heap.size (.int .i64 2) (.int .i64 0) (.string ⟨#[46]⟩) (.slice a 2 c')).heap.size = w4.heap.size := by
    unfold setFour
    simp [World.setCell]
  refine ⟨{ tm := ?_, b0 := d0, b1 := d1, b2 := d2, b3 := d3, fz := fun j => by rw [fr, World.frozen?_of_block (kb w.heap.size (by omega))]; exact h.fz j, fz1 := fun j => by rw [fr, World.frozen?_of_block k1]; exact h.fz1 j, r0 := by rw [far, World.cell?_of_block k1]; exact h.r0, r1 := by rw [far, World.cell?_of_block k1]; exact h.r1, r2 := by rw [far, World.cell?_of_block k1]; exact h.r2, r3 := by rw [far, World.cell?_of_block k1]; exact h.r3, bel := hF, big := by rw [hsz]; have := hW4.size; omega }, ?_⟩
  · have hR2 : RowP (setFour w4 w.heap.size (.int .i64 2) (.int .i64 0) (.string ⟨#[46]⟩) (.slice a 2 c')) ((W.alloc o).heap.size + 1) 31 (.slice a 2 c') [(t, ut), (T, u)] := four_row _ _ _ _ hR (by simp; omega)
    have hT := (hR2.hide (D := hid2 D w.heap.size) (fun k hk _ => plus_high (ho k (by simp at hk; omega)) (by simp at hk; omega))).terms (fun p hp => by
      simp at hp
      rcases hp with rfl | rfl
      · exact TmV.stay (Stays.below hF fun k hk hd => plus_low hk hd) _ _ ht
      · refine TmV.stay (Stays.hide (by rw [hsz]; exact hW4.size) fun k hk hd => ⟨hd, ?_⟩) _ _ h.tm
        rw [fh k (plus_ne hd).2.1]
        exact kb k hk) (by unfold BIG; simp)
    exact tmV_iff.2 ⟨_, rfl, by unfold BIG; decide, i64_2, i64_0, hT⟩
  · refine ⟨by rw [hsz]; exact hW4.size, fun k o' hk ho' => ?_⟩
    have hne : k ≠ w.heap.size := fun e => by
      obtain ⟨o2, ho2, hc2⟩ := cells_of_cell h.b0
      rw [e] at hk
      have : o2 = o' := Option.some.inj (ho2.symm.trans hk)
      rw [this, ho'] at hc2
      cases hc2
    rw [fh k hne, kb k (Array.getElem?_eq_some_iff.1 hk).1]
    exact hk
end Go.Proofs.YtaojalicnnnkmaaGreatDoor
/- Package term: List, walked. -/
namespace Go.Proofs.YtaojalicnnnkmaaGreatDoor
open Go.RowKit Go.Shelf
attribute [local go_sem] Oper.semAt_some
set_option linter.unusedVariables false

theorem back_terms {D : Nat → Bool} {w : World} (xs : List (Item D w)) : (back xs).map (fun x => x.2.1.1) = (xs.map (fun x => x.1.1)).reverse := by
  unfold back
  rw [← List.map_reverse]
  apply List.ext_getElem?
  intro i
  rw [List.getElem?_map, List.getElem?_mapIdx, List.getElem?_map]
  cases xs.reverse[i]? <;> rfl
theorem list_rev {D : Nat → Bool} {w : World} (xs : List (Item D w)) : ((back xs).map (fun x => x.2.1.1)).reverse = xs.map (fun x => x.1.1) := by rw [back_terms, List.reverse_reverse]
set_option maxRecDepth 100000 in
set_option maxHeartbeats 8000000 in
theorem list_in {D : Nat → Bool} {w : World} {v : Value} {l : List Tm} {x : Tm} {vt : Value} (ho : Old D w) (hl : Tms (hide D w) v l) (hx : TmV (hide D w) x vt) :
    Calls Tryz.prog 130 #[v, vt] w fun e w' => ∃ r, e = .returned r ∧ TmV (hide D w') (listT l x) r ∧ Below w.heap.size w w' := by
  obtain ⟨ao, c, xs, rfl, hxs, hI⟩ := items_of hl
  obtain ⟨u, rfl⟩ := hx.pair
  obtain ⟨au, cu, rfl⟩ := val_slice hx.bare
  obtain ⟨m, hm⟩ : ∃ m, l.length = m := ⟨_, rfl⟩
  rw [hm] at hI ⊢
  have HXS := Lib.hid hxs
  clear hl hm hxs
  obtain ⟨kx, hkx⟩ : ∃ k, x.k = k := ⟨_, rfl⟩
  obtain ⟨nx, hnx⟩ : ∃ k, x.n = k := ⟨_, rfl⟩
  obtain ⟨sx, hsx⟩ : ∃ k, x.s = k := ⟨_, rfl⟩
  obtain ⟨mx, hmx⟩ : ∃ k, x.args.length = k := ⟨_, rfl⟩
  have hS : ∀ W, Below ((w.alloc (box4 kx nx sx (.slice au mx cu) 31)).alloc (box4 0 0 ⟨#[]⟩ (.slice none 0 0) 31)).heap.size ((w.alloc (box4 kx nx sx (.slice au mx cu) 31)).alloc (box4 0 0 ⟨#[]⟩ (.slice none 0 0) 31)) W → w.heap.size + 3 ≤ W.heap.size → ListAt D w W x (.slice au mx cu) := fun W hb hbig => by
    have hw : Below w.heap.size w W := Ext.trans' ((bel1' _ _).alloc (by simp) _) hb
    rw [hmx] at hx
    exact { tm := TmV.stay (Stays.below hw fun k hk hd => plus_low hk hd) _ _ hx, b0 := by rw [hkx]; exact cell_later hb (by simp), b1 := by rw [hnx]; exact cell_later hb (by simp), b2 := by rw [hsx]; exact cell_later hb (by simp), b3 := cell_later hb (by simp), fz := fun j => by rw [World.frozen?_of_block (hb.block w.heap.size (by simp <;> omega))]; simp, fz1 := fun j => by rw [World.frozen?_of_block (hb.block (w.heap.size + 1) (by simp <;> omega))]; simp, r0 := cell_later hb (by simp), r1 := cell_later hb (by simp), r2 := cell_later hb (by simp), r3 := cell_later hb (by simp), bel := hw, big := hbig }
  show Calls Tryz.prog 130 #[.slice ao m c, .agg #[.int .i64 x.k, .int .i64 x.n, .string x.s, .slice au x.args.length cu]] w _
  rw [hkx, hnx, hsx, hmx]
  have HS := Lib.hid hS
  have HO := Lib.hid ho
  have HI := Lib.hid hI
  clear hkx hnx hsx hmx hS ho hx hI
  refine (callsIn_wide (n := 6)).1 ?_
  refine callsIn_of_wp_marks Tryz.func130 rfl trivial ?_ rfl
  simp only [Tryz.ntmps130, List.size_toArray, List.length_cons, List.length_nil, Nat.reduceAdd, Nat.reduceSub, Array.replicate_succ, Array.replicate_zero, List.push_toArray, List.append_toArray, List.nil_append, List.cons_append]
  gi_wp2_with (refine ⟨trivial, ?_⟩; gi_at_call 137; refine (back_in Fence.wide (6 - 1) trivial rfl _ _ _ _).mono ?_; rintro e w' ⟨rfl, rfl⟩)
  have hsz : (((w.alloc (box4 kx nx sx (.slice au mx cu) 31)).alloc (box4 0 0 ⟨#[]⟩ (.slice none 0 0) 31)).alloc (.cells #[.slice ao m c] 29)).heap.size = w.heap.size + 3 := by simp
  have hbx : (((w.alloc (box4 kx nx sx (.slice au mx cu) 31)).alloc (box4 0 0 ⟨#[]⟩ (.slice none 0 0) 31)).alloc (.cells #[.slice ao m c] 29)).cell? ⟨w.heap.size + 2, 0, none⟩ = some (.slice ao m c) := by
    have h := cell_new ((w.alloc (box4 kx nx sx (.slice au mx cu) 31)).alloc (box4 0 0 ⟨#[]⟩ (.slice none 0 0) 31)) #[.slice ao m c] 29 0 (.slice ao m c) rfl
    rw [add_plain, show ((w.alloc (box4 kx nx sx (.slice au mx cu) 31)).alloc (box4 0 0 ⟨#[]⟩ (.slice none 0 0) 31)).heap.size = w.heap.size + 2 by simp] at h
    exact h
  have hst := HS.out _ (bel1' _ (.cells #[.slice ao m c] 29)) (by rw [hsz]; exact Nat.le_refl _)
  obtain ⟨W0, hW0⟩ : ∃ W0, ((w.alloc (box4 kx nx sx (.slice au mx cu) 31)).alloc (box4 0 0 ⟨#[]⟩ (.slice none 0 0) 31)).alloc (.cells #[.slice ao m c] 29) = W0 := ⟨_, rfl⟩
  unfold box4 at hW0
  unfold box4 at hsz hbx hst
  rw [hW0] at hsz hbx hst ⊢
  clear hW0 HS
  have HO2 := HO.out
  refine wpIn_rangeFunc_ownH rfl (by omega) (gf := 143) (lb := #[.pointer (some ⟨w.heap.size + 1 + 1, 0, none⟩)]) rfl trivial (enters_of Tryz.func143 (by kernel_rfl) rfl)
    (back_stops Fence.wide (6 - 1) trivial rfl (by omega) (w.heap.size + 1 + 1) w.heap.size ao m c xs W0 hst.bel (Nat.le_refl _) (by omega) hbx HI.out) Kq.trans (Kq.put (by omega) (by omega)) (Below.refl _ _) (fun _ => rfl)
    (fun pre W => ∃ T u, T = listT ((pre.map (fun x => x.2.1.1)).reverse) x ∧ ListAt D w W T u)
    (fun _ _ _ => False)
    (fun pre A B row ⟨T, u, h1, h2⟩ hg hr => ⟨T, u, h1, h2.kept (by omega) hg hr⟩)
    (fun _ _ _ _ _ hs _ _ => hs)
    ⟨x, _, rfl, hst⟩
    (fun y a' W => ∃ Bx, w.heap.size + 3 ≤ Bx ∧ (W.cell? ⟨Bx, 0, none⟩ = some (.int .i64 y.2.1.1.k) ∧ W.cell? ⟨Bx, 1, none⟩ = some (.int .i64 y.2.1.1.n) ∧ W.cell? ⟨Bx, 2, none⟩ = some (.string y.2.1.1.s) ∧ W.cell? ⟨Bx, 3, none⟩ = some y.2.1.2) ∧
      a' = { tmps := #[.slice ao m c, .agg #[.int .i64 kx, .int .i64 nx, .string sx, .slice au mx cu], undef, .pointer (some ⟨w.heap.size, 0, none⟩), .pointer (some ⟨w.heap.size + 1, 0, none⟩), undef, .pointer (some ⟨Bx, 0, none⟩), .slice ao m c, .func (.func 143) #[] #[.pointer (some ⟨w.heap.size + 1 + 1, 0, none⟩)], .int .i64 (y.1 : Int), .agg #[.int .i64 y.2.1.1.k, .int .i64 y.2.1.1.n, .string y.2.1.1.s, y.2.1.2], undef, undef, undef, undef, undef], defers := [] })
    (fun y a' _ A B row ⟨Bx, h0, h1, h2⟩ hg hr => ⟨Bx, h0, ⟨cell_kept h1.1 hg (fun r e => (hr r e).2), cell_kept h1.2.1 hg (fun r e => (hr r e).2), cell_kept h1.2.2.1 hg (fun r e => (hr r e).2), cell_kept h1.2.2.2 hg (fun r e => (hr r e).2)⟩, h2⟩)
    ?assign ?body ?done ?stop
  case assign =>
    rintro lp pre ⟨i, ⟨⟨t, ut⟩, htv⟩⟩ W K ⟨T, u, hT, hLA⟩ hK
    have htv2 : TmV w t (pVal (t, ut)) := htv.bare
    obtain ⟨at', ct', hut⟩ := val_slice htv2
    obtain ⟨mt, hmt⟩ : ∃ mt, t.args.length = mt := ⟨_, rfl⟩
    rw [hmt] at hut
    clear htv2 hmt
    subst hut
    have hb1 := hLA.bel
    have hb2 := hLA.big
    gi_wp2
    exact hK _ _ ((KeepsOthers.alloc _ _).from _) (Kq.below (bel1' W _) hb1.size (by omega)) ⟨T, u, hT, hLA.kept (C := w.heap.size) (Nat.le_refl _) (World.grownBy_alloc W _ none) (fun r e => by cases e)⟩ ⟨W.heap.size, hb2, ⟨by simp, by simp, by simp, by simp⟩, rfl⟩
  case body =>
    rintro lp pre ⟨i, ⟨⟨t, ut⟩, htv⟩⟩ a' W hlp ⟨r, hr⟩ ⟨T, u, hT, hLA⟩ ⟨Bx, hBx, ⟨f0, f1, f2, f3⟩, rfl⟩ hlt
    have htv2 : TmV W t (pVal (t, ut)) := TmV.ext hLA.bel _ _ htv.bare
    obtain ⟨at', ct', hut⟩ := val_slice htv2
    obtain ⟨aT, cT, huT⟩ := val_slice hLA.tm.bare
    have hone : ∀ v ∈ ([(t, ut), (T, u)] : List TmP).flatMap pCells, v.oneCell' = true := pCells_one _ (w := W) (fun p hp => by
      simp at hp
      rcases hp with rfl | rfl
      · exact htv2
      · exact hLA.tm.bare)
    obtain ⟨mt, hmt⟩ : ∃ mt, t.args.length = mt := ⟨_, rfl⟩
    obtain ⟨mT, hmT⟩ : ∃ mt, T.args.length = mt := ⟨_, rfl⟩
    rw [hmt] at hut
    rw [hmT] at huT
    have e0 := hLA.b0
    have e1 := hLA.b1
    have e2 := hLA.b2
    have e3 := hLA.b3
    have HTV : Hid (TmV (hide D w) t (pVal (t, ut))) := Lib.hid htv
    have HT := Lib.hid hT
    have HLA := Lib.hid hLA
    clear htv2 hmt hmT hT hLA
    subst hut huT
    have HC := fun (W1 : World) (ad : Addr) (hsrc : ∀ (j : Nat) (v : Value), (([(t, .slice at' mt ct'), (T, .slice aT mT cT)] : List TmP).flatMap pCells)[j]? = some v → W1.cell? (ad.add j) = some v) => comp_ps (w := W1) (ao := some ad) (m := 2) (c := 2) [(t, .slice at' mt ct'), (T, .slice aT mT cT)] ⟨#[46]⟩ rfl (by unfold BIG; omega) hone (Or.inr ⟨ad, rfl, hsrc⟩)
    gi_wp2_with (refine ⟨trivial, ?_⟩; gi_at_call 26; refine (CallsIn.inRound lp (callsIn_wide.2 (HC _ ⟨W.heap.size, 0, none⟩ (fun j v hv => cell_new _ _ _ j v hv)))).mono ?_; rintro e w4 ⟨a4, c4, rfl, hR, hB⟩; obtain ⟨g0, g1, g2, g3, gf⟩ := HLA.out.box hB)
    obtain ⟨hn1, hn2⟩ := HLA.out.next HO2 HTV.out hR hB
    have hbig := HLA.out.big
    refine ⟨hn2.from _, ?_, ⟨consT t T, .slice a4 2 c4, by rw [HT.out]; simp [listT], hn1⟩⟩
    show Kq w.heap.size (w.heap.size + 1 + 1) W (setFour w4 w.heap.size (.int .i64 2) (.int .i64 0) (.string ⟨#[46]⟩) (.slice a4 2 c4))
    have hWw := Ext.trans' (bel1' W _) hB
    exact ⟨by rw [set_size]; exact hWw.size, fun k hk => (set_kept _ _ _ _ k (by omega)).trans (hWw.block k (by omega))⟩
  case done =>
    rintro Dd ys W hD rfl ⟨T, u, hT, hLA⟩ hK
    obtain ⟨aT, cT, huT⟩ := val_slice hLA.tm.bare
    obtain ⟨mT, hmT⟩ : ∃ mT, T.args.length = mT := ⟨_, rfl⟩
    rw [hmT] at huT
    have e0 := hLA.b0
    have e1 := hLA.b1
    have e2 := hLA.b2
    have e3 := hLA.b3
    have q0 := hLA.r0
    have q1 := hLA.r1
    have q2 := hLA.r2
    have q3 := hLA.r3
    have qf := hLA.fz1
    have hT2 : T = listT l x := by rw [hT, list_rev, HXS.out]
    have HT := Lib.hid hT2
    have HLA := Lib.hid hLA
    clear hmT hT hT2 hLA
    subst huT
    gi_wp2
    have hK5 : (setFour W (w.heap.size + 1) (.int .i64 T.k) (.int .i64 T.n) (.string T.s) (.slice aT mT cT)).heap[Dd]? = some (.deferred (some [])) := (set_kept _ _ _ _ Dd (by omega)).trans hK
    obtain ⟨d0, d1, d2, d3⟩ := four_cells (.int .i64 T.k) (.int .i64 T.n) (.string T.s) (.slice aT mT cT) q0 q1 q2 q3
    have KP : ∀ {a v}, (setFour W (w.heap.size + 1) (.int .i64 T.k) (.int .i64 T.n) (.string T.s) (.slice aT mT cT)).cell? a = some v → ((setFour W (w.heap.size + 1) (.int .i64 T.k) (.int .i64 T.n) (.string T.s) (.slice aT mT cT)).putObj Dd (.deferred none)).cell? a = some v := fun h => cell_kept h (grownBy_putObj' _ Dd (.deferred none)) (fun r e => by cases e; exact ⟨_, hK5, rfl⟩)
    refine ⟨by simp, .inl ⟨_, _, rfl, run_takeDeferred hK5, ?_⟩⟩
    refine ⟨.agg #[.int .i64 T.k, .int .i64 T.n, .string T.s, .slice aT mT cT], ?_, _, rfl, ?_, ?_⟩
    · have p0 := KP d0
      have p1 := KP d1
      have p2 := KP d2
      have p3 := KP d3
      clear KP d0 d1 d2 d3 q0 q1 q2 q3 e0 e1 e2 e3 HXS HT
      obtain ⟨W6, hW6⟩ : ∃ W6, (setFour W (w.heap.size + 1) (.int .i64 T.k) (.int .i64 T.n) (.string T.s) (.slice aT mT cT)).putObj Dd (.deferred none) = W6 := ⟨_, rfl⟩
      rw [hW6] at p0 p1 p2 p3
      change (results Tryz.f130 _).run Tryz.prog ((setFour W (w.heap.size + 1) (.int .i64 T.k) (.int .i64 T.n) (.string T.s) (.slice aT mT cT)).putObj Dd (.deferred none)) = _
      rw [hW6, results_cell1 rfl]
      go_simp
      exact hW6.symm
    · rw [← HT.out]
      have hh := HLA.out.tm
      refine TmV.stay ⟨?_, fun a v hv => ?_⟩ _ _ hh
      · rw [hide_size, hide_size]
        have := (grownBy_putObj' (setFour W (w.heap.size + 1) (.int .i64 T.k) (.int .i64 T.n) (.string T.s) (.slice aT mT cT)) Dd (.deferred none)).size
        rw [set_size] at this
        exact this
      · cases hd : hid2 D w.heap.size a.block with
        | true => rw [hide_gone _ W a hd] at hv; cases hv
        | false =>
          rw [hide_cell _ W a hd] at hv
          rw [hide_cell _ _ a (plus_ne hd).1]
          exact KP ((World.cell?_of_block (set_kept _ _ _ _ a.block (plus_ne hd).2.2)).trans hv)
    · exact (four_below _ _ _ _ HLA.out.bel (by omega)).grown (grownBy_putObj' _ Dd (.deferred none)) (by rw [set_size]; have := HLA.out.big; omega) (fun k e => by cases e; omega)
  case stop =>
    rintro Dd cc pre W _ _ h _
    exact h.elim
end Go.Proofs.YtaojalicnnnkmaaGreatDoor
/- Letter by letter: a whole text; two texts with a line's end between; a quoted name. Nothing here is walked. -/
namespace Go.Proofs.YtaojalicnnnkmaaGreatDoor

def NextB.len : NextB → Nat
  | .skip k => k
  | .tok t => t.len
  | .bad _ => 0
theorem tok_len (kind : Nat) (text : List UInt8) (n k : Nat) (s : List UInt8) : (tokB kind text n k s).len = k := rfl
theorem name_len (k : Nat) (s : List UInt8) : (nameB k s).len ≤ k := by
  unfold nameB
  split
  · exact Nat.le_refl _
  · exact Nat.zero_le _
theorem quo_len : ∀ (n : Nat) (r : List UInt8), r.length ≤ n → ∀ p, quoB r = some p → p.2 ≤ r.length := fun n r hn p h => (quo_nl [] n r hn p h).2
theorem next_len (c : UInt8) (r : List UInt8) : (nextC c r).len ≤ r.length + 1 := by
  have hw := tw_le wordB r
  have hg := tw_le digitB r
  have hn := tw_le (fun x => x != 10) r
  have hsy : symRun (c :: r) ≤ r.length + 1 := sym_le (c :: r)
  unfold nextC
  by_cases h1 : blankB c = true
  · rw [if_pos h1]; exact Nat.le_add_left _ _
  rw [if_neg h1]
  by_cases h2 : (c == 37) = true
  · rw [if_pos h2]; exact Nat.succ_le_succ hn
  rw [if_neg h2]
  by_cases h3 : smallB c = true
  · rw [if_pos h3]; exact Nat.le_trans (name_len _ _) (by omega)
  rw [if_neg h3]
  by_cases h4 : greatB c = true
  · rw [if_pos h4, tok_len]; omega
  rw [if_neg h4]
  by_cases h5 : digitB c = true
  · rw [if_pos h5]
    split
    · rw [tok_len]; omega
    · exact Nat.zero_le _
  rw [if_neg h5]
  by_cases h6 : (c == 39) = true
  · rw [if_pos h6]
    cases hq : quoB r with
    | none => exact Nat.zero_le _
    | some p =>
      have := quo_len r.length r (Nat.le_refl _) p hq
      simp only
      split
      · rw [tok_len]; omega
      · exact Nat.zero_le _
  rw [if_neg h6]
  by_cases h7 : (c == 46 && endB r) = true
  · rw [if_pos h7, tok_len]; omega
  rw [if_neg h7]
  by_cases h8 : symB c = true
  · rw [if_pos h8]; exact Nat.le_trans (name_len _ _) hsy
  rw [if_neg h8]
  by_cases h9 : (c == 59 || c == 33) = true
  · rw [if_pos h9]; exact Nat.le_trans (name_len _ _) (by omega)
  rw [if_neg h9]
  by_cases h10 : ((c == 91 && r.head? == some 93) || (c == 123 && r.head? == some 125)) = true
  · rw [if_pos h10]
    refine Nat.le_trans (name_len _ _) ?_
    cases r with
    | nil => simp at h10
    | cons d r => simp
  rw [if_neg h10]
  by_cases h11 : [40, 41, 91, 93, 123, 125, 44, 124].contains c = true
  · rw [if_pos h11, tok_len]; omega
  rw [if_neg h11]
  exact Nat.zero_le _

/-- The tokens of a text, each with its first byte's place (the text begins at place p); nothing where one is refused. n: more than enough. -/
def lexL : Nat → Nat → List UInt8 → Option (List (TokB × Nat))
  | _, _, [] => some []
  | 0, _, _ :: _ => none
  | n + 1, p, c :: r =>
    match nextC c r with
    | .skip k => lexL n (p + k) ((c :: r).drop k)
    | .tok t => (lexL n (p + t.len) ((c :: r).drop t.len)).map fun l => (t, p) :: l
    | .bad _ => none
theorem lex_nil (n p : Nat) : lexL n p [] = some [] := by cases n <;> rfl
end Go.Proofs.YtaojalicnnnkmaaGreatDoor
/- Letter by letter: a whole text, its tokens or where it is refused; what is passed over ahead of a token. Nothing here is walked. -/
namespace Go.Proofs.YtaojalicnnnkmaaGreatDoor

inductive CutR where
  | ok (l : List (TokB × Nat))
  | bad (pl : Nat) (over : Bool)

def cutW : Nat → List (TokB × Nat) → Nat → List UInt8 → CutR
  | _, acc, _, [] => .ok acc
  | 0, _, p, _ :: _ => .bad p true
  | n + 1, acc, p, c :: r =>
    match nextC c r with
    | .skip k => cutW n acc (p + k) ((c :: r).drop k)
    | .tok t => if acc.length = 1024 then .bad p true else cutW n (acc ++ [(t, p)]) (p + t.len) ((c :: r).drop t.len)
    | .bad o => .bad p o
def cutF (acc : List (TokB × Nat)) (p : Nat) (s : List UInt8) : CutR := cutW s.length acc p s
def cutB (s : List UInt8) : CutR := if 4096 < s.length then .bad 4096 true else cutF [] 0 s

def passL : Nat → List UInt8 → Nat
  | _, [] => 0
  | 0, _ :: _ => 0
  | n + 1, c :: r => match nextC c r with
    | .skip k => k + passL n ((c :: r).drop k)
    | _ => 0
def passF (s : List UInt8) : Nat := passL s.length s

theorem sym_pos {c : UInt8} {r : List UInt8} (h : symB c = true) (he : ¬ (c == 46 && endB r) = true) : 1 ≤ symRun (c :: r) := by
  rw [symRun, h]
  simp only [Bool.not_eq_true] at he
  rw [he]
  simp
theorem name_pos {k : Nat} {s : List UInt8} (hk : 1 ≤ k) : (∃ t, nameB k s = .tok t ∧ 1 ≤ t.len) ∨ nameB k s = .bad true := by
  unfold nameB
  split
  · exact Or.inl ⟨_, rfl, hk⟩
  · exact Or.inr rfl
/-- What stands next takes at least one byte. -/
theorem next_pos (c : UInt8) (r : List UInt8) : (∃ k, nextC c r = .skip k ∧ 1 ≤ k) ∨ (∃ t, nextC c r = .tok t ∧ 1 ≤ t.len) ∨ ∃ o, nextC c r = .bad o := by
  have nm : ∀ (k : Nat), 1 ≤ k → (∃ j, nameB k (c :: r) = .skip j ∧ 1 ≤ j) ∨ (∃ t, nameB k (c :: r) = .tok t ∧ 1 ≤ t.len) ∨ ∃ o, nameB k (c :: r) = .bad o := fun k hk => by
    rcases name_pos (s := c :: r) hk with h | h
    · exact Or.inr (Or.inl h)
    · exact Or.inr (Or.inr ⟨_, h⟩)
  unfold nextC
  by_cases h1 : blankB c = true
  · rw [if_pos h1]; exact Or.inl ⟨_, rfl, Nat.le_refl _⟩
  rw [if_neg h1]
  by_cases h2 : (c == 37) = true
  · rw [if_pos h2]; exact Or.inl ⟨_, rfl, Nat.le_add_left _ _⟩
  rw [if_neg h2]
  by_cases h3 : smallB c = true
  · rw [if_pos h3]; exact nm _ (Nat.le_add_left _ _)
  rw [if_neg h3]
  by_cases h4 : greatB c = true
  · rw [if_pos h4]; exact Or.inr (Or.inl ⟨_, rfl, Nat.le_add_left _ _⟩)
  rw [if_neg h4]
  by_cases h5 : digitB c = true
  · rw [if_pos h5]
    split
    · exact Or.inr (Or.inl ⟨_, rfl, Nat.le_add_left _ _⟩)
    · exact Or.inr (Or.inr ⟨_, rfl⟩)
  rw [if_neg h5]
  by_cases h6 : (c == 39) = true
  · rw [if_pos h6]
    cases hq : quoB r with
    | none => exact Or.inr (Or.inr ⟨_, rfl⟩)
    | some p =>
      simp only
      split
      · exact Or.inr (Or.inl ⟨_, rfl, Nat.le_add_left _ _⟩)
      · exact Or.inr (Or.inr ⟨_, rfl⟩)
  rw [if_neg h6]
  by_cases h7 : (c == 46 && endB r) = true
  · rw [if_pos h7]; exact Or.inr (Or.inl ⟨_, rfl, Nat.le_refl _⟩)
  rw [if_neg h7]
  by_cases h8 : symB c = true
  · rw [if_pos h8]; exact nm _ (sym_pos h8 h7)
  rw [if_neg h8]
  by_cases h9 : (c == 59 || c == 33) = true
  · rw [if_pos h9]; exact nm _ (Nat.le_refl _)
  rw [if_neg h9]
  by_cases h10 : ((c == 91 && r.head? == some 93) || (c == 123 && r.head? == some 125)) = true
  · rw [if_pos h10]; exact nm _ (by omega)
  rw [if_neg h10]
  by_cases h11 : [40, 41, 91, 93, 123, 125, 44, 124].contains c = true
  · rw [if_pos h11]; exact Or.inr (Or.inl ⟨_, rfl, Nat.le_refl _⟩)
  rw [if_neg h11]
  exact Or.inr (Or.inr ⟨_, rfl⟩)
theorem drop_lt {c : UInt8} {r : List UInt8} {k n : Nat} (hk : 1 ≤ k) (hn : (c :: r).length ≤ n + 1) : ((c :: r).drop k).length ≤ n := by
  rw [List.length_drop]; omega
theorem cut_fuel : ∀ (n m : Nat) (acc : List (TokB × Nat)) (p : Nat) (s : List UInt8), s.length ≤ n → s.length ≤ m → cutW n acc p s = cutW m acc p s
  | n, m, acc, p, [], _, _ => by cases n <;> cases m <;> rfl
  | 0, m, acc, p, c :: r, hn, _ => by simp at hn
  | n + 1, 0, acc, p, c :: r, _, hm => by simp at hm
  | n + 1, m + 1, acc, p, c :: r, hn, hm => by
    rw [cutW, cutW]
    rcases next_pos c r with ⟨k, h, hk⟩ | ⟨t, h, hk⟩ | ⟨o, h⟩
    · rw [h]; exact cut_fuel n m _ _ _ (drop_lt hk hn) (drop_lt hk hm)
    · rw [h]; simp only; rw [cut_fuel n m _ _ _ (drop_lt hk hn) (drop_lt hk hm)]
    · rw [h]
theorem pass_fuel : ∀ (n m : Nat) (s : List UInt8), s.length ≤ n → s.length ≤ m → passL n s = passL m s
  | n, m, [], _, _ => by cases n <;> cases m <;> rfl
  | 0, m, c :: r, hn, _ => by simp at hn
  | n + 1, 0, c :: r, _, hm => by simp at hm
  | n + 1, m + 1, c :: r, hn, hm => by
    rw [passL, passL]
    rcases next_pos c r with ⟨k, h, hk⟩ | ⟨t, h, hk⟩ | ⟨o, h⟩
    · rw [h]; simp only; rw [pass_fuel n m _ (drop_lt hk hn) (drop_lt hk hm)]
    · rw [h]
    · rw [h]
theorem cutF_nil (acc : List (TokB × Nat)) (p : Nat) : cutF acc p [] = .ok acc := rfl
theorem cutF_skip {acc : List (TokB × Nat)} {p k : Nat} {c : UInt8} {r : List UInt8} (h : nextC c r = .skip k) (hk : 1 ≤ k) : cutF acc p (c :: r) = cutF acc (p + k) ((c :: r).drop k) := by
  unfold cutF
  rw [List.length_cons, cutW, h]
  exact cut_fuel _ _ _ _ _ (drop_lt hk (Nat.le_refl _)) (Nat.le_refl _)
theorem cutF_tok {acc : List (TokB × Nat)} {p : Nat} {c : UInt8} {r : List UInt8} {t : TokB} (h : nextC c r = .tok t) (hk : 1 ≤ t.len) (ha : acc.length ≠ 1024) : cutF acc p (c :: r) = cutF (acc ++ [(t, p)]) (p + t.len) ((c :: r).drop t.len) := by
  unfold cutF
  rw [List.length_cons, cutW, h]
  simp only
  rw [if_neg ha]
  exact cut_fuel _ _ _ _ _ (drop_lt hk (Nat.le_refl _)) (Nat.le_refl _)
theorem cutF_full {acc : List (TokB × Nat)} {p : Nat} {c : UInt8} {r : List UInt8} {t : TokB} (h : nextC c r = .tok t) (ha : acc.length = 1024) : cutF acc p (c :: r) = .bad p true := by
  unfold cutF
  rw [List.length_cons, cutW, h]
  simp only
  rw [if_pos ha]
theorem cutF_bad {acc : List (TokB × Nat)} {p : Nat} {c : UInt8} {r : List UInt8} {o : Bool} (h : nextC c r = .bad o) : cutF acc p (c :: r) = .bad p o := by
  unfold cutF
  rw [List.length_cons, cutW, h]
theorem passF_skip {k : Nat} {c : UInt8} {r : List UInt8} (h : nextC c r = .skip k) (hk : 1 ≤ k) : passF (c :: r) = k + passF ((c :: r).drop k) := by
  unfold passF
  rw [List.length_cons, passL, h]
  simp only
  rw [pass_fuel _ _ _ (drop_lt hk (Nat.le_refl _)) (Nat.le_refl _)]
theorem passF_stop {c : UInt8} {r : List UInt8} (h : ∀ k, nextC c r ≠ .skip k) : passF (c :: r) = 0 := by
  unfold passF
  rw [List.length_cons, passL]
  split
  · rename_i k hk; exact absurd hk (h k)
  · rfl
/-- What is passed over, no text is behind or a token: and nothing of the answer changes. -/
theorem pass_cut : ∀ (n : Nat) (s : List UInt8), s.length ≤ n → passF s ≤ s.length ∧ (∀ acc p, cutF acc p s = cutF acc (p + passF s) (s.drop (passF s))) ∧ ∀ c r, s.drop (passF s) = c :: r → ∀ k, nextC c r ≠ .skip k
  | _, [], _ => ⟨Nat.le_refl _, fun _ _ => rfl, fun c r h => by simp at h⟩
  | 0, c :: r, h => by simp at h
  | n + 1, c :: r, hn => by
    have hlen := next_len c r
    rcases next_pos c r with ⟨k, h, hk⟩ | ⟨t, h, hk⟩ | ⟨o, h⟩
    · rw [h] at hlen
      have hk2 : k ≤ (c :: r).length := hlen
      obtain ⟨i1, i2, i3⟩ := pass_cut n ((c :: r).drop k) (drop_lt hk hn)
      rw [passF_skip h hk]
      refine ⟨?_, fun acc p => ?_, fun c' r' h' => ?_⟩
      · rw [List.length_drop] at i1; omega
      · rw [cutF_skip h hk, i2, List.drop_drop, Nat.add_assoc]
      · rw [← List.drop_drop] at h'; exact i3 c' r' h'
    · have e : passF (c :: r) = 0 := passF_stop (fun k' => by rw [h]; intro e; cases e)
      rw [e]
      refine ⟨Nat.zero_le _, fun _ _ => rfl, fun c' r' h' => ?_⟩
      rw [List.drop_zero] at h'; cases h'
      rw [h]; intro k e; cases e
    · have e : passF (c :: r) = 0 := passF_stop (fun k' => by rw [h]; intro e; cases e)
      rw [e]
      refine ⟨Nat.zero_le _, fun _ _ => rfl, fun c' r' h' => ?_⟩
      rw [List.drop_zero] at h'; cases h'
      rw [h]; intro k e; cases e
/-- All is well just where there are tokens, and not too many. -/
theorem cut_lex : ∀ (n : Nat) (acc : List (TokB × Nat)) (p : Nat) (s : List UInt8) (l : List (TokB × Nat)), acc.length ≤ 1024 →
    (cutW n acc p s = .ok l ↔ ∃ x, lexL n p s = some x ∧ l = acc ++ x ∧ acc.length + x.length ≤ 1024)
  | n, acc, p, [], l, ha => by
    rw [lex_nil]
    have e : cutW n acc p [] = .ok acc := by cases n <;> rfl
    rw [e]
    constructor
    · intro h; cases h; exact ⟨[], rfl, by simp, by simpa using ha⟩
    · rintro ⟨x, hx, rfl, _⟩; cases hx; simp
  | 0, acc, p, c :: r, l, ha => by
    constructor
    · intro h; cases h
    · rintro ⟨x, hx, _⟩; cases hx
  | n + 1, acc, p, c :: r, l, ha => by
    rw [cutW, lexL]
    cases h : nextC c r with
    | skip k => exact cut_lex n acc _ _ l ha
    | bad o => simp
    | tok t =>
      simp only
      by_cases hf : acc.length = 1024
      · rw [if_pos hf]
        constructor
        · intro h; cases h
        · rintro ⟨x, hx, rfl, hl⟩
          obtain ⟨y, _, rfl⟩ := Option.map_eq_some_iff.1 hx
          simp at hl
          omega
      · rw [if_neg hf, cut_lex n (acc ++ [(t, p)]) _ _ l (by simp; omega)]
        constructor
        · rintro ⟨x, hx, rfl, hl⟩
          exact ⟨(t, p) :: x, by rw [hx]; rfl, by simp, by simp at hl ⊢; omega⟩
        · rintro ⟨x, hx, rfl, hl⟩
          obtain ⟨y, hy, rfl⟩ := Option.map_eq_some_iff.1 hx
          exact ⟨y, hy, by simp, by simp at hl ⊢; omega⟩
theorem cutB_ok {s : List UInt8} {l : List (TokB × Nat)} : cutB s = .ok l ↔ s.length ≤ 4096 ∧ lexL s.length 0 s = some l ∧ l.length ≤ 1024 := by
  unfold cutB
  by_cases h : 4096 < s.length
  · rw [if_pos h]
    constructor
    · intro h; cases h
    · rintro ⟨h1, _⟩; omega
  · rw [if_neg h]
    unfold cutF
    rw [cut_lex _ _ _ _ _ (Nat.zero_le _)]
    constructor
    · rintro ⟨x, hx, rfl, hl⟩
      exact ⟨by omega, by simpa using hx, by simpa using hl⟩
    · rintro ⟨_, hx, hl⟩
      exact ⟨l, hx, by simp, by simpa using hl⟩
end Go.Proofs.YtaojalicnnnkmaaGreatDoor
/- The shelf's contracts at this program, laid by the kit's tool. -/
namespace Go.Proofs
open Go.Shelf
def Tryz.lays137_ren : Go.Shelf.Ren := ⟨fun | 137 => 104 | 217 => 126 | 266 => 131 | n => n, fun | 9 => 9 | 5 => 5 | 3 => 3 | n => n, fun | n => n⟩
theorem Tryz.lays137 : Go.Proofs.Lays.n137 Tryz.prog Tryz.lays137_ren := {
  mixed := by kernel_rfl
  f137 := Tryz.func104.trans (congrArg some (by kernel_rfl))
  f217 := Tryz.func126.trans (congrArg some (by kernel_rfl))
  f266 := Tryz.func131.trans (congrArg some (by kernel_rfl))
  t3 := Tryz.underlying3
  a3 := Tryz.isAgg3
  z3 := Tryz.sizeOf3
  v3 := Tryz.zeroValue3
  t5 := Tryz.underlying5
  a5 := Tryz.isAgg5
  z5 := Tryz.sizeOf5
  v5 := Tryz.zeroValue5
  t9 := Tryz.underlying9
  a9 := Tryz.isAgg9
  z9 := Tryz.sizeOf9
  v9 := Tryz.zeroValue9 }
open Go.RowKit in
/-- strings.IndexByte: "IndexByte returns the index of the first instance of c in s, or -1 if c is not present in s.": IT RETURNS 'Lib.indexByte s c'; the world is as it was. (LAID: no walk: one application.) -/
theorem Tryz.strings_IndexByte (s : ByteArray) (c : Int) (w : World) :
    Calls Tryz.prog 104 #[.string s, .int .u8 c] w fun e w' => e = .returned (.int .i64 (Lib.indexByte s.data.toList c.toNat.toUInt8)) ∧ w' = w := Any.strings_IndexByte Tryz.lays137 s c w
def Tryz.laysC174_ren : Go.Shelf.Ren := ⟨fun | 174 => 114 | 247 => 128 | 245 => 129 | 287 => 132 | 279 => 133 | 280 => 134 | 281 => 135 | 282 => 136 | 321 => 138 | 322 => 139 | 316 => 140 | 171 => 142 | 205 => 141 | 243 => 144 | 246 => 145 | 283 => 146 | 284 => 147 | 285 => 148 | 286 => 149 | 129 => 151 | 317 => 150 | 318 => 152 | 319 => 153 | 320 => 154 | 337 => 155 | 338 => 156 | n => n, fun | 9 => 9 | 3 => 3 | 2 => 2 | 75 => 171 | 85 => 172 | 4 => 4 | 167 => 188 | 5 => 5 | 53 => 163 | 175 => 189 | 46 => 191 | 168 => 192 | 37 => 167 | 0 => 0 | 210 => 201 | 21 => 21 | 127 => 205 | 145 => 208 | 143 => 206 | 171 => 210 | 173 => 213 | 212 => 217 | 51 => 218 | 20 => 20 | 213 => 219 | 232 => 223 | 233 => 224 | 80 => 225 | n => n, fun | 15 => 1 | 16 => 2 | 17 => 3 | 18 => 4 | 19 => 5 | n => n⟩
theorem Tryz.laysC174 : Go.Proofs.LaysC.n174 Tryz.prog Tryz.laysC174_ren := {
  mixed := by kernel_rfl
  f129 := Tryz.func151.trans (congrArg some (by kernel_rfl))
  f171 := Tryz.func142.trans (congrArg some (by kernel_rfl))
  f174 := Tryz.func114.trans (congrArg some (by kernel_rfl))
  f205 := Tryz.func141.trans (congrArg some (by kernel_rfl))
  f243 := Tryz.func144.trans (congrArg some (by kernel_rfl))
  f245 := Tryz.func129.trans (congrArg some (by kernel_rfl))
  f246 := Tryz.func145.trans (congrArg some (by kernel_rfl))
  f247 := Tryz.func128.trans (congrArg some (by kernel_rfl))
  f279 := Tryz.func133.trans (congrArg some (by kernel_rfl))
  f280 := Tryz.func134.trans (congrArg some (by kernel_rfl))
  f281 := Tryz.func135.trans (congrArg some (by kernel_rfl))
  f282 := Tryz.func136.trans (congrArg some (by kernel_rfl))
  f283 := Tryz.func146.trans (congrArg some (by kernel_rfl))
  f284 := Tryz.func147.trans (congrArg some (by kernel_rfl))
  f285 := Tryz.func148.trans (congrArg some (by kernel_rfl))
  f286 := Tryz.func149.trans (congrArg some (by kernel_rfl))
  f287 := Tryz.func132.trans (congrArg some (by kernel_rfl))
  f316 := Tryz.func140.trans (congrArg some (by kernel_rfl))
  f317 := Tryz.func150.trans (congrArg some (by kernel_rfl))
  f318 := Tryz.func152.trans (congrArg some (by kernel_rfl))
  f319 := Tryz.func153.trans (congrArg some (by kernel_rfl))
  f320 := Tryz.func154.trans (congrArg some (by kernel_rfl))
  f321 := Tryz.func138.trans (congrArg some (by kernel_rfl))
  f322 := Tryz.func139.trans (congrArg some (by kernel_rfl))
  f337 := Tryz.func155.trans (congrArg some (by kernel_rfl))
  f338 := Tryz.func156.trans (congrArg some (by kernel_rfl))
  t0 := Tryz.underlying0
  a0 := Tryz.isAgg0
  z0 := Tryz.sizeOf0
  v0 := Tryz.zeroValue0
  t2 := Tryz.underlying2
  a2 := Tryz.isAgg2
  z2 := Tryz.sizeOf2
  v2 := Tryz.zeroValue2
  t3 := Tryz.underlying3
  a3 := Tryz.isAgg3
  z3 := Tryz.sizeOf3
  v3 := Tryz.zeroValue3
  t4 := Tryz.underlying4
  a4 := Tryz.isAgg4
  z4 := Tryz.sizeOf4
  v4 := Tryz.zeroValue4
  t5 := Tryz.underlying5
  a5 := Tryz.isAgg5
  z5 := Tryz.sizeOf5
  v5 := Tryz.zeroValue5
  t9 := Tryz.underlying9
  a9 := Tryz.isAgg9
  z9 := Tryz.sizeOf9
  v9 := Tryz.zeroValue9
  t20 := Tryz.underlying20
  a20 := Tryz.isAgg20
  z20 := Tryz.sizeOf20
  v20 := Tryz.zeroValue20
  t21 := Tryz.underlying21
  a21 := Tryz.isAgg21
  z21 := Tryz.sizeOf21
  v21 := Tryz.zeroValue21
  t37 := Tryz.underlying167
  a37 := Tryz.isAgg167
  z37 := Tryz.sizeOf167
  v37 := Tryz.zeroValue167
  t46 := Tryz.underlying191
  a46 := Tryz.isAgg191
  z46 := Tryz.sizeOf191
  v46 := Tryz.zeroValue191
  t51 := Tryz.underlying218
  a51 := Tryz.isAgg218
  z51 := Tryz.sizeOf218
  v51 := Tryz.zeroValue218
  t53 := Tryz.underlying163
  a53 := Tryz.isAgg163
  z53 := Tryz.sizeOf163
  v53 := Tryz.zeroValue163
  t75 := Tryz.underlying171
  a75 := Tryz.isAgg171
  z75 := Tryz.sizeOf171
  v75 := Tryz.zeroValue171
  t85 := Tryz.underlying172
  a85 := Tryz.isAgg172
  z85 := Tryz.sizeOf172
  v85 := Tryz.zeroValue172
  t127 := Tryz.underlying205
  a127 := Tryz.isAgg205
  z127 := Tryz.sizeOf205
  v127 := Tryz.zeroValue205
  t143 := Tryz.underlying206
  a143 := Tryz.isAgg206
  z143 := Tryz.sizeOf206
  v143 := Tryz.zeroValue206
  t145 := Tryz.underlying208
  a145 := Tryz.isAgg208
  z145 := Tryz.sizeOf208
  v145 := Tryz.zeroValue208
  t167 := Tryz.underlying188
  a167 := Tryz.isAgg188
  z167 := Tryz.sizeOf188
  v167 := Tryz.zeroValue188
  t168 := Tryz.underlying192
  a168 := Tryz.isAgg192
  z168 := Tryz.sizeOf192
  v168 := Tryz.zeroValue192
  t171 := Tryz.underlying210
  a171 := Tryz.isAgg210
  z171 := Tryz.sizeOf210
  v171 := Tryz.zeroValue210
  t173 := Tryz.underlying213
  a173 := Tryz.isAgg213
  z173 := Tryz.sizeOf213
  v173 := Tryz.zeroValue213
  t175 := Tryz.underlying189
  a175 := Tryz.isAgg189
  z175 := Tryz.sizeOf189
  v175 := Tryz.zeroValue189
  t210 := Tryz.underlying201
  a210 := Tryz.isAgg201
  z210 := Tryz.sizeOf201
  v210 := Tryz.zeroValue201
  t212 := Tryz.underlying217
  a212 := Tryz.isAgg217
  z212 := Tryz.sizeOf217
  v212 := Tryz.zeroValue217
  t213 := Tryz.underlying219
  a213 := Tryz.isAgg219
  z213 := Tryz.sizeOf219
  t232 := Tryz.underlying223
  a232 := Tryz.isAgg223
  z232 := Tryz.sizeOf223
  v232 := Tryz.zeroValue223
  t233 := Tryz.underlying224
  a233 := Tryz.isAgg224
  z233 := Tryz.sizeOf224
  v233 := Tryz.zeroValue224
  g15 := by kernel_rfl
  g16 := by kernel_rfl
  g17 := by kernel_rfl
  g18 := by kernel_rfl
  g19 := by kernel_rfl
  t80 := Tryz.underlying225
  a80 := Tryz.isAgg225
  z80 := Tryz.sizeOf225
  v80 := Tryz.zeroValue225
  i0 := by kernel_rfl
  i2 := by kernel_rfl
  i3 := by kernel_rfl
  i4 := by kernel_rfl
  i5 := by kernel_rfl
  i9 := by kernel_rfl
  i20 := by kernel_rfl
  i21 := by kernel_rfl
  i37 := by kernel_rfl
  i46 := by kernel_rfl
  i51 := by kernel_rfl
  i53 := by kernel_rfl
  i75 := by kernel_rfl
  i80 := by kernel_rfl
  i85 := by kernel_rfl
  i127 := by kernel_rfl
  i143 := by kernel_rfl
  i145 := by kernel_rfl
  i167 := by kernel_rfl
  i168 := by kernel_rfl
  i171 := by kernel_rfl
  i173 := by kernel_rfl
  i175 := by kernel_rfl
  i210 := by kernel_rfl
  i212 := by kernel_rfl
  i232 := by kernel_rfl
  i233 := by kernel_rfl
  m15 := by kernel_rfl
  m16 := by kernel_rfl
  m17 := by kernel_rfl
  m18 := by kernel_rfl
  m19 := by kernel_rfl
  c0 := by kernel_rfl
  c2 := by kernel_rfl
  c3 := by kernel_rfl
  c4 := by kernel_rfl
  c5 := by kernel_rfl
  c9 := by kernel_rfl
  c20 := by kernel_rfl
  c21 := by kernel_rfl
  c37 := by kernel_rfl
  c46 := by kernel_rfl
  c51 := by kernel_rfl
  c53 := by kernel_rfl
  c75 := by kernel_rfl
  c80 := by kernel_rfl
  c85 := by kernel_rfl
  c127 := by kernel_rfl
  c143 := by kernel_rfl
  c145 := by kernel_rfl
  c167 := by kernel_rfl
  c168 := by kernel_rfl
  c171 := by kernel_rfl
  c173 := by kernel_rfl
  c175 := by kernel_rfl
  c210 := by kernel_rfl
  c212 := by kernel_rfl
  c213 := by kernel_rfl
  c232 := by kernel_rfl
  c233 := by kernel_rfl }
open Go.RowKit in
/-- strconv.ParseInt(s, 10, 64), AT EVERY STRING THAT SPELLS AN int64 ('Lib.parseIntB 64 s.data.toList = .ok v'): v, AND NO ERROR. (LAID: no walk: one application.) -/
theorem Tryz.strconv_ParseInt_10_at64_ok (s : ByteArray) (hmax : s.size ≤ 9223372036854775806) (v : Int) (h : Lib.parseIntB 64 s.data.toList = .ok v) (w : World) :
    Calls Tryz.prog 114 #[.string s, .int .i64 10, .int .i64 64] w fun e w' => e = .returned (.tuple #[.int .i64 v, .nilIface]) ∧ (w' = w ∨ ∃ t, w' = Lib.bytesWorld w 5 t) := Any.strconv_ParseInt_10_at64_ok Tryz.laysC174 s hmax v h w
open Go.RowKit in
open Go.RowKit in
theorem Tryz.strconv_ParseInt_10_at64_range_var (s : ByteArray) (hlim : s.size ≤ 281474976710656) (h : Lib.parseIntB 64 s.data.toList = .range) (tp : TypeId) (p : Value) (w : World) (hvar : w.var? Tryz.prog "strconv.ErrRange" = some #[.iface tp p]) :
    Calls Tryz.prog 114 #[.string s, .int .i64 10, .int .i64 64] w fun e w' => ∃ N, e = .returned (.tuple #[.int .i64 (Lib.intSat 64 s.data.toList), .iface 192 (.pointer (some ⟨N, 0, none⟩))]) ∧ w.heap.size ≤ N ∧ w'.heap[N]? = some (.cells #[.string ⟨#[80, 97, 114, 115, 101, 73, 110, 116]⟩, .string s, .iface tp p] 201 (0, 0)) ∧ Below w.heap.size w w' := Any.strconv_ParseInt_10_at64_range_var Tryz.laysC174 s hlim h tp p w hvar
def Tryz.lays99_ren : Go.Shelf.Ren := ⟨fun | 99 => 111 | 206 => 127 | n => n, fun | 9 => 9 | 4 => 4 | 3 => 3 | n => n, fun | n => n⟩
theorem Tryz.lays99 : Go.Proofs.Lays.n99 Tryz.prog Tryz.lays99_ren := {
  mixed := by kernel_rfl
  f99 := Tryz.func111.trans (congrArg some (by kernel_rfl))
  f206 := Tryz.func127.trans (congrArg some (by kernel_rfl))
  t3 := Tryz.underlying3
  a3 := Tryz.isAgg3
  z3 := Tryz.sizeOf3
  v3 := Tryz.zeroValue3
  t4 := Tryz.underlying4
  a4 := Tryz.isAgg4
  z4 := Tryz.sizeOf4
  v4 := Tryz.zeroValue4
  t9 := Tryz.underlying9
  a9 := Tryz.isAgg9
  z9 := Tryz.sizeOf9
  v9 := Tryz.zeroValue9 }
open Go.RowKit Go.Lib in
/-- strings.HasPrefix: "HasPrefix reports whether the string s begins with prefix.": IT RETURNS 'Lib.hasPrefix s prefix'; the world is as it was. (LAID: no walk: one application.) -/
theorem Tryz.strings_HasPrefix (s p : ByteArray) (w : World) :
    Calls Tryz.prog 111 #[.string s, .string p] w fun e w' => e = .returned (.bool (Lib.hasPrefix s.data.toList p.data.toList)) ∧ w' = w := Any.strings_HasPrefix Tryz.lays99 s p w
end Go.Proofs
/- Package lex: its small functions on bytes. -/
namespace Go.Proofs.YtaojalicnnnkmaaGreatDoor
open Go.RowKit

theorem u8_all {f g : UInt8 → Bool} (h : ((List.range 256).all fun n => f (UInt8.ofNat n) == g (UInt8.ofNat n)) = true) (c : UInt8) : f c = g c := by
  have h1 := List.all_eq_true.1 h c.toNat (List.mem_range.2 c.toNat_lt)
  have e : UInt8.ofNat c.toNat = c := by simp
  rw [e] at h1
  exact eq_of_beq h1
theorem small_eq : ∀ c, smallB c = (decide (97 ≤ (c.toNat : Int)) && decide ((c.toNat : Int) ≤ 122)) := u8_all (by decide +kernel)
theorem great_eq : ∀ c, greatB c = ((decide (65 ≤ (c.toNat : Int)) && decide ((c.toNat : Int) ≤ 90)) || ((c.toNat : Int) == 95)) := u8_all (by decide +kernel)
theorem digit_eq : ∀ c, digitB c = (decide (48 ≤ (c.toNat : Int)) && decide ((c.toNat : Int) ≤ 57)) := u8_all (by decide +kernel)
def shownB (c : UInt8) : Bool := decide (32 ≤ c) && decide (c ≤ 126)
theorem shown_eq : ∀ c, shownB c = (decide (32 ≤ (c.toNat : Int)) && decide ((c.toNat : Int) ≤ 126)) := u8_all (by decide +kernel)
def lineB (c : UInt8) : Bool := c != 10
theorem line_eq : ∀ c, lineB c = ((c.toNat : Int) != 10) := u8_all (by decide +kernel)
def soloB (c : UInt8) : Bool := c == 59 || c == 33
def markB (c : UInt8) : Bool := [40, 41, 91, 93, 123, 125, 44, 124].contains c
def amongB (l : List UInt8) (c : UInt8) : Bool := decide (0 ≤ Lib.indexByte l c)
theorem among_blank : ∀ c, amongB [32, 9, 10, 13] c = blankB c := u8_all (by decide +kernel)
theorem among_sym : ∀ c, amongB [43, 45, 42, 47, 92, 94, 60, 62, 61, 126, 58, 46, 63, 64, 35, 38, 36] c = symB c := u8_all (by decide +kernel)
theorem among_solo : ∀ c, amongB [59, 33] c = soloB c := u8_all (by decide +kernel)
theorem among_mark : ∀ c, amongB [40, 41, 91, 93, 123, 125, 44, 124] c = markB c := u8_all (by decide +kernel)

theorem small_any (c : UInt8) (w : World) : Calls Tryz.prog 105 #[.int .u8 c.toNat] w fun e w' => e = .returned (.bool (smallB c)) ∧ w = w' := by
  go_enter Tryz.func105, Tryz.ntmps105
  go_wp2
  all_goals go_ret
  all_goals exact ⟨ret_bool (by rw [small_eq]; simp_all; try omega), rfl⟩
theorem great_any (c : UInt8) (w : World) : Calls Tryz.prog 107 #[.int .u8 c.toNat] w fun e w' => e = .returned (.bool (greatB c)) ∧ w = w' := by
  have hg := great_eq c
  cases h1 : decide (65 ≤ (c.toNat : Int)) <;> cases h2 : decide ((c.toNat : Int) ≤ 90) <;> cases h3 : ((c.toNat : Int) == 95)
  all_goals
    rw [h1, h2, h3] at hg
    have HG := Lib.hid hg
    clear hg
    simp only [decide_eq_true_eq, decide_eq_false_iff_not] at h1 h2
    go_enter Tryz.func107, Tryz.ntmps107
    go_wp2
    go_ret
    exact ⟨ret_bool (by rw [HG.out]; rfl), rfl⟩
theorem digit_any (c : UInt8) (w : World) : Calls Tryz.prog 108 #[.int .u8 c.toNat] w fun e w' => e = .returned (.bool (digitB c)) ∧ w = w' := by
  go_enter Tryz.func108, Tryz.ntmps108
  go_wp2
  all_goals go_ret
  all_goals exact ⟨ret_bool (by rw [digit_eq]; simp_all; try omega), rfl⟩
theorem shown_any (c : UInt8) (w : World) : Calls Tryz.prog 113 #[.int .u8 c.toNat] w fun e w' => e = .returned (.bool (shownB c)) ∧ w = w' := by
  go_enter Tryz.func113, Tryz.ntmps113
  go_wp2
  all_goals go_ret
  all_goals exact ⟨ret_bool (by rw [shown_eq]; simp_all; try omega), rfl⟩
theorem line_any (c : UInt8) (w : World) : Calls Tryz.prog 92 #[.int .u8 c.toNat] w fun e w' => e = .returned (.bool (lineB c)) ∧ w = w' := by
  go_enter Tryz.func92, Tryz.ntmps92
  go_wp2
  all_goals go_ret
  all_goals exact ⟨ret_bool (by rw [line_eq]), rfl⟩
theorem word_any (c : UInt8) (w : World) : Calls Tryz.prog 106 #[.int .u8 c.toNat] w fun e w' => e = .returned (.bool (wordB c)) ∧ w = w' := by
  have hw : wordB c = (smallB c || greatB c || digitB c) := rfl
  have HW := Lib.hid hw
  clear hw
  have A := fun w => small_any c w
  have B := fun w => great_any c w
  have D := fun w => digit_any c w
  generalize smallB c = x at A HW
  generalize greatB c = y at B HW
  generalize digitB c = z at D HW
  cases x
  · cases y
    · go_enter Tryz.func106, Tryz.ntmps106
      go_wp2_with (first | (go_at_call 105; go_fit (A _); rintro e w' ⟨rfl, rfl⟩) | (go_at_call 107; go_fit (B _); rintro e w' ⟨rfl, rfl⟩) | (go_at_call 108; go_fit (D _); rintro e w' ⟨rfl, rfl⟩))
      go_ret
      exact ⟨ret_bool (by rw [HW.out]; rfl), rfl⟩
    · go_enter Tryz.func106, Tryz.ntmps106
      go_wp2_with (first | (go_at_call 105; go_fit (A _); rintro e w' ⟨rfl, rfl⟩) | (go_at_call 107; go_fit (B _); rintro e w' ⟨rfl, rfl⟩) | (go_at_call 108; go_fit (D _); rintro e w' ⟨rfl, rfl⟩))
      go_ret
      exact ⟨ret_bool (by rw [HW.out]; rfl), rfl⟩
  · go_enter Tryz.func106, Tryz.ntmps106
    go_wp2_with (first | (go_at_call 105; go_fit (A _); rintro e w' ⟨rfl, rfl⟩) | (go_at_call 107; go_fit (B _); rintro e w' ⟨rfl, rfl⟩) | (go_at_call 108; go_fit (D _); rintro e w' ⟨rfl, rfl⟩))
    go_ret
    exact ⟨ret_bool (by rw [HW.out]; rfl), rfl⟩
theorem among_any (t : ByteArray) (c : UInt8) (w : World) : Calls Tryz.prog 90 #[.string t, .int .u8 c.toNat] w fun e w' => e = .returned (.bool (amongB (bl t) c)) ∧ w = w' := by
  have I := fun w => (Tryz.strings_IndexByte t c.toNat w)
  have e : (Int.toNat (c.toNat : Int)).toUInt8 = c := by simp
  simp only [e] at I
  have hi : amongB (bl t) c = decide (0 ≤ Lib.indexByte t.data.toList c) := rfl
  have HI := Lib.hid hi
  clear hi
  generalize Lib.indexByte t.data.toList c = z at I HI
  by_cases hz : 0 ≤ z
  all_goals
    go_enter Tryz.func90, Tryz.ntmps90
    go_wp2_with (go_at_call 104; go_fit (I _); rintro e w' ⟨rfl, rfl⟩)
    go_ret
    exact ⟨ret_bool (by rw [HI.out] <;> simp [hz]), rfl⟩
theorem blank_any (c : UInt8) (w : World) : Calls Tryz.prog 90 #[.string ⟨#[32, 9, 10, 13]⟩, .int .u8 c.toNat] w fun e w' => e = .returned (.bool (blankB c)) ∧ w = w' := by
  rw [← among_blank]; exact among_any ⟨#[32, 9, 10, 13]⟩ c w
theorem sym_any (c : UInt8) (w : World) : Calls Tryz.prog 90 #[.string ⟨#[43, 45, 42, 47, 92, 94, 60, 62, 61, 126, 58, 46, 63, 64, 35, 38, 36]⟩, .int .u8 c.toNat] w fun e w' => e = .returned (.bool (symB c)) ∧ w = w' := by
  rw [← among_sym]; exact among_any ⟨#[43, 45, 42, 47, 92, 94, 60, 62, 61, 126, 58, 46, 63, 64, 35, 38, 36]⟩ c w
theorem solo_any (c : UInt8) (w : World) : Calls Tryz.prog 90 #[.string ⟨#[59, 33]⟩, .int .u8 c.toNat] w fun e w' => e = .returned (.bool (soloB c)) ∧ w = w' := by
  rw [← among_solo]; exact among_any ⟨#[59, 33]⟩ c w
theorem mark_any (c : UInt8) (w : World) : Calls Tryz.prog 90 #[.string ⟨#[40, 41, 91, 93, 123, 125, 44, 124]⟩, .int .u8 c.toNat] w fun e w' => e = .returned (.bool (markB c)) ∧ w = w' := by
  rw [← among_mark]; exact among_any ⟨#[40, 41, 91, 93, 123, 125, 44, 124]⟩ c w
theorem prefix_any (s p : ByteArray) (w : World) : Calls Tryz.prog 111 #[.string s, .string p] w fun e w' => e = .returned (.bool (Lib.hasPrefix (bl s) (bl p))) ∧ w = w' :=
  (Tryz.strings_HasPrefix s p w).mono fun _ _ h => ⟨h.1, h.2.symm⟩

/-- How many bytes of a kind stand from a place on. -/
def twK (p : UInt8 → Bool) (l : List UInt8) (k : Nat) : Nat := ((l.drop k).takeWhile p).length
theorem tw_in {p : UInt8 → Bool} {l : List UInt8} {k : Nat} (h : k < l.length) (hp : p l[k] = true) : twK p l k = twK p l (k + 1) + 1 := by
  unfold twK
  rw [List.drop_eq_getElem_cons h, List.takeWhile_cons, if_pos hp]
  rfl
theorem tw_out {p : UInt8 → Bool} {l : List UInt8} {k : Nat} (h : k < l.length) (hp : p l[k] = false) : twK p l k = 0 := by
  unfold twK
  rw [List.drop_eq_getElem_cons h, List.takeWhile_cons, if_neg (by simp [hp])]
  rfl
theorem tw_end {p : UInt8 → Bool} {l : List UInt8} {k : Nat} (h : l.length ≤ k) : twK p l k = 0 := by
  unfold twK
  rw [List.drop_eq_nil_of_le h]; rfl
end Go.Proofs.YtaojalicnnnkmaaGreatDoor
/- Package lex: as many bytes of a kind as follow; what is passed over; the end. -/
namespace Go.Proofs.YtaojalicnnnkmaaGreatDoor
open Go.RowKit

theorem run_word (s : ByteArray) (i : Nat) (w : World) (hi : i ≤ s.size) (hs : s.size ≤ 140737488351232) : Calls Tryz.prog 91 #[.string s, .int .i64 i, .func (.func 106) #[] #[]] w fun e w' => e = .returned (.int .i64 ((i + twK wordB (bl s) i : Nat) : Int)) ∧ w = w' := by
  have hT : ∃ T, i + twK wordB (bl s) i = T := ⟨_, rfl⟩
  obtain ⟨T, hT⟩ := hT
  rw [hT]
  have HT := Lib.hid hT
  clear hT
  go_enter Tryz.func91, Tryz.ntmps91
  go_wp2
  go_loop [1] (fun v => ∃ k : Nat, k ≤ s.size ∧ v = .int .i64 k ∧ k + twK wordB (bl s) k = T) (fun v => s.size - (intOf v).toNat)
  case atStart => exact ⟨i, hi, rfl, HT.out⟩
  case round =>
    obtain ⟨k, hk, rfl, hkT⟩ := hrel
    have HK := Lib.hid hkT
    clear hkT
    by_cases hlt : k < s.size
    · cases hp : wordB s[k]
      · have he := tw_out (l := bl s) (p := wordB) (k := k) hlt hp
        have HE := Lib.hid he
        clear he
        go_wp2_with (go_at_call 106; go_fit (word_any _ _); rintro e w' ⟨rfl, rfl⟩)
        go_ret
        exact ⟨ret_int (by have := HK.out; rw [HE.out] at this; omega), rfl⟩
      · have he := tw_in (l := bl s) (p := wordB) (k := k) hlt hp
        have HE := Lib.hid he
        clear he
        go_wp2_with (go_at_call 106; go_fit (word_any _ _); rintro e w' ⟨rfl, rfl⟩)
        go_round
        case rel => exact ⟨k + 1, by omega, by go_num, by have := HK.out; rw [HE.out] at this; omega⟩
        case measure => simp [intOf]; omega
    · have he := tw_end (l := bl s) (p := wordB) (k := k) (show s.size ≤ k by omega)
      have HE := Lib.hid he
      clear he
      go_wp2
      go_ret
      exact ⟨ret_int (by have := HK.out; rw [HE.out] at this; omega), rfl⟩
theorem run_digit (s : ByteArray) (i : Nat) (w : World) (hi : i ≤ s.size) (hs : s.size ≤ 140737488351232) : Calls Tryz.prog 91 #[.string s, .int .i64 i, .func (.func 108) #[] #[]] w fun e w' => e = .returned (.int .i64 ((i + twK digitB (bl s) i : Nat) : Int)) ∧ w = w' := by
  have hT : ∃ T, i + twK digitB (bl s) i = T := ⟨_, rfl⟩
  obtain ⟨T, hT⟩ := hT
  rw [hT]
  have HT := Lib.hid hT
  clear hT
  go_enter Tryz.func91, Tryz.ntmps91
  go_wp2
  go_loop [1] (fun v => ∃ k : Nat, k ≤ s.size ∧ v = .int .i64 k ∧ k + twK digitB (bl s) k = T) (fun v => s.size - (intOf v).toNat)
  case atStart => exact ⟨i, hi, rfl, HT.out⟩
  case round =>
    obtain ⟨k, hk, rfl, hkT⟩ := hrel
    have HK := Lib.hid hkT
    clear hkT
    by_cases hlt : k < s.size
    · cases hp : digitB s[k]
      · have he := tw_out (l := bl s) (p := digitB) (k := k) hlt hp
        have HE := Lib.hid he
        clear he
        go_wp2_with (go_at_call 108; go_fit (digit_any _ _); rintro e w' ⟨rfl, rfl⟩)
        go_ret
        exact ⟨ret_int (by have := HK.out; rw [HE.out] at this; omega), rfl⟩
      · have he := tw_in (l := bl s) (p := digitB) (k := k) hlt hp
        have HE := Lib.hid he
        clear he
        go_wp2_with (go_at_call 108; go_fit (digit_any _ _); rintro e w' ⟨rfl, rfl⟩)
        go_round
        case rel => exact ⟨k + 1, by omega, by go_num, by have := HK.out; rw [HE.out] at this; omega⟩
        case measure => simp [intOf]; omega
    · have he := tw_end (l := bl s) (p := digitB) (k := k) (show s.size ≤ k by omega)
      have HE := Lib.hid he
      clear he
      go_wp2
      go_ret
      exact ⟨ret_int (by have := HK.out; rw [HE.out] at this; omega), rfl⟩
theorem run_line (s : ByteArray) (i : Nat) (w : World) (hi : i ≤ s.size) (hs : s.size ≤ 140737488351232) : Calls Tryz.prog 91 #[.string s, .int .i64 i, .func (.func 92) #[] #[]] w fun e w' => e = .returned (.int .i64 ((i + twK lineB (bl s) i : Nat) : Int)) ∧ w = w' := by
  have hT : ∃ T, i + twK lineB (bl s) i = T := ⟨_, rfl⟩
  obtain ⟨T, hT⟩ := hT
  rw [hT]
  have HT := Lib.hid hT
  clear hT
  go_enter Tryz.func91, Tryz.ntmps91
  go_wp2
  go_loop [1] (fun v => ∃ k : Nat, k ≤ s.size ∧ v = .int .i64 k ∧ k + twK lineB (bl s) k = T) (fun v => s.size - (intOf v).toNat)
  case atStart => exact ⟨i, hi, rfl, HT.out⟩
  case round =>
    obtain ⟨k, hk, rfl, hkT⟩ := hrel
    have HK := Lib.hid hkT
    clear hkT
    by_cases hlt : k < s.size
    · cases hp : lineB s[k]
      · have he := tw_out (l := bl s) (p := lineB) (k := k) hlt hp
        have HE := Lib.hid he
        clear he
        go_wp2_with (go_at_call 92; go_fit (line_any _ _); rintro e w' ⟨rfl, rfl⟩)
        go_ret
        exact ⟨ret_int (by have := HK.out; rw [HE.out] at this; omega), rfl⟩
      · have he := tw_in (l := bl s) (p := lineB) (k := k) hlt hp
        have HE := Lib.hid he
        clear he
        go_wp2_with (go_at_call 92; go_fit (line_any _ _); rintro e w' ⟨rfl, rfl⟩)
        go_round
        case rel => exact ⟨k + 1, by omega, by go_num, by have := HK.out; rw [HE.out] at this; omega⟩
        case measure => simp [intOf]; omega
    · have he := tw_end (l := bl s) (p := lineB) (k := k) (show s.size ≤ k by omega)
      have HE := Lib.hid he
      clear he
      go_wp2
      go_ret
      exact ⟨ret_int (by have := HK.out; rw [HE.out] at this; omega), rfl⟩

/-- Does a full stop at this place end a term? -/
def endK (l : List UInt8) (i : Nat) : Bool := l[i]? == some 46 && endB (l.drop (i + 1))
theorem endK_at {l : List UInt8} {i : Nat} (h : i < l.length) : endK l i = (l[i] == 46 && endB (l.drop (i + 1))) := by
  unfold endK
  rw [List.getElem?_eq_getElem h]
  rfl
theorem sub_bl (s : ByteArray) (i : Nat) (h : i ≤ s.size) : bl (s.extract i s.size) = (bl s).drop i := by
  simp only [bl, ByteArray.data_extract, Array.toList_extract, List.extract_eq_take_drop]
  rw [List.take_of_length_le (by simp)]
end Go.Proofs.YtaojalicnnnkmaaGreatDoor
