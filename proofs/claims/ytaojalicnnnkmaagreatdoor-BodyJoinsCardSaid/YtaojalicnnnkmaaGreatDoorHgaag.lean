import Derived.Test.YtaojalicnnnkmaaGreatDoorHgaaf
import Derived.Test.YtaojalicnnnkmaaGreatDoorHgaab
import Derived.Laws.ResultCell
import Derived.Test.YtaojalicnnnkmaaGreatDoorHgaaa
import Derived.Shelf.Spec.SlicesGrow
import Derived.Laws.MakeOwn
set_option linter.unusedVariables false
set_option linter.unusedSimpArgs false
/- Operators: place, Good, the one of a name and side, Pre, In. -/
namespace Go.Proofs.YtaojalicnnnkmaaGreatDoor
open Go.Shelf Go.RowKit

theorem Ops.form {w : World} {v : Value} {xs : List O} (h : Ops w v xs) : ∃ a c, v = .slice a xs.length c ∧ xs.length ≤ c ∧ c ≤ maxLen := by
  obtain ⟨a, cap, e, h1, h2, _⟩ := h; exact ⟨a, cap, e, h1, h2⟩
theorem Ops.shape {w : World} {v : Value} {xs : List O} (h : Ops w v xs) (h0 : 0 < xs.length) :
    ∃ b off c, v = .slice (some ⟨b, off, none⟩) xs.length c ∧ xs.length ≤ c ∧ c ≤ maxLen ∧ b < w.heap.size ∧ ∀ (i : Nat) (x : O), xs[i]? = some x → ∀ (j : Nat) (u : Value), (oCells x)[j]? = some u → w.cell? ⟨b, off + (i * 3 + j), none⟩ = some u := by
  obtain ⟨a, cap, rfl, h1, h2, h3⟩ := h
  rcases h3 with rfl | ⟨b, off, rfl, h4, h5⟩
  · simp at h0
  · exact ⟨b, off, cap, rfl, h1, h2, h4, h5⟩

set_option maxHeartbeats 1000000 in
theorem place_walk {w : World} {v : Value} {xs : List O} (h : Ops w v xs) (n : ByteArray) (s : Int) :
    Calls Tryz.prog 75 #[v, .string n, .int .i64 s] w fun e w' => e = .returned (.int .i64 (placeB xs (bl n) s)) ∧ Below w.heap.size w w' := by
  by_cases h0 : 0 < xs.length
  · obtain ⟨b, off, c, rfl, h1, h2, h3, hc⟩ := h.shape h0
    clear h
    have eg : ∀ args w, (callFunc 89 args).run Tryz.prog w = .ok (.enter 89 args) w := enters_of Tryz.func89 (by kernel_rfl) rfl
    have hcon := AnyQ.slices_IndexFunc Tryz.indexOp 3 Tryz.isAgg93 Tryz.sizeOf93 oCells oCells_len (fun y => isAt (bl n) s y) 89 #[.pointer (some ⟨w.heap.size, 0, none⟩), .pointer (some ⟨w.heap.size + 1, 0, none⟩)] eg b off xs.length c xs
      ((w.alloc (.cells #[.string n] 9)).alloc (.cells #[.int .i64 s] 3))
      (fun W y hb => by
        have c1 : W.cell? ⟨w.heap.size, 0, none⟩ = some (.string n) := (hb.cell (p := ⟨w.heap.size, 0, none⟩) (by simp; omega)).trans (by simp)
        have c2 : W.cell? ⟨w.heap.size + 1, 0, none⟩ = some (.int .i64 s) := (hb.cell (p := ⟨w.heap.size + 1, 0, none⟩) (by simp)).trans (by simp)
        refine (pred_walk n s w.heap.size (w.heap.size + 1) (by omega) W c1 c2 (by have := hb.size; simp at this; omega) (by have := hb.size; simp at this; omega) y).mono ?_
        rintro e w' ⟨rfl, hb'⟩
        exact ⟨rfl, hb.trans (hb'.mono hb.size)⟩)
      (Nat.le_refl _) (by unfold maxLen at h2; omega) (by simp; omega)
      (fun j hj i u hi => by
        have hg : xs[j]? = some xs[j]! := by rw [List.getElem!_eq_getElem?_getD, List.getElem?_eq_getElem hj]; rfl
        have := hc j _ hg i u hi
        rw [← Nat.add_assoc] at this
        exact Lib.cell?_alloc_some _ (Lib.cell?_alloc_some _ this))
    rw [List.take_length] at hcon
    change Calls Tryz.prog 88 _ _ (fun e w' => e = .returned (.int .i64 (placeB xs (bl n) s)) ∧ _) at hcon
    clear hc
    generalize placeB xs (bl n) s = r at hcon ⊢
    have HC := Lib.hid hcon; clear hcon
    go_enter Tryz.func75, Tryz.ntmps75
    (go_wp2_with fail; go_fit (HC.out); rintro e w' ⟨rfl, hb'⟩)
    go_wp2
    go_ret
    exact ⟨rfl, Below.trans ((bel1' _ _).trans ((bel1' _ _).mono (by simp))) (hb'.mono (by simp; omega))⟩
  · obtain rfl : xs = [] := List.length_eq_zero_iff.1 (by omega)
    obtain ⟨a, c, rfl, _⟩ := h.form
    have hE : placeB [] (bl n) s = -1 := rfl
    rw [hE]
    have HC := Lib.hid (fun f w => index_none a c f w)
    clear h hE
    simp only [List.length_nil]
    go_enter Tryz.func75, Tryz.ntmps75
    (go_wp2_with fail; go_fit (HC.out _ _); rintro e w' ⟨rfl, rfl⟩)
    go_wp2
    go_ret
    exact ⟨rfl, Below.trans (bel1' _ _) ((bel1' _ _).mono (by simp))⟩
end Go.Proofs.YtaojalicnnnkmaaGreatDoor
/- Operators: Good. -/
namespace Go.Proofs.YtaojalicnnnkmaaGreatDoor
open Go.Shelf Go.RowKit

def okB (pre : List O) (o : O) : Bool := mayB (bl o.n) (bl o.k) o.l && decide (placeB pre (bl o.n) (sideB (bl o.k)) < 0)
def goodB (xs : List O) : Bool := decide (xs.length ≤ 128) && (List.range xs.length).all fun k => okB (xs.take k) xs[k]!
theorem good_no {xs : List O} {k : Nat} {x : O} (hx : xs[k]? = some x) (h : okB (xs.take k) x = false) : goodB xs = false := by
  have hk := (List.getElem?_eq_some_iff.1 hx).1
  have e : xs[k]! = x := by rw [List.getElem!_eq_getElem?_getD, hx]; rfl
  unfold goodB
  rw [Bool.and_eq_false_iff]
  right
  rw [List.all_eq_false]
  exact ⟨k, List.mem_range.2 hk, by rw [e, h]; simp⟩
theorem good_yes {xs : List O} (hl : xs.length ≤ 128) (h : ∀ (k : Nat) (x : O), xs[k]? = some x → okB (xs.take k) x = true) : goodB xs = true := by
  unfold goodB
  rw [Bool.and_eq_true]
  refine ⟨by simpa using hl, List.all_eq_true.2 fun k hk => ?_⟩
  have hk := List.mem_range.1 hk
  have hg : xs[k]? = some xs[k]! := by rw [List.getElem!_eq_getElem?_getD, List.getElem?_eq_getElem hk]; rfl
  exact h k _ hg
theorem Ops.take {w : World} {a : Option Addr} {n c : Nat} {xs : List O} (h : Ops w (.slice a n c) xs) (k : Nat) (hk : k ≤ xs.length) : Ops w (.slice a k c) (xs.take k) := by
  obtain ⟨a', cap', e, h1, h2, h3⟩ := h
  cases e
  refine ⟨a, c, by rw [List.length_take, Nat.min_eq_left hk], by rw [List.length_take]; omega, h2, ?_⟩
  rcases h3 with rfl | ⟨b, off, rfl, hb, hc⟩
  · exact Or.inl (by simp)
  · refine Or.inr ⟨b, off, rfl, hb, fun i x hx j u hu => hc i x ?_ j u hu⟩
    rw [List.getElem?_take] at hx
    split at hx
    · exact hx
    · cases hx
theorem Ops.cells {w : World} {a : Option Addr} {n cap : Nat} {l : List O} (h : Ops w (.slice a n cap) l) {k : Nat} {x : O} (hx : l[k]? = some x) :
    ∃ b off, a = some ⟨b, off, none⟩ ∧ b < w.heap.size ∧ w.cell? ⟨b, off + k * 3, none⟩ = some (.string x.n) ∧ w.cell? ⟨b, off + k * 3 + 1, none⟩ = some (.string x.k) ∧ w.cell? ⟨b, off + k * 3 + 2, none⟩ = some (.int .i64 x.l) := by
  obtain ⟨a', cap', e, h1, h2, h3⟩ := h
  cases e
  rcases h3 with rfl | ⟨b, off, rfl, hb, hc⟩
  · simp at hx
  · exact ⟨b, off, rfl, hb, hc k x hx 0 _ rfl, by rw [Nat.add_assoc]; exact hc k x hx 1 _ rfl, by rw [Nat.add_assoc]; exact hc k x hx 2 _ rfl⟩

set_option maxHeartbeats 400000 in
theorem good_walk {w : World} {v : Value} {xs : List O} (h : Ops w v xs) :
    Calls Tryz.prog 63 #[.agg #[v]] w fun e w' => e = .returned (.bool (goodB xs)) ∧ Below w.heap.size w w' := by
  obtain ⟨a, c, rfl, hl1, hl2⟩ := h.form
  have H := Lib.hid h
  clear h
  unfold maxLen at hl2
  by_cases hbig : 128 < xs.length
  · have hE : goodB xs = false := by
      unfold goodB
      rw [Bool.and_eq_false_iff]
      left
      simpa using hbig
    rw [hE]; clear hE
    have ht : decide ((xs.length : Int) > 128) = true := by simp; omega
    go_enter Tryz.func63, Tryz.ntmps63
    go_wp2
    go_ret
    exact ⟨rfl, bel1' _ _⟩
  have hbig' : xs.length ≤ 128 := by omega
  obtain ⟨r, hr⟩ : ∃ r, goodB xs = r := ⟨_, rfl⟩
  have HR := Lib.hid hr
  rw [hr]
  clear hr
  go_enter Tryz.func63, Tryz.ntmps63
  go_wp2_with fail
  go_loopw [12] (fun i wr => ∃ k : Nat, k ≤ xs.length ∧ i = .int .i64 k ∧ Hid ((∀ (j : Nat) (x : O), j < k → xs[j]? = some x → okB (xs.take j) x = true) ∧ wr.cell? ⟨w.heap.size, 0, none⟩ = some (.slice a xs.length c) ∧ w.heap.size < wr.heap.size ∧ Below w.heap.size w wr)) (fun i _ => xs.length - (intOf i).toNat)
  case atStart => exact ⟨0, by omega, rfl, Lib.hid ⟨fun j x hj => by omega, by simp, by simp, bel1' _ _⟩⟩
  case round =>
    obtain ⟨k, hk, rfl, HB⟩ := hrel
    by_cases hlt : k < xs.length
    · obtain ⟨x, hx⟩ : ∃ x, xs[k]? = some x := ⟨_, List.getElem?_eq_getElem hlt⟩
      obtain ⟨b, off, rfl, hb, d0, d1, d2⟩ := (H.out.ext HB.out.2.2.2).cells hx
      have HT := Lib.hid ((H.out.ext HB.out.2.2.2).take k hk)
      have hkk : (k : Int) < xs.length := by omega
      have HX := Lib.hid hx
      have HO : Hid (okB (xs.take k) x = (mayB (bl x.n) (bl x.k) x.l && decide (placeB (xs.take k) (bl x.n) (sideB (bl x.k)) < 0))) := Lib.hid rfl
      have hpl := fun (wq : World) (hq : Below wr.heap.size wr wq) => place_walk (HT.out.ext hq) x.n (sideB (bl x.k))
      have hmay := may_walk x.n x.k x.l
      have hside := side_walk x.k
      obtain ⟨q, hq⟩ : ∃ q, mayB (bl x.n) (bl x.k) x.l = q := ⟨_, rfl⟩
      obtain ⟨s, hs⟩ : ∃ s, sideB (bl x.k) = s := ⟨_, rfl⟩
      rw [hq] at HO hmay
      rw [hs] at HO hside hpl
      obtain ⟨z, hz⟩ : ∃ z, placeB (xs.take k) (bl x.n) s = z := ⟨_, rfl⟩
      rw [hz] at HO hpl
      have HPL := Lib.hid hpl; have HM := Lib.hid hmay; have HS := Lib.hid hside
      clear hpl hmay hside hq hs hz hx
      rcases x with ⟨yn, yk, yl⟩
      have hc0 := HB.out.2.1
      have hlt0 := HB.out.2.2.1
      have hne : ¬ w.heap.size = wr.heap.size := by omega
      go_wp2_with fail
      obtain ⟨w5, hw5⟩ : ∃ w5, w5 = wr.alloc (.cells #[.string yn, .string yk, .int .i64 yl] 93) := ⟨_, rfl⟩
      rw [← hw5]
      have e0 : w5.cell? ⟨w.heap.size, 0, none⟩ = some (.slice (some ⟨b, off, none⟩) xs.length c) := by rw [hw5]; exact Lib.cell?_alloc_some _ hc0
      have e1 : w5.cell? ⟨wr.heap.size, 0, none⟩ = some (.string yn) := by rw [hw5]; simp
      have e2 : w5.cell? ⟨wr.heap.size, 1, none⟩ = some (.string yk) := by rw [hw5]; simp
      have e3 : w5.cell? ⟨wr.heap.size, 2, none⟩ = some (.int .i64 yl) := by rw [hw5]; simp
      have HB5 : Hid (Below wr.heap.size wr w5) := Lib.hid (by rw [hw5]; exact bel1' _ _)
      have hlt5 : wr.heap.size < w5.heap.size := by rw [hw5]; simp
      clear hc0 d0 d1 d2 hw5
      have hkc : k ≤ c := by omega
      cases q
      · (refine wp_region_class (fun w' => (w'.cell? ⟨w.heap.size, 0, none⟩ = some (.slice (some ⟨b, off, none⟩) xs.length c) ∧ w'.cell? ⟨wr.heap.size, 0, none⟩ = some (.string yn) ∧ w'.cell? ⟨wr.heap.size, 1, none⟩ = some (.string yk) ∧ w'.cell? ⟨wr.heap.size, 2, none⟩ = some (.int .i64 yl)) ∧ Below w5.heap.size w5 w') (by kernel_rfl) (by kernel_rfl) (⟨⟨e0, e1, e2, e3⟩, (Below.refl _ _).drew⟩) ?_; (repeat (first | go_big_quiet_skip | (go_big_quiet_want; refine quiet_of ?_; apply Exists.intro; refine ⟨fun wq hq => ?_, ?_⟩; (focus ((try dsimp only at hq); go_simp; (first | done | with_reducible rfl | ((go_at_call 74; refine (HM.out wq).mono ?_; rintro e w6 ⟨rfl, h6⟩; exact ⟨rfl, ⟨cell_later h6 hq.1.1, cell_later h6 hq.1.2.1, cell_later h6 hq.1.2.2.1, cell_later h6 hq.1.2.2.2⟩, Below.trans hq.2 (h6.mono hq.2.size)⟩)) | fail))); try simp only [Act.put, List.setIfInBounds_toArray, List.set_cons_zero, List.set_cons_succ]; go_big_quiet_on) | fail)); refine wpQuiet_nil ?_; intro wz hz)
        go_wp2
        go_ret
        exact ⟨ret_bool (by rw [← HR.out]; exact (good_no HX.out (by rw [HO.out]; rfl)).symm), Ext.trans' HB.out.2.2.2 (HB5.out.trans (hz.2.mono HB5.out.size))⟩
      · by_cases hz0 : z < 0
        · have hzf : decide (z ≥ 0) = false := by simp; omega
          (refine wp_region_class (fun w' => (w'.cell? ⟨w.heap.size, 0, none⟩ = some (.slice (some ⟨b, off, none⟩) xs.length c) ∧ w'.cell? ⟨wr.heap.size, 0, none⟩ = some (.string yn) ∧ w'.cell? ⟨wr.heap.size, 1, none⟩ = some (.string yk) ∧ w'.cell? ⟨wr.heap.size, 2, none⟩ = some (.int .i64 yl)) ∧ Below w5.heap.size w5 w') (by kernel_rfl) (by kernel_rfl) (⟨⟨e0, e1, e2, e3⟩, (Below.refl _ _).drew⟩) ?_; (repeat (first | go_big_quiet_skip | (go_big_quiet_want; refine quiet_of ?_; apply Exists.intro; refine ⟨fun wq hq => ?_, ?_⟩; (focus ((try dsimp only at hq); go_simp; (first | done | with_reducible rfl | ((first | (go_at_call 74; refine (HM.out wq).mono ?_; rintro e w6 ⟨rfl, h6⟩; exact ⟨rfl, ⟨cell_later h6 hq.1.1, cell_later h6 hq.1.2.1, cell_later h6 hq.1.2.2.1, cell_later h6 hq.1.2.2.2⟩, Below.trans hq.2 (h6.mono hq.2.size)⟩) | (go_at_call 76; refine (HS.out wq).mono ?_; rintro e w6 ⟨rfl, rfl⟩; exact ⟨rfl, hq⟩) | (go_at_call 75; refine (HPL.out wq (HB5.out.trans (hq.2.mono HB5.out.size))).mono ?_; rintro e w6 ⟨rfl, h6⟩; exact ⟨rfl, ⟨cell_later h6 hq.1.1, cell_later h6 hq.1.2.1, cell_later h6 hq.1.2.2.1, cell_later h6 hq.1.2.2.2⟩, Below.trans hq.2 (h6.mono hq.2.size)⟩) | fail)) | fail))); try simp only [Act.put, List.setIfInBounds_toArray, List.set_cons_zero, List.set_cons_succ]; go_big_quiet_on) | fail)); refine wpQuiet_nil ?_; intro wz hz)
          go_wp2
          go_roundw
          case rel => exact ⟨k + 1, by omega, by go_num, Lib.hid ⟨fun j y hj hy => by
            rcases Nat.lt_succ_iff_lt_or_eq.1 hj with h | rfl
            · exact HB.out.1 j y h hy
            · have := HX.out
              rw [hy] at this
              cases this
              rw [HO.out]
              simp [hz0], hz.1.1, Nat.lt_of_lt_of_le (by omega) hz.2.size, Ext.trans' HB.out.2.2.2 (HB5.out.trans (hz.2.mono HB5.out.size))⟩⟩
          case measure => simp [intOf]; omega
        · have hzt : decide (z ≥ 0) = true := by simp; omega
          (refine wp_region_class (fun w' => (w'.cell? ⟨w.heap.size, 0, none⟩ = some (.slice (some ⟨b, off, none⟩) xs.length c) ∧ w'.cell? ⟨wr.heap.size, 0, none⟩ = some (.string yn) ∧ w'.cell? ⟨wr.heap.size, 1, none⟩ = some (.string yk) ∧ w'.cell? ⟨wr.heap.size, 2, none⟩ = some (.int .i64 yl)) ∧ Below w5.heap.size w5 w') (by kernel_rfl) (by kernel_rfl) (⟨⟨e0, e1, e2, e3⟩, (Below.refl _ _).drew⟩) ?_; (repeat (first | go_big_quiet_skip | (go_big_quiet_want; refine quiet_of ?_; apply Exists.intro; refine ⟨fun wq hq => ?_, ?_⟩; (focus ((try dsimp only at hq); go_simp; (first | done | with_reducible rfl | ((first | (go_at_call 74; refine (HM.out wq).mono ?_; rintro e w6 ⟨rfl, h6⟩; exact ⟨rfl, ⟨cell_later h6 hq.1.1, cell_later h6 hq.1.2.1, cell_later h6 hq.1.2.2.1, cell_later h6 hq.1.2.2.2⟩, Below.trans hq.2 (h6.mono hq.2.size)⟩) | (go_at_call 76; refine (HS.out wq).mono ?_; rintro e w6 ⟨rfl, rfl⟩; exact ⟨rfl, hq⟩) | (go_at_call 75; refine (HPL.out wq (HB5.out.trans (hq.2.mono HB5.out.size))).mono ?_; rintro e w6 ⟨rfl, h6⟩; exact ⟨rfl, ⟨cell_later h6 hq.1.1, cell_later h6 hq.1.2.1, cell_later h6 hq.1.2.2.1, cell_later h6 hq.1.2.2.2⟩, Below.trans hq.2 (h6.mono hq.2.size)⟩) | fail)) | fail))); try simp only [Act.put, List.setIfInBounds_toArray, List.set_cons_zero, List.set_cons_succ]; go_big_quiet_on) | fail)); refine wpQuiet_nil ?_; intro wz hz)
          go_wp2
          go_ret
          exact ⟨ret_bool (by rw [← HR.out]; exact (good_no HX.out (by rw [HO.out]; simp [hz0])).symm), Ext.trans' HB.out.2.2.2 (HB5.out.trans (hz.2.mono HB5.out.size))⟩
    · have hkn : k = xs.length := by omega
      have hE : goodB xs = true := good_yes hbig' (fun j x hx => HB.out.1 j x (by rw [hkn]; exact (List.getElem?_eq_some_iff.1 hx).1) hx)
      obtain rfl : r = true := by rw [← HR.out, hE]
      clear hE
      have hkk : ¬ (k : Int) < xs.length := by omega
      go_wp2
      go_ret
      exact ⟨rfl, HB.out.2.2.2⟩
end Go.Proofs.YtaojalicnnnkmaaGreatDoor
/- Operators: the one of a name and side: Pre, In. -/
namespace Go.Proofs.YtaojalicnnnkmaaGreatDoor
open Go.Shelf Go.RowKit

theorem place_cases (xs : List O) (n : List UInt8) (s : Int) :
    (placeB xs n s = -1 ∧ ∀ (j : Nat) (y : O), xs[j]? = some y → isAt n s y = false) ∨
    (∃ (k : Nat) (x : O), placeB xs n s = k ∧ xs[k]? = some x ∧ isAt n s x = true ∧ ∀ (j : Nat) (y : O), j < k → xs[j]? = some y → isAt n s y = false) := by
  suffices h : ∀ (xs : List O) (i : Nat), (Lib.idxByFrom (fun _ y => isAt n s y) default xs i = -1 ∧ ∀ (j : Nat) (y : O), xs[j]? = some y → isAt n s y = false) ∨
      (∃ (k : Nat) (x : O), Lib.idxByFrom (fun _ y => isAt n s y) default xs i = ((i + k : Nat) : Int) ∧ xs[k]? = some x ∧ isAt n s x = true ∧ ∀ (j : Nat) (y : O), j < k → xs[j]? = some y → isAt n s y = false) by
    rcases h xs 0 with h | ⟨k, x, h1, h2⟩
    · exact Or.inl h
    · exact Or.inr ⟨k, x, by rw [Nat.zero_add] at h1; exact h1, h2⟩
  intro xs
  induction xs with
  | nil => intro i; exact Or.inl ⟨rfl, fun j y h => by simp at h⟩
  | cons a r ih =>
    intro i
    cases ha : isAt n s a
    · rcases ih (i + 1) with ⟨h1, h2⟩ | ⟨k, x, h1, h2, h3, h4⟩
      · refine Or.inl ⟨by simp only [Lib.idxByFrom, ha]; exact h1, fun j y hy => ?_⟩
        cases j with
        | zero => simp at hy; rw [← hy]; exact ha
        | succ j => exact h2 j y (by simpa using hy)
      · refine Or.inr ⟨k + 1, x, by simp only [Lib.idxByFrom, ha]; rw [show i + (k + 1) = i + 1 + k by omega]; exact h1, by simpa using h2, h3, fun j y hj hy => ?_⟩
        cases j with
        | zero => simp at hy; rw [← hy]; exact ha
        | succ j => exact h4 j y (by omega) (by simpa using hy)
    · exact Or.inr ⟨0, a, by simp [Lib.idxByFrom, ha], rfl, ha, fun j y hj => by omega⟩

/-- The one of that name and side, of a good table. -/
def oneB (xs : List O) (n : List UInt8) (s : Int) : O × Bool :=
  if decide (placeB xs n s < 0) || !goodB xs then (default, false) else (xs[(placeB xs n s).toNat]!, true)

set_option maxHeartbeats 1000000 in
theorem one_walk {w : World} {v : Value} {xs : List O} (h : Ops w v xs) (n : ByteArray) (s : Int) :
    Calls Tryz.prog 124 #[.agg #[v], .string n, .int .i64 s] w fun e w' => e = .returned (.tuple #[oVal (oneB xs (bl n) s).1, .bool (oneB xs (bl n) s).2]) ∧ Below w.heap.size w w' := by
  obtain ⟨a, c, rfl, hl1, hl2⟩ := h.form
  unfold maxLen at hl2
  have H := Lib.hid h
  have HP := Lib.hid (fun (wq : World) (hq : Below w.heap.size w wq) => place_walk (h.ext hq) n s)
  have HG := Lib.hid (fun (wq : World) (hq : Below w.heap.size w wq) => good_walk (h.ext hq))
  clear h
  rcases place_cases xs (bl n) s with ⟨hm, _⟩ | ⟨k, x, hm, hx, _, _⟩
  · have hE : oneB xs (bl n) s = (default, false) := by unfold oneB; rw [hm]; rfl
    rw [hE]; clear hE
    rw [hm] at HP
    clear hm
    go_enter Tryz.func124, Tryz.ntmps124
    (go_wp2_with fail; go_fit (HP.out _ ((bel1' _ _).trans ((bel1' _ _).mono (by simp)))); rintro e w1 ⟨rfl, hb⟩)
    have c0 : w1.cell? ⟨w.heap.size, 0, none⟩ = some (.slice a xs.length c) := cell_later hb (by simp)
    have c1 : w1.cell? ⟨w.heap.size + 1, 0, none⟩ = some (.string ⟨#[]⟩) := cell_later hb (by simp)
    have c2 : w1.cell? ⟨w.heap.size + 1, 1, none⟩ = some (.string ⟨#[]⟩) := cell_later hb (by simp)
    have c3 : w1.cell? ⟨w.heap.size + 1, 2, none⟩ = some (.int .i64 0) := cell_later hb (by simp)
    have f1 : ∀ j, w1.frozen? ⟨w.heap.size + 1, j, none⟩ = false := fun j => (hb.frozen (p := ⟨w.heap.size + 1, j, none⟩) (by simp)).trans (by simp)
    have hbw : Below w.heap.size w w1 := Below.trans ((bel1' _ _).trans ((bel1' _ _).mono (by simp))) (hb.mono (by simp; omega))
    have HB := Lib.hid hb; clear hb
    have HW := Lib.hid hbw; clear hbw
    go_wp2
    (try simp only [Exit.inBlock, Exit.then])
    refine bodyPost_ret (v := .tuple #[.agg #[.string ⟨#[]⟩, .string ⟨#[]⟩, .int .i64 0], .bool false]) (by rw [results_cell_tmp rfl]; go_simp) rfl ⟨rfl, ?_⟩
    repeat' (first | exact HW.out | refine Below.setCell ?_ (by simp) _)
  · have hk := (List.getElem?_eq_some_iff.1 hx).1
    obtain ⟨b, off, rfl, hbs, d0, d1, d2⟩ := Ops.cells H.out hx
    have hE : oneB xs (bl n) s = if goodB xs then (x, true) else (default, false) := by
      unfold oneB
      rw [hm]
      have h1 : ¬ ((k : Int) < 0) := by omega
      have h2 : xs[(k : Int).toNat]! = x := by rw [Int.toNat_natCast, List.getElem!_eq_getElem?_getD, hx]; rfl
      rw [h2]
      simp only [h1, decide_false, Bool.false_or]
      cases goodB xs <;> rfl
    rw [hE]; clear hE
    rw [hm] at HP
    rcases x with ⟨yn, yk, yl⟩
    simp only at d0 d1 d2
    obtain ⟨g, hg⟩ : ∃ g, goodB xs = g := ⟨_, rfl⟩
    rw [hg] at HG ⊢
    have HD := Lib.hid (And.intro d0 (And.intro d1 d2))
    clear hg hm hx d0 d1 d2
    have hkk : (k : Int) < xs.length := by omega
    have hk0 : ((k : Int) < 0) = False := by simp
    go_enter Tryz.func124, Tryz.ntmps124
    (go_wp2_with fail; go_fit (HP.out _ ((bel1' _ _).trans ((bel1' _ _).mono (by simp)))); rintro e w1 ⟨rfl, hb⟩)
    have c0 : w1.cell? ⟨w.heap.size, 0, none⟩ = some (.slice (some ⟨b, off, none⟩) xs.length c) := cell_later hb (by simp)
    have c1 : w1.cell? ⟨w.heap.size + 1, 0, none⟩ = some (.string ⟨#[]⟩) := cell_later hb (by simp)
    have c2 : w1.cell? ⟨w.heap.size + 1, 1, none⟩ = some (.string ⟨#[]⟩) := cell_later hb (by simp)
    have c3 : w1.cell? ⟨w.heap.size + 1, 2, none⟩ = some (.int .i64 0) := cell_later hb (by simp)
    have f1 : ∀ j, w1.frozen? ⟨w.heap.size + 1, j, none⟩ = false := fun j => (hb.frozen (p := ⟨w.heap.size + 1, j, none⟩) (by simp)).trans (by simp)
    have hbw : Below w.heap.size w w1 := Below.trans ((bel1' _ _).trans ((bel1' _ _).mono (by simp))) (hb.mono (by simp; omega))
    have HB := Lib.hid hb; clear hb
    have HW := Lib.hid hbw; clear hbw
    (go_wp2_with fail; go_fit (HG.out w1 HW.out); rintro e w2 ⟨rfl, hb2⟩)
    have e0 : w2.cell? ⟨w.heap.size, 0, none⟩ = some (.slice (some ⟨b, off, none⟩) xs.length c) := cell_later hb2 c0
    have e1 : w2.cell? ⟨w.heap.size + 1, 0, none⟩ = some (.string ⟨#[]⟩) := cell_later hb2 c1
    have e2 : w2.cell? ⟨w.heap.size + 1, 1, none⟩ = some (.string ⟨#[]⟩) := cell_later hb2 c2
    have e3 : w2.cell? ⟨w.heap.size + 1, 2, none⟩ = some (.int .i64 0) := cell_later hb2 c3
    have f2 : ∀ j, w2.frozen? ⟨w.heap.size + 1, j, none⟩ = false := fun j => (hb2.frozen (p := ⟨w.heap.size + 1, j, none⟩) (by have := HB.out.size; simp at this; simp; omega)).trans (f1 j)
    have HW2 := Lib.hid (Ext.trans' HW.out hb2)
    clear hb2 c0 c1 c2 c3 f1
    cases g
    · go_wp2
      (try simp only [Exit.inBlock, Exit.then])
      refine bodyPost_ret (v := .tuple #[.agg #[.string ⟨#[]⟩, .string ⟨#[]⟩, .int .i64 0], .bool false]) (by rw [results_cell_tmp rfl]; go_simp) rfl ⟨rfl, ?_⟩
      repeat' (first | exact HW2.out | refine Below.setCell ?_ (by simp) _)
    · have d0 : w2.cell? ⟨b, off + k * 3, none⟩ = some (.string yn) := cell_later HW2.out HD.out.1
      have d1 : w2.cell? ⟨b, off + k * 3 + 1, none⟩ = some (.string yk) := cell_later HW2.out HD.out.2.1
      have d2 : w2.cell? ⟨b, off + k * 3 + 2, none⟩ = some (.int .i64 yl) := cell_later HW2.out HD.out.2.2
      go_wp2
      (try simp only [Exit.inBlock, Exit.then])
      refine bodyPost_ret (v := .tuple #[.agg #[.string yn, .string yk, .int .i64 yl], .bool true]) (by rw [results_cell_tmp rfl]; go_simp) rfl ⟨rfl, ?_⟩
      repeat' (first | exact HW2.out | refine Below.setCell ?_ (by simp) _)

theorem pre_walk {w : World} {v : Value} {xs : List O} (h : Ops w v xs) (n : ByteArray) :
    Calls Tryz.prog 118 #[.agg #[v], .string n] w fun e w' => e = .returned (.tuple #[oVal (oneB xs (bl n) 1).1, .bool (oneB xs (bl n) 1).2]) ∧ Below w.heap.size w w' := by
  have HO := Lib.hid (fun (wq : World) (hq : Below w.heap.size w wq) => one_walk (h.ext hq) n 1)
  clear h
  generalize oneB xs (bl n) 1 = r at HO ⊢
  obtain ⟨⟨yn, yk, yl⟩, g⟩ := r
  go_enter Tryz.func118, Tryz.ntmps118
  (go_wp2_with fail; go_fit (HO.out _ ((bel1' _ _).trans ((bel1' _ _).mono (by simp)))); rintro e w1 ⟨rfl, hb⟩)
  have c1 : w1.cell? ⟨w.heap.size + 1, 0, none⟩ = some (.string ⟨#[]⟩) := cell_later hb (by simp)
  have c2 : w1.cell? ⟨w.heap.size + 1, 1, none⟩ = some (.string ⟨#[]⟩) := cell_later hb (by simp)
  have c3 : w1.cell? ⟨w.heap.size + 1, 2, none⟩ = some (.int .i64 0) := cell_later hb (by simp)
  have f1 : ∀ j, w1.frozen? ⟨w.heap.size + 1, j, none⟩ = false := fun j => (hb.frozen (p := ⟨w.heap.size + 1, j, none⟩) (by simp)).trans (by simp)
  have HW : Hid (Below w.heap.size w w1) := Lib.hid (Below.trans ((bel1' _ _).trans ((bel1' _ _).mono (by simp))) (hb.mono (by simp; omega)))
  clear hb
  go_wp2
  (try simp only [Exit.inBlock, Exit.then])
  refine bodyPost_ret (v := .tuple #[.agg #[.string yn, .string yk, .int .i64 yl], .bool g]) (by rw [results_cell_tmp rfl]; go_simp) rfl ⟨rfl, ?_⟩
  repeat' (first | exact HW.out | refine Below.setCell ?_ (by simp) _)
theorem in_walk {w : World} {v : Value} {xs : List O} (h : Ops w v xs) (n : ByteArray) :
    Calls Tryz.prog 100 #[.agg #[v], .string n] w fun e w' => e = .returned (.tuple #[oVal (oneB xs (bl n) 2).1, .bool (oneB xs (bl n) 2).2]) ∧ Below w.heap.size w w' := by
  have HO := Lib.hid (fun (wq : World) (hq : Below w.heap.size w wq) => one_walk (h.ext hq) n 2)
  clear h
  generalize oneB xs (bl n) 2 = r at HO ⊢
  obtain ⟨⟨yn, yk, yl⟩, g⟩ := r
  go_enter Tryz.func100, Tryz.ntmps100
  (go_wp2_with fail; go_fit (HO.out _ ((bel1' _ _).trans ((bel1' _ _).mono (by simp)))); rintro e w1 ⟨rfl, hb⟩)
  have c1 : w1.cell? ⟨w.heap.size + 1, 0, none⟩ = some (.string ⟨#[]⟩) := cell_later hb (by simp)
  have c2 : w1.cell? ⟨w.heap.size + 1, 1, none⟩ = some (.string ⟨#[]⟩) := cell_later hb (by simp)
  have c3 : w1.cell? ⟨w.heap.size + 1, 2, none⟩ = some (.int .i64 0) := cell_later hb (by simp)
  have f1 : ∀ j, w1.frozen? ⟨w.heap.size + 1, j, none⟩ = false := fun j => (hb.frozen (p := ⟨w.heap.size + 1, j, none⟩) (by simp)).trans (by simp)
  have HW : Hid (Below w.heap.size w w1) := Lib.hid (Below.trans ((bel1' _ _).trans ((bel1' _ _).mono (by simp))) (hb.mono (by simp; omega)))
  clear hb
  go_wp2
  (try simp only [Exit.inBlock, Exit.then])
  refine bodyPost_ret (v := .tuple #[.agg #[.string yn, .string yk, .int .i64 yl], .bool g]) (by rw [results_cell_tmp rfl]; go_simp) rfl ⟨rfl, ?_⟩
  repeat' (first | exact HW.out | refine Below.setCell ?_ (by simp) _)
end Go.Proofs.YtaojalicnnnkmaaGreatDoor
/- Operators: slices.Grow and slices.Concat at them. -/
namespace Go.Proofs.YtaojalicnnnkmaaGreatDoor
open Go.Shelf Go.RowKit

theorem flat3_len (L : List O) : (L.flatMap oCells).length = L.length * 3 := by
  induction L with
  | nil => rfl
  | cons a r ih => rw [List.flatMap_cons, List.length_append, ih, oCells_len]; simp; omega
theorem flat3_get : ∀ (L : List O) (i : Nat) (x : O), L[i]? = some x → ∀ j, j < 3 → (L.flatMap oCells)[i * 3 + j]? = (oCells x)[j]?
  | [], i, x, h, _, _ => by simp at h
  | a :: r, 0, x, h, j, hj => by
    simp at h
    subst h
    rw [List.flatMap_cons, List.getElem?_append_left (by rw [oCells_len]; omega)]
    congr 1
    omega
  | a :: r, i + 1, x, h, j, hj => by
    rw [List.flatMap_cons, List.getElem?_append_right (by rw [oCells_len]; omega), oCells_len, show (i + 1) * 3 + j - 3 = i * 3 + j by omega]
    exact flat3_get r i x (by simpa using h) j hj
theorem flat3_at (L : List O) (j : Nat) (u : Value) (h : (L.flatMap oCells)[j]? = some u) : ∃ x, L[j / 3]? = some x ∧ (oCells x)[j % 3]? = some u := by
  have hj := (List.getElem?_eq_some_iff.1 h).1
  rw [flat3_len] at hj
  obtain ⟨x, hx⟩ : ∃ x, L[j / 3]? = some x := ⟨_, List.getElem?_eq_getElem (by omega)⟩
  refine ⟨x, hx, ?_⟩
  rw [← flat3_get L _ x hx (j % 3) (by omega), ← h]
  congr 1
  omega
theorem flat3_one (L : List O) : ∀ u ∈ L.flatMap oCells, u.oneCell' = true := by
  intro u hu
  obtain ⟨x, _, hx⟩ := List.mem_flatMap.1 hu
  simp [oCells] at hx
  rcases hx with rfl | rfl | rfl <;> rfl
/-- What the call owns reads as these. -/
theorem Ops.owned {w : World} {B : Nat} {v : Value} {L : List O} (h : w.ownsRow B 93 3 v L.length (L.flatMap oCells)) : Ops w v L := by
  rcases h.2 with ⟨rfl, h0⟩ | ⟨g, cap, cur, rfl, _, hg, h1, h2, h3, h4⟩
  · obtain rfl := List.length_eq_zero_iff.1 h0
    exact ⟨none, 0, rfl, Nat.le_refl _, Nat.zero_le _, Or.inl rfl⟩
  · refine ⟨_, cap, rfl, h1, h2, Or.inr ⟨g, 0, rfl, (Array.getElem?_eq_some_iff.1 hg).1, fun i x hx j u hu => ?_⟩⟩
    have hj : j < 3 := by have := (List.getElem?_eq_some_iff.1 hu).1; rwa [oCells_len] at this
    have hi := (List.getElem?_eq_some_iff.1 hx).1
    have h5 := flat3_get L i x hx j hj
    rw [← h4, List.getElem?_take, if_pos (by omega), hu] at h5
    rw [Nat.zero_add, World.cell?, hg]
    simpa using h5
theorem Ops.set {w : World} {v : Value} {L : List O} (h : Ops w v L) (a : Addr) (u : Value) (hne : v.ownBlock ≠ some a.block) : Ops (w.setCell a u) v L := by
  obtain ⟨a', cap, rfl, h1, h2, h3⟩ := h
  refine ⟨a', cap, rfl, h1, h2, ?_⟩
  rcases h3 with rfl | ⟨b, off, rfl, hb, hc⟩
  · exact Or.inl rfl
  · refine Or.inr ⟨b, off, rfl, by simpa [World.setCell] using hb, fun i x hx j u' hu => ?_⟩
    rw [World.cell?_of_block (w := w) (Below.heap_setCell w a u b (fun e => hne (by rw [← e]; rfl)))]
    exact hc i x hx j u' hu
theorem Ops.src {w : World} {a : Option Addr} {n c : Nat} {L : List O} (h : Ops w (.slice a n c) L) : n = 0 ∨ ∃ ad, a = some ad ∧ ∀ j u, (L.flatMap oCells)[j]? = some u → w.cell? (ad.add j) = some u := by
  obtain ⟨a', cap', e, h1, h2, h3⟩ := h
  cases e
  rcases h3 with rfl | ⟨b, off, rfl, hb, hc⟩
  · exact Or.inl rfl
  · refine Or.inr ⟨_, rfl, fun j u hu => ?_⟩
    obtain ⟨x, hx, hu'⟩ := flat3_at L j u hu
    rw [add_plain, ← hc _ x hx _ u hu']
    congr 2
    omega

theorem info3 : (Tryz.prog.info? 93).map (fun i => (i.zero, i.size, i.bytes)) = some (some (.agg #[.string ⟨#[]⟩, .string ⟨#[]⟩, .int .i64 0]), 3, 40) := by kernel_rfl
theorem info3_parts : ∃ i, Tryz.prog.info? 93 = some i ∧ i.zero = some (.agg #[.string ⟨#[]⟩, .string ⟨#[]⟩, .int .i64 0]) ∧ i.size = 3 ∧ i.bytes = 40 := by
  have h := info3
  cases hi : Tryz.prog.info? 93 with
  | none => rw [hi] at h; simp at h
  | some i => rw [hi] at h; simp only [Option.map_some, Option.some.injEq, Prod.mk.injEq] at h; exact ⟨i, rfl, h.1, h.2.1, h.2.2⟩

theorem grow_walk (n : Nat) (hn : n ≤ 5000) (w : World) :
    Calls Tryz.prog 67 #[.slice none 0 0, .int .i64 n] w fun e w' => ∃ a c, e = .returned (.slice a 0 c) ∧ w'.ownsRow w.heap.size 93 3 (.slice a 0 c) 0 [] ∧ Below w.heap.size w w' := by
  obtain ⟨i0, hi0, hz0, hs0, hb0⟩ := info3_parts
  by_cases h0 : n = 0
  · subst h0
    have hcon := Any8.slices_Grow_room Tryz.growOp none 0 0 0 w (by omega) (by omega) (by omega) (by omega)
    refine Calls.mono (show Calls Tryz.prog 67 _ _ _ from hcon) ?_
    rintro e w' ⟨rfl, rfl⟩
    exact ⟨none, 0, rfl, ⟨rfl, Or.inl ⟨rfl, rfl⟩⟩, Below.refl _ _⟩
  · have hcon := Any8.slices_Grow_grow Tryz.growOp i0 _ hi0 hz0 (by omega) none 0 0 n [] w (by omega) (by omega) (by rw [hb0]; omega) (by omega) (by simp) (fun _ => rfl) (fun a h => by cases h)
    refine Calls.mono (show Calls Tryz.prog 67 _ _ _ from hcon) ?_
    rintro e w' ⟨rfl, rfl⟩
    refine ⟨_, _, rfl, ⟨rfl, Or.inr ⟨w.heap.size, _, _, rfl, Nat.le_refl _, heap_alloc_new w.drew _, Nat.zero_le _, ?_, ?_, by simp⟩⟩, ((Below.refl _ _).drew).alloc (Nat.le_refl _) _⟩
    · exact grownCap_le_maxLen w _ _ _ (by unfold maxLen; omega)
    · have hge := grownCap_ge w (0 + n) 0 93
      simp only [Array.size_append, size_zeroCells]
      show 0 + (0 + n - 0) * 3 + (grownCap w (0 + n) 0 93 - (0 + n)) * 3 = grownCap w (0 + n) 0 93 * 3
      omega

/-- What the first k hold together. -/
def upto (ps : List (Value × List O)) (k : Nat) : List O := (ps.take k).flatMap (·.2)
theorem upto_succ {ps : List (Value × List O)} {k : Nat} {p : Value × List O} (h : ps[k]? = some p) : upto ps (k + 1) = upto ps k ++ p.2 := by
  unfold upto
  rw [List.take_add_one, h]
  simp
theorem upto_all (ps : List (Value × List O)) {k : Nat} (h : ps.length ≤ k) : upto ps k = ps.flatMap (·.2) := by
  unfold upto
  rw [List.take_of_length_le h]
theorem upto_le (ps : List (Value × List O)) (k : Nat) : (upto ps k).length ≤ (ps.flatMap (·.2)).length := by
  unfold upto
  conv => rhs; rw [← List.take_append_drop k ps, List.flatMap_append, List.length_append]
  omega

theorem own_base {w : World} {B e s n : Nat} {v : Value} {xs : List Value} (h : w.ownsRow B e s v n xs) : ∀ k, v.ownBlock = some k → B ≤ k := fun k hk => by
  rcases h.2 with ⟨rfl, _⟩ | ⟨g, cap, cur, rfl, hg, _⟩
  · simp [Value.ownBlock] at hk
  · simp [Value.ownBlock] at hk
    omega
set_option maxHeartbeats 1000000 in
theorem concat_walk {w : World} {v : Value} {ps : List (Value × List O)} (h : Elems 1 (fun p => [p.1]) w v ps) (hp : ∀ p ∈ ps, Ops w p.1 p.2) (hl : ps.length ≤ 20) (hs : (ps.flatMap (·.2)).length ≤ 5000) :
    Calls Tryz.prog 46 #[v] w fun e w' => ∃ r, e = .returned r ∧ Ops w' r (ps.flatMap (·.2)) ∧ Below w.heap.size w w' ∧ (∀ k, r.ownBlock = some k → w.heap.size ≤ k) := by
  obtain ⟨a, cap, rfl, h1, h2, h3⟩ := h
  have hc : ∀ (k : Nat) (p : Value × List O), ps[k]? = some p → ∃ b off, a = some ⟨b, off, none⟩ ∧ b < w.heap.size ∧ w.cell? ⟨b, off + k, none⟩ = some p.1 := fun k p hk => by
    rcases h3 with rfl | ⟨b, off, rfl, hb, hc⟩
    · simp at hk
    · exact ⟨b, off, rfl, hb, by have := hc k p hk 0 _ rfl; rwa [show off + (k * 1 + 0) = off + k by omega] at this⟩
  have HC := Lib.hid hc; clear hc h3
  have HP := Lib.hid hp; clear hp
  unfold maxLen at h2
  have HS := Lib.hid hs; clear hs
  go_enter Tryz.func46, Tryz.ntmps46
  go_wp2_with fail
  go_loop [3, 11] (fun s i => ∃ k : Nat, k ≤ ps.length ∧ i = .int .i64 k ∧ s = .int .i64 ((upto ps k).length : Nat)) (fun _ i => ps.length - (intOf i).toNat)
  case atStart => exact ⟨0, by omega, rfl, rfl⟩
  case round =>
    obtain ⟨k, hk, rfl, rfl⟩ := hrel
    by_cases hlt : k < ps.length
    · obtain ⟨p, hx⟩ : ∃ p, ps[k]? = some p := ⟨_, List.getElem?_eq_getElem hlt⟩
      obtain ⟨b, off, rfl, hb, d0⟩ := HC.out k p hx
      obtain ⟨pv, pl⟩ := p
      obtain ⟨a1, c1, hpv, hq1, hq2⟩ := Ops.form (HP.out _ (List.mem_of_getElem? hx))
      simp only at hpv d0 hq1 hq2
      subst hpv
      have hm := upto_le ps (k + 1)
      rw [upto_succ hx, List.length_append] at hm
      have hss := HS.out
      simp only at hm
      have HX : Hid ((upto ps (k + 1)).length = (upto ps k).length + pl.length) := Lib.hid (by rw [upto_succ hx, List.length_append])
      obtain ⟨m, hmm⟩ : ∃ m, (upto ps k).length = m := ⟨_, rfl⟩
      rw [hmm] at hm HX ⊢
      have hw : IntKind.i64.wrap ((m : Int) + (pl.length : Int)) = (m : Int) + (pl.length : Int) := by rw [IntKind.wrap_i64]; omega
      have hneg : decide ((m : Int) + (pl.length : Int) < 0) = false := by simp; omega
      clear hmm
      go_wp2_with fail
      exact ⟨⟨k + 1, by omega, by go_num, by rw [HX.out]; push_cast; rfl⟩, by simp [intOf]; omega⟩
    · have hkn : k = ps.length := by omega
      subst hkn
      rw [upto_all ps (Nat.le_refl _)]
      obtain ⟨N, hN⟩ : ∃ N, (ps.flatMap (·.2)).length = N := ⟨_, rfl⟩
      have hNle : N ≤ 5000 := by rw [← hN]; exact HS.out
      rw [hN]
      have HN := Lib.hid hN; clear hN
      (go_wp2_with fail; go_fit (grow_walk N hNle w); rintro e w1 ⟨a1, c1, rfl, hown, hb1⟩)
      obtain ⟨i0, hi0, hz0, hs0, hb0⟩ := info3_parts
      have HO := Lib.hid hown; have HB1 := Lib.hid hb1
      clear hown hb1
      go_wp2_with fail
      go_loopw [6, 27] (fun r i wr => ∃ (k : Nat) (a' : Option Addr) (c' : Nat), k ≤ ps.length ∧ i = .int .i64 k ∧ r = .slice a' (upto ps k).length c' ∧ Hid (wr.ownsRow w.heap.size 93 3 (.slice a' (upto ps k).length c') (upto ps k).length ((upto ps k).flatMap oCells) ∧ Below w.heap.size w wr)) (fun _ i _ => ps.length - (intOf i).toNat)
      case atStart => exact ⟨0, a1, c1, by omega, rfl, rfl, Lib.hid ⟨HO.out, HB1.out⟩⟩
      case round =>
        obtain ⟨k, a2, c2, hk, rfl, rfl, HR⟩ := hrel
        by_cases hlt : k < ps.length
        · obtain ⟨p, hx⟩ : ∃ p, ps[k]? = some p := ⟨_, List.getElem?_eq_getElem hlt⟩
          obtain ⟨b, off, rfl, hb, d0⟩ := HC.out k p hx
          obtain ⟨pv, pl⟩ := p
          have hpo := (HP.out _ (List.mem_of_getElem? hx)).ext HR.out.2
          obtain ⟨a3, c3, hpv, hq1, hq2⟩ := Ops.form hpo
          simp only at hpv d0 hq1 hq2 hpo
          subst hpv
          have d1 : wr.cell? ⟨b, off + k, none⟩ = some (.slice a3 pl.length c3) := cell_later HR.out.2 d0
          have HSC := Lib.hid (Ops.src hpo)
          have hm := upto_le ps (k + 1)
          rw [HN.out, upto_succ hx, List.length_append] at hm
          simp only at hm
          have HX : Hid (upto ps (k + 1) = upto ps k ++ pl) := Lib.hid (by rw [upto_succ hx])
          obtain ⟨L, hL⟩ : ∃ L, upto ps k = L := ⟨_, rfl⟩
          rw [hL] at hm HX HR ⊢
          have HL := Lib.hid hL
          clear hL hx d0 hpo
          obtain ⟨m, hmm⟩ : ∃ m, L.length = m := ⟨_, rfl⟩
          rw [hmm] at hm HR ⊢
          have HM := Lib.hid hmm
          clear hmm
          obtain ⟨n, hnn⟩ : ∃ n, pl.length = n := ⟨_, rfl⟩
          have HPL : Hid ((pl.flatMap oCells).length = n * 3) := Lib.hid (by rw [flat3_len, hnn])
          have HNN := Lib.hid hnn
          rw [hnn] at hm d1 HSC hq1
          clear hnn
          go_wp2_with (first
            | (at_builtin; refine wpList_append_k rfl _ _ 65 rfl w.heap.size 93 i0 (.agg #[.string ⟨#[]⟩, .string ⟨#[]⟩, .int .i64 0]) 3 40 Tryz.underlying65 hi0 hz0 hs0 (by decide) hb0 rfl (.slice a2 m c2) m (L.flatMap oCells) rfl HR.out.1 a3 n c3 (pl.flatMap oCells) rfl HPL.out HSC.out (flat3_one _) (by unfold maxLen; omega) (by omega) HR.out.2.size (m + n) ((L ++ pl).flatMap oCells) rfl (by rw [List.flatMap_append]) ?_; intro a4 c4 w4 hown4 hgrow4 hat4
               have HO4 := Lib.hid hown4
               have HB4 := Lib.hid (HR.out.2.grown hgrow4 HR.out.2.size (own_base HR.out.1))
               clear hown4 hgrow4 hat4)
            | fail)
          exact ⟨⟨k + 1, a4, c4, by omega, by go_num, by rw [HX.out, List.length_append, HM.out, HNN.out], Lib.hid ⟨by rw [HX.out, List.length_append, HM.out, HNN.out]; exact HO4.out, HB4.out⟩⟩, by simp [intOf]; omega⟩
        · have hkk : ¬ (k : Int) < ps.length := by omega
          have HE : Hid (upto ps k = ps.flatMap (·.2)) := Lib.hid (upto_all ps (by omega))
          obtain ⟨m, hmm⟩ : ∃ m, (upto ps k).length = m := ⟨_, rfl⟩
          have HM := Lib.hid hmm
          rw [hmm]
          clear hmm
          go_wp2
          go_ret
          have hfin := HR.out.1
          have hbase := own_base hfin
          rw [HM.out] at hfin hbase
          refine ⟨.slice a2 m c2, rfl, Ops.owned (B := w.heap.size) ?_, HR.out.2, hbase⟩
          rw [← HE.out, HM.out]
          exact hfin
end Go.Proofs.YtaojalicnnnkmaaGreatDoor
/- Operators: alike: a row of them with names that come in. -/
namespace Go.Proofs.YtaojalicnnnkmaaGreatDoor
open Go.Shelf Go.RowKit

theorem strs_laid (w : World) (t : TypeId) (ss : List ByteArray) (n : Nat) (hn : ss.length = n) (h : n ≤ 100000) (hs : ∀ s ∈ ss, s.size ≤ 100000) : Strs (w.alloc (.cells (ss.map Value.string).toArray t)) (.slice (some ⟨w.heap.size, 0, none⟩) n n) ss := by
  subst hn
  refine ⟨_, _, rfl, Nat.le_refl _, by unfold maxLen; omega, by omega, fun s hm => by have := hs s hm; omega, Or.inr ⟨_, _, rfl, by simp, fun i x hx => ?_⟩⟩
  rw [World.cell?_alloc_at _ _ _ _ rfl]
  simp [hx]
theorem row_cell {w : World} {b t : Nat} {cs : Array Value} {fz : Nat × Nat} (h : w.heap[b]? = some (.cells cs t fz)) (i : Nat) : w.cell? ⟨b, i, none⟩ = cs[i]? := by simp [World.cell?, h]
theorem row_froz {w : World} {b t : Nat} {cs : Array Value} (h : w.heap[b]? = some (.cells cs t (0, 0))) (i : Nat) : w.frozen? ⟨b, i, none⟩ = false := by simp [World.frozen?, h]
theorem row_set {w : World} {b t : Nat} {cs : Array Value} (h : w.heap[b]? = some (.cells cs t (0, 0))) (j : Nat) (u : Value) : (w.setCell ⟨b, j, none⟩ u).heap[b]? = some (.cells (cs.setIfInBounds j u) t (0, 0)) := by
  have hb := (Array.getElem?_eq_some_iff.1 h).1
  simp [World.setCell, Array.getElem?_modify, h]
/-- The first of the row are these. -/
def RowAt (w : World) (g n : Nat) (L : List O) : Prop := ∃ cur, w.heap[g]? = some (.cells cur 93 (0, 0)) ∧ cur.size = n * 3 ∧ cur.toList.take (L.length * 3) = L.flatMap oCells
theorem RowAt.next {w : World} {g n : Nat} {L : List O} (h : RowAt w g n L) (hl : L.length < n) (x : O) :
    RowAt (((w.setCell ⟨g, L.length * 3, none⟩ (.string x.n)).setCell ⟨g, L.length * 3 + 1, none⟩ (.string x.k)).setCell ⟨g, L.length * 3 + 2, none⟩ (.int .i64 x.l)) g n (L ++ [x]) := by
  obtain ⟨cur, h1, h2, h3⟩ := h
  refine ⟨_, row_set (row_set (row_set h1 _ _) _ _) _ _, by simp [h2], ?_⟩
  have e : (L ++ [x]).length * 3 = L.length * 3 + 3 := by simp; omega
  rw [e, List.flatMap_append, ← h3]
  apply List.ext_getElem?
  intro i
  have hcs : cur.size = n * 3 := h2
  by_cases hi : i < L.length * 3
  · rw [List.getElem?_take, if_pos (by omega), List.getElem?_append_left (by simp; omega), List.getElem?_take, if_pos hi]
    simp only [Array.getElem?_toList]
    rw [Array.getElem?_setIfInBounds_ne (by omega), Array.getElem?_setIfInBounds_ne (by omega), Array.getElem?_setIfInBounds_ne (by omega)]
  · rw [List.getElem?_take]
    split
    · rename_i hlt
      rw [List.getElem?_append_right (by simp; omega)]
      simp only [Array.getElem?_toList, List.flatMap_cons, List.flatMap_nil, List.append_nil, List.length_take, Array.length_toList]
      rw [Nat.min_eq_left (by omega)]
      have hc : i = L.length * 3 ∨ i = L.length * 3 + 1 ∨ i = L.length * 3 + 2 := by omega
      rcases hc with rfl | rfl | rfl
      · rw [Array.getElem?_setIfInBounds_ne (by omega), Array.getElem?_setIfInBounds_ne (by omega), Array.getElem?_setIfInBounds_self_of_lt (by omega)]
        simp [oCells]
      · rw [Array.getElem?_setIfInBounds_ne (by omega), Array.getElem?_setIfInBounds_self_of_lt (by simp; omega)]
        simp [oCells]
      · rw [Array.getElem?_setIfInBounds_self_of_lt (by simp; omega)]
        simp [oCells]
    · rename_i hge
      symm
      rw [List.getElem?_eq_none]
      simp [oCells_len]
      omega
theorem RowAt.ops {w : World} {g n : Nat} {L : List O} (h : RowAt w g n L) (hl : L.length = n) (hn : n ≤ 100000) : Ops w (.slice (some ⟨g, 0, none⟩) n n) L := by
  obtain ⟨cur, h1, h2, h3⟩ := h
  subst hl
  refine Ops.owned (B := 0) ⟨by rw [flat3_len], Or.inr ⟨g, _, cur, rfl, Nat.zero_le _, h1, Nat.le_refl _, by unfold maxLen; omega, h2, h3⟩⟩

set_option maxHeartbeats 1000000 in
theorem alike_walk {w : World} {v : Value} {names : List ByteArray} (kind : ByteArray) (l : Int) (h : Strs w v names) (hn : names.length ≤ 1000) :
    Calls Tryz.prog 47 #[.string kind, .int .i64 l, v] w fun e w' => ∃ r, e = .returned r ∧ Ops w' r (names.map fun s => (⟨s, kind, l⟩ : O)) ∧ Below w.heap.size w w' := by
  obtain ⟨a, cap, rfl, h1, h2, _, _, h3⟩ := h
  have hc : ∀ (k : Nat) (s : ByteArray), names[k]? = some s → ∃ b off, a = some ⟨b, off, none⟩ ∧ b < w.heap.size ∧ w.cell? ⟨b, off + k, none⟩ = some (.string s) := fun k s hk => by
    rcases h3 with rfl | ⟨b, off, rfl, hb, hc⟩
    · simp at hk
    · exact ⟨b, off, rfl, hb, hc k s hk⟩
  have HC := Lib.hid hc; clear hc h3
  unfold maxLen at h2
  obtain ⟨i0, hi0, hz0, hs0, hb0⟩ := info3_parts
  obtain ⟨n, hnn⟩ : ∃ n, names.length = n := ⟨_, rfl⟩
  rw [hnn] at hn h1 ⊢
  have HN := Lib.hid hnn
  clear hnn
  have hmk := fun (w : World) => run_make (P := Tryz.prog) w 65 93 i0 _ Tryz.underlying65 hi0 hz0 .i64 .i64 (n : Int) (n : Int) (by omega) (Int.le_refl _) (by rw [hb0]; omega) (by omega)
  rw [Int.toNat_natCast, hs0] at hmk
  obtain ⟨Z, hZ⟩ : ∃ Z, madeCells (Value.agg #[.string ⟨#[]⟩, .string ⟨#[]⟩, .int .i64 0]).cells (n * 3) = Z := ⟨_, rfl⟩
  have HZ : Hid (Z.size = n * 3) := Lib.hid (by rw [← hZ, size_madeCells])
  rw [hZ] at hmk
  clear hZ
  have HW : Hid (RowAt (w.alloc (.cells Z 93)) w.heap.size n []) := Lib.hid ⟨Z, heap_alloc_new w _, HZ.out, by simp⟩
  go_enter Tryz.func47, Tryz.ntmps47
  go_wp2_with fail
  go_loopw [15] (fun i wr => ∃ k : Nat, k ≤ n ∧ i = .int .i64 k ∧ Hid (RowAt wr w.heap.size n ((names.take k).map fun s => (⟨s, kind, l⟩ : O)) ∧ Below w.heap.size w wr)) (fun i _ => n - (intOf i).toNat)
  case atStart => exact ⟨0, by omega, rfl, Lib.hid ⟨by simpa using HW.out, bel1' _ _⟩⟩
  case round =>
    obtain ⟨k, hk, rfl, HR⟩ := hrel
    by_cases hlt : k < n
    · obtain ⟨s, hx⟩ : ∃ s, names[k]? = some s := ⟨_, List.getElem?_eq_getElem (by rw [HN.out]; exact hlt)⟩
      obtain ⟨b, off, rfl, hb, d0⟩ := HC.out k s hx
      have d1 : wr.cell? ⟨b, off + k, none⟩ = some (.string s) := cell_later HR.out.2 d0
      clear d0
      have hL : ((names.take k).map fun s => (⟨s, kind, l⟩ : O)).length = k := by
        have := HN.out
        simp
        omega
      have HNX := HR.out.1.next (by rw [hL]; exact hlt) ⟨s, kind, l⟩
      rw [hL] at HNX
      have HX := Lib.hid HNX
      have HT : Hid ((names.take (k + 1)).map (fun s => (⟨s, kind, l⟩ : O)) = (names.take k).map (fun s => (⟨s, kind, l⟩ : O)) ++ [⟨s, kind, l⟩]) := Lib.hid (by rw [List.take_add_one, hx]; simp)
      obtain ⟨cur, hcur, hsz, _⟩ := HR.out.1
      have c0 : wr.cell? ⟨w.heap.size, k * 3, none⟩ = some (cur[k * 3]'(by omega)) := by rw [row_cell hcur]; exact Array.getElem?_eq_getElem _
      have c1 : wr.cell? ⟨w.heap.size, k * 3 + 1, none⟩ = some (cur[k * 3 + 1]'(by omega)) := by rw [row_cell hcur]; exact Array.getElem?_eq_getElem _
      have c2 : wr.cell? ⟨w.heap.size, k * 3 + 2, none⟩ = some (cur[k * 3 + 2]'(by omega)) := by rw [row_cell hcur]; exact Array.getElem?_eq_getElem _
      have f0 : ∀ j, wr.frozen? ⟨w.heap.size, j, none⟩ = false := fun j => row_froz hcur j
      generalize cur[k * 3]'(by omega) = x0 at c0
      generalize cur[k * 3 + 1]'(by omega) = x1 at c1
      generalize cur[k * 3 + 2]'(by omega) = x2 at c2
      clear HNX hL hx hcur hsz
      go_wp2_with fail
      exact ⟨⟨k + 1, by omega, by go_num, Lib.hid ⟨by rw [HT.out]; exact HX.out, ((HR.out.2.setCell (Nat.le_refl _) _).setCell (Nat.le_refl _) _).setCell (Nat.le_refl _) _⟩⟩, by simp [intOf]; omega⟩
    · have hkk : ¬ (k : Int) < n := by omega
      go_wp2
      go_ret
      refine ⟨_, rfl, ?_, HR.out.2⟩
      have := HR.out.1
      rw [List.take_of_length_le (by rw [HN.out]; omega)] at this
      exact this.ops (by rw [List.length_map, HN.out]) (by omega)
end Go.Proofs.YtaojalicnnnkmaaGreatDoor
