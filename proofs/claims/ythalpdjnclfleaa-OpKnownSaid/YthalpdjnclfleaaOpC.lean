/- Operators: Good. -/
import Derived.Test.YthalpdjnclfleaaOpB
import Derived.Test.YthalpdjnclfleaaQ
namespace Go.Proofs.Ythalpdjnclfleaa
open Go.Shelf Go.RowKit

def okB (pre : List O) (o : O) : Bool := mayB (bl o.n) (bl o.k) o.l && decide (placeB pre (bl o.n) (sideB (bl o.k)) < 0)
def goodB (xs : List O) : Bool := decide (xs.length ≤ 128) && (List.range xs.length).all fun k => okB (xs.take k) xs[k]!
theorem good_no {xs : List O} {k : Nat} {x : O} (hx : xs[k]? = some x) (h : okB (xs.take k) x = false) : goodB xs = false := by
  have hk := (List.getElem?_eq_some_iff.1 hx).1
  have e : xs[k]! = x := by rw [List.getElem!_eq_getElem?_getD, hx]; rfl
  unfold goodB
  rw [Bool.and_eq_false_iff]
  right
  rw [List.all_eq_false]
  exact ⟨k, List.mem_range.2 hk, by rw [e, h]; simp⟩
theorem good_yes {xs : List O} (hl : xs.length ≤ 128) (h : ∀ (k : Nat) (x : O), xs[k]? = some x → okB (xs.take k) x = true) : goodB xs = true := by
  unfold goodB
  rw [Bool.and_eq_true]
  refine ⟨by simpa using hl, List.all_eq_true.2 fun k hk => ?_⟩
  have hk := List.mem_range.1 hk
  have hg : xs[k]? = some xs[k]! := by rw [List.getElem!_eq_getElem?_getD, List.getElem?_eq_getElem hk]; rfl
  exact h k _ hg
theorem Ops.take {w : World} {a : Option Addr} {n c : Nat} {xs : List O} (h : Ops w (.slice a n c) xs) (k : Nat) (hk : k ≤ xs.length) : Ops w (.slice a k c) (xs.take k) := by
  obtain ⟨a', cap', e, h1, h2, h3⟩ := h
  cases e
  refine ⟨a, c, by rw [List.length_take, Nat.min_eq_left hk], by rw [List.length_take]; omega, h2, ?_⟩
  rcases h3 with rfl | ⟨b, off, rfl, hb, hc⟩
  · exact Or.inl (by simp)
  · refine Or.inr ⟨b, off, rfl, hb, fun i x hx j u hu => hc i x ?_ j u hu⟩
    rw [List.getElem?_take] at hx
    split at hx
    · exact hx
    · cases hx
theorem Ops.cells {w : World} {a : Option Addr} {n cap : Nat} {l : List O} (h : Ops w (.slice a n cap) l) {k : Nat} {x : O} (hx : l[k]? = some x) :
    ∃ b off, a = some ⟨b, off, none⟩ ∧ b < w.heap.size ∧ w.cell? ⟨b, off + k * 3, none⟩ = some (.string x.n) ∧ w.cell? ⟨b, off + k * 3 + 1, none⟩ = some (.string x.k) ∧ w.cell? ⟨b, off + k * 3 + 2, none⟩ = some (.int .i64 x.l) := by
  obtain ⟨a', cap', e, h1, h2, h3⟩ := h
  cases e
  rcases h3 with rfl | ⟨b, off, rfl, hb, hc⟩
  · simp at hx
  · exact ⟨b, off, rfl, hb, hc k x hx 0 _ rfl, by rw [Nat.add_assoc]; exact hc k x hx 1 _ rfl, by rw [Nat.add_assoc]; exact hc k x hx 2 _ rfl⟩

set_option maxHeartbeats 400000 in
theorem good_walk {w : World} {v : Value} {xs : List O} (h : Ops w v xs) :
    Calls Try.prog 20 #[.agg #[v]] w fun e w' => e = .returned (.bool (goodB xs)) ∧ Below w.heap.size w w' := by
  obtain ⟨a, c, rfl, hl1, hl2⟩ := h.form
  have H := Lib.hid h
  clear h
  unfold maxLen at hl2
  by_cases hbig : 128 < xs.length
  · have hE : goodB xs = false := by
      unfold goodB
      rw [Bool.and_eq_false_iff]
      left
      simpa using hbig
    rw [hE]; clear hE
    have ht : decide ((xs.length : Int) > 128) = true := by simp; omega
    go_enter Try.func20, Try.ntmps20
    go_wp2
    go_ret
    exact ⟨rfl, bel1' _ _⟩
  have hbig' : xs.length ≤ 128 := by omega
  obtain ⟨r, hr⟩ : ∃ r, goodB xs = r := ⟨_, rfl⟩
  have HR := Lib.hid hr
  rw [hr]
  clear hr
  go_enter Try.func20, Try.ntmps20
  go_wp2_with fail
  go_loopw [12] (fun i wr => ∃ k : Nat, k ≤ xs.length ∧ i = .int .i64 k ∧ Hid ((∀ (j : Nat) (x : O), j < k → xs[j]? = some x → okB (xs.take j) x = true) ∧ wr.cell? ⟨w.heap.size, 0, none⟩ = some (.slice a xs.length c) ∧ w.heap.size < wr.heap.size ∧ Below w.heap.size w wr)) (fun i _ => xs.length - (intOf i).toNat)
  case atStart => exact ⟨0, by omega, rfl, Lib.hid ⟨fun j x hj => by omega, by simp, by simp, bel1' _ _⟩⟩
  case round =>
    obtain ⟨k, hk, rfl, HB⟩ := hrel
    by_cases hlt : k < xs.length
    · obtain ⟨x, hx⟩ : ∃ x, xs[k]? = some x := ⟨_, List.getElem?_eq_getElem hlt⟩
      obtain ⟨b, off, rfl, hb, d0, d1, d2⟩ := (H.out.ext HB.out.2.2.2).cells hx
      have HT := Lib.hid ((H.out.ext HB.out.2.2.2).take k hk)
      have hkk : (k : Int) < xs.length := by omega
      have HX := Lib.hid hx
      have HO : Hid (okB (xs.take k) x = (mayB (bl x.n) (bl x.k) x.l && decide (placeB (xs.take k) (bl x.n) (sideB (bl x.k)) < 0))) := Lib.hid rfl
      have hpl := fun (wq : World) (hq : Below wr.heap.size wr wq) => place_walk (HT.out.ext hq) x.n (sideB (bl x.k))
      have hmay := may_walk x.n x.k x.l
      have hside := side_walk x.k
      obtain ⟨q, hq⟩ : ∃ q, mayB (bl x.n) (bl x.k) x.l = q := ⟨_, rfl⟩
      obtain ⟨s, hs⟩ : ∃ s, sideB (bl x.k) = s := ⟨_, rfl⟩
      rw [hq] at HO hmay
      rw [hs] at HO hside hpl
      obtain ⟨z, hz⟩ : ∃ z, placeB (xs.take k) (bl x.n) s = z := ⟨_, rfl⟩
      rw [hz] at HO hpl
      have HPL := Lib.hid hpl; have HM := Lib.hid hmay; have HS := Lib.hid hside
      clear hpl hmay hside hq hs hz hx
      rcases x with ⟨yn, yk, yl⟩
      have hc0 := HB.out.2.1
      have hlt0 := HB.out.2.2.1
      have hne : ¬ w.heap.size = wr.heap.size := by omega
      go_wp2_with fail
      obtain ⟨w5, hw5⟩ : ∃ w5, w5 = wr.alloc (.cells #[.string yn, .string yk, .int .i64 yl] 28) := ⟨_, rfl⟩
      rw [← hw5]
      have e0 : w5.cell? ⟨w.heap.size, 0, none⟩ = some (.slice (some ⟨b, off, none⟩) xs.length c) := by rw [hw5]; exact Lib.cell?_alloc_some _ hc0
      have e1 : w5.cell? ⟨wr.heap.size, 0, none⟩ = some (.string yn) := by rw [hw5]; simp
      have e2 : w5.cell? ⟨wr.heap.size, 1, none⟩ = some (.string yk) := by rw [hw5]; simp
      have e3 : w5.cell? ⟨wr.heap.size, 2, none⟩ = some (.int .i64 yl) := by rw [hw5]; simp
      have HB5 : Hid (Below wr.heap.size wr w5) := Lib.hid (by rw [hw5]; exact bel1' _ _)
      have hlt5 : wr.heap.size < w5.heap.size := by rw [hw5]; simp
      clear hc0 d0 d1 d2 hw5
      have hkc : k ≤ c := by omega
      cases q
      · (refine wp_region_class (fun w' => (w'.cell? ⟨w.heap.size, 0, none⟩ = some (.slice (some ⟨b, off, none⟩) xs.length c) ∧ w'.cell? ⟨wr.heap.size, 0, none⟩ = some (.string yn) ∧ w'.cell? ⟨wr.heap.size, 1, none⟩ = some (.string yk) ∧ w'.cell? ⟨wr.heap.size, 2, none⟩ = some (.int .i64 yl)) ∧ Below w5.heap.size w5 w') (by kernel_rfl) (by kernel_rfl) (⟨⟨e0, e1, e2, e3⟩, (Below.refl _ _).drew⟩) ?_; (repeat (first | go_big_quiet_skip | (go_big_quiet_want; refine quiet_of ?_; apply Exists.intro; refine ⟨fun wq hq => ?_, ?_⟩; (focus ((try dsimp only at hq); go_simp; (first | done | with_reducible rfl | ((go_at_call 29; refine (HM.out wq).mono ?_; rintro e w6 ⟨rfl, h6⟩; exact ⟨rfl, ⟨cell_later h6 hq.1.1, cell_later h6 hq.1.2.1, cell_later h6 hq.1.2.2.1, cell_later h6 hq.1.2.2.2⟩, Below.trans hq.2 (h6.mono hq.2.size)⟩)) | fail))); try simp only [Act.put, List.setIfInBounds_toArray, List.set_cons_zero, List.set_cons_succ]; go_big_quiet_on) | fail)); refine wpQuiet_nil ?_; intro wz hz)
        go_wp2
        go_ret
        exact ⟨ret_bool (by rw [← HR.out]; exact (good_no HX.out (by rw [HO.out]; rfl)).symm), Ext.trans' HB.out.2.2.2 (HB5.out.trans (hz.2.mono HB5.out.size))⟩
      · by_cases hz0 : z < 0
        · have hzf : decide (z ≥ 0) = false := by simp; omega
          (refine wp_region_class (fun w' => (w'.cell? ⟨w.heap.size, 0, none⟩ = some (.slice (some ⟨b, off, none⟩) xs.length c) ∧ w'.cell? ⟨wr.heap.size, 0, none⟩ = some (.string yn) ∧ w'.cell? ⟨wr.heap.size, 1, none⟩ = some (.string yk) ∧ w'.cell? ⟨wr.heap.size, 2, none⟩ = some (.int .i64 yl)) ∧ Below w5.heap.size w5 w') (by kernel_rfl) (by kernel_rfl) (⟨⟨e0, e1, e2, e3⟩, (Below.refl _ _).drew⟩) ?_; (repeat (first | go_big_quiet_skip | (go_big_quiet_want; refine quiet_of ?_; apply Exists.intro; refine ⟨fun wq hq => ?_, ?_⟩; (focus ((try dsimp only at hq); go_simp; (first | done | with_reducible rfl | ((first | (go_at_call 29; refine (HM.out wq).mono ?_; rintro e w6 ⟨rfl, h6⟩; exact ⟨rfl, ⟨cell_later h6 hq.1.1, cell_later h6 hq.1.2.1, cell_later h6 hq.1.2.2.1, cell_later h6 hq.1.2.2.2⟩, Below.trans hq.2 (h6.mono hq.2.size)⟩) | (go_at_call 26; refine (HS.out wq).mono ?_; rintro e w6 ⟨rfl, rfl⟩; exact ⟨rfl, hq⟩) | (go_at_call 25; refine (HPL.out wq (HB5.out.trans (hq.2.mono HB5.out.size))).mono ?_; rintro e w6 ⟨rfl, h6⟩; exact ⟨rfl, ⟨cell_later h6 hq.1.1, cell_later h6 hq.1.2.1, cell_later h6 hq.1.2.2.1, cell_later h6 hq.1.2.2.2⟩, Below.trans hq.2 (h6.mono hq.2.size)⟩) | fail)) | fail))); try simp only [Act.put, List.setIfInBounds_toArray, List.set_cons_zero, List.set_cons_succ]; go_big_quiet_on) | fail)); refine wpQuiet_nil ?_; intro wz hz)
          go_wp2
          go_roundw
          case rel => exact ⟨k + 1, by omega, by go_num, Lib.hid ⟨fun j y hj hy => by
            rcases Nat.lt_succ_iff_lt_or_eq.1 hj with h | rfl
            · exact HB.out.1 j y h hy
            · have := HX.out
              rw [hy] at this
              cases this
              rw [HO.out]
              simp [hz0], hz.1.1, Nat.lt_of_lt_of_le (by omega) hz.2.size, Ext.trans' HB.out.2.2.2 (HB5.out.trans (hz.2.mono HB5.out.size))⟩⟩
          case measure => simp [intOf]; omega
        · have hzt : decide (z ≥ 0) = true := by simp; omega
          (refine wp_region_class (fun w' => (w'.cell? ⟨w.heap.size, 0, none⟩ = some (.slice (some ⟨b, off, none⟩) xs.length c) ∧ w'.cell? ⟨wr.heap.size, 0, none⟩ = some (.string yn) ∧ w'.cell? ⟨wr.heap.size, 1, none⟩ = some (.string yk) ∧ w'.cell? ⟨wr.heap.size, 2, none⟩ = some (.int .i64 yl)) ∧ Below w5.heap.size w5 w') (by kernel_rfl) (by kernel_rfl) (⟨⟨e0, e1, e2, e3⟩, (Below.refl _ _).drew⟩) ?_; (repeat (first | go_big_quiet_skip | (go_big_quiet_want; refine quiet_of ?_; apply Exists.intro; refine ⟨fun wq hq => ?_, ?_⟩; (focus ((try dsimp only at hq); go_simp; (first | done | with_reducible rfl | ((first | (go_at_call 29; refine (HM.out wq).mono ?_; rintro e w6 ⟨rfl, h6⟩; exact ⟨rfl, ⟨cell_later h6 hq.1.1, cell_later h6 hq.1.2.1, cell_later h6 hq.1.2.2.1, cell_later h6 hq.1.2.2.2⟩, Below.trans hq.2 (h6.mono hq.2.size)⟩) | (go_at_call 26; refine (HS.out wq).mono ?_; rintro e w6 ⟨rfl, rfl⟩; exact ⟨rfl, hq⟩) | (go_at_call 25; refine (HPL.out wq (HB5.out.trans (hq.2.mono HB5.out.size))).mono ?_; rintro e w6 ⟨rfl, h6⟩; exact ⟨rfl, ⟨cell_later h6 hq.1.1, cell_later h6 hq.1.2.1, cell_later h6 hq.1.2.2.1, cell_later h6 hq.1.2.2.2⟩, Below.trans hq.2 (h6.mono hq.2.size)⟩) | fail)) | fail))); try simp only [Act.put, List.setIfInBounds_toArray, List.set_cons_zero, List.set_cons_succ]; go_big_quiet_on) | fail)); refine wpQuiet_nil ?_; intro wz hz)
          go_wp2
          go_ret
          exact ⟨ret_bool (by rw [← HR.out]; exact (good_no HX.out (by rw [HO.out]; simp [hz0])).symm), Ext.trans' HB.out.2.2.2 (HB5.out.trans (hz.2.mono HB5.out.size))⟩
    · have hkn : k = xs.length := by omega
      have hE : goodB xs = true := good_yes hbig' (fun j x hx => HB.out.1 j x (by rw [hkn]; exact (List.getElem?_eq_some_iff.1 hx).1) hx)
      obtain rfl : r = true := by rw [← HR.out, hE]
      clear hE
      have hkk : ¬ (k : Int) < xs.length := by omega
      go_wp2
      go_ret
      exact ⟨rfl, HB.out.2.2.2⟩
end Go.Proofs.Ythalpdjnclfleaa
