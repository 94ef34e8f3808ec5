import Derived.Test.YtjhoekhfikcanaaHoqac
import Derived.Test.YtjhoekhfikcanaaHoqal
import Derived.Test.YtjhoekhfikcanaaHoqag
set_option linter.unusedVariables false
set_option linter.unusedSimpArgs false
/- Stage 10's laws: their own copy of a term. -/
namespace Go.Proofs.Ytjhoekhfikcanaa
open Go.RowKit
set_option linter.unusedVariables false

set_option maxRecDepth 100000 in
set_option maxHeartbeats 8000000 in
theorem own10_step (N : Nat) (ih : ∀ t, sizeN t < N → ∀ (D : Nat → Bool) (w : World) (v : Value), Old D w → TmV w t v → Calls Try.prog 22 #[v] w fun e w' => ∃ v', e = .returned v' ∧ TmV (hide D w') t v' ∧ Below w.heap.size w w')
    (t : Tm) (ht : sizeN t < N + 1) (D : Nat → Bool) (w : World) (v : Value) (hD : Old D w) (hv : TmV w t v) :
    Calls Try.prog 22 #[v] w fun e w' => ∃ v', e = .returned v' ∧ TmV (hide D w') t v' ∧ Below w.heap.size w w' := by
  cases t with
  | mk k n s ts =>
  obtain ⟨u, rfl, hs, hk64, hn64, hu⟩ := tmV_iff.1 hv
  obtain ⟨au, cu, rfl, hu1, hu2, hu3⟩ := hu.len
  obtain ⟨m, hm⟩ : ∃ m, ts.length = m := ⟨_, rfl⟩
  rw [hm] at hu hu1 hu3
  rw [hm]
  unfold BIG at hu3
  unfold maxLen at hu2
  obtain ⟨w1, hw1, hb1, hz1, hx1⟩ := box_new w #[.int .i64 k, .int .i64 n, .string s, .slice au m cu] 31
  obtain ⟨w2, hw2, hb2, hz2, hx2⟩ := box_new w1 #[.int .i64 0, .int .i64 0, .string ⟨#[]⟩, .slice none 0 0] 48
  obtain ⟨w3, hw3, hb3, hz3, hx3⟩ := box_new w2 #[.int .i64 k, .int .i64 n, .string s, .slice none 0 0] 48
  have hB3 := Ext.trans' (Ext.trans' hb1 hb2) hb3
  have hBB := (hb1.size)
  have hRR : w.heap.size ≤ w2.heap.size := Nat.le_trans hb1.size hb2.size
  have HT3 := Lib.hid ((Turn.into (D := D) (M := noM) (Ext.trans' hb1 hb2) hBB).trans (Turn.into (M := noM) hb3 (Nat.le_refl _)))
  have HO3 := Lib.hid (((okd_no hD).box (Ext.trans' hb1 hb2).size hx2.lt).box hb3.size hx3.lt)
  obtain ⟨y0, y1, y2, y3, yf⟩ := (hx1.ext hb2).four
  have HX1 := Lib.hid ((hx1.ext hb2).ext hb3)
  have HX2 := Lib.hid (hx2.ext hb3)
  have HX3 := Lib.hid hx3
  have HU := Lib.hid hu
  have HM := Lib.hid hm
  have HD := Lib.hid hD
  have HSZ := Lib.hid (show ∀ x ∈ ts, sizeN x < N from fun x hx => by have := sizes_mem hx; rw [sizeN] at ht; omega)
  have HIH := Lib.hid ih
  have HK := Lib.hid (And.intro hs (And.intro hk64 hn64))
  obtain ⟨i0, hi0, hz0, hs0, hb0⟩ := info_parts infoTermR
  have h12 : w.heap.size ≠ w1.heap.size := by omega
  have h13 : w.heap.size ≠ w2.heap.size := by omega
  have h23 : w1.heap.size ≠ w2.heap.size := by omega
  have hR : w.heap.size ≤ w2.heap.size := hRR
  have h23w : w2.heap.size < w3.heap.size := by omega
  have h13w : w1.heap.size < w3.heap.size := by omega
  have hBq : w.heap.size ≤ w1.heap.size := hBB
  clear hb1 hb2 hb3 hx1 hx2 hx3 hz1 hz2 hz3 hv hu hD ih ht hm hB3 hs hk64 hn64 hBB hRR
  have HW3 := Lib.hid hw3
  clear hw3
  go_enter Try.func22, Try.ntmps22
  go_wp2_with fail
  (try rw [hw1])
  (try rw [hw2])
  clear hw1 hw2
  go_wp2_with fail
  (try rw [HW3.out])
  clear y0 y1 y2 y3 yf HW3
  go_loopw [4] (fun i wr => ∃ (D1 : Nat → Bool) (j c : Nat) (a : Option Addr) (ps : List TmP), j ≤ m ∧ i = .int .i64 j ∧ ps.length = j ∧ Hid (ps.map (·.1) = ts.take j) ∧ Hid (Box wr w2.heap.size [.int .i64 k, .int .i64 n, .string s, .slice a j c]) ∧ Hid (RowY D1 noM wr w3.heap.size (.slice a j c) ps) ∧ Hid (Turn D noM D1 noM w wr) ∧ Hid (Okd D1 noM wr) ∧ Hid (D1 w2.heap.size = true ∧ D1 w1.heap.size = true) ∧ Hid (w3.heap.size ≤ wr.heap.size) ∧ Hid (Box wr w.heap.size [.int .i64 k, .int .i64 n, .string s, .slice au m cu]) ∧ Hid (Box wr w1.heap.size [.int .i64 0, .int .i64 0, .string ⟨#[]⟩, .slice none 0 0]))
    (fun i _ => m - (intOf i).toNat)
  case atStart => exact ⟨plusB (plusB D w1.heap.size) w2.heap.size, 0, 0, none, [], Nat.zero_le _, rfl, rfl, Lib.hid rfl, HX3, Lib.hid (RowY.none _ _ _ _), HT3, HO3, Lib.hid ⟨plusB_self _ _, plusB_of (plusB_self _ _)⟩, Lib.hid (Nat.le_refl _), HX1, HX2⟩
  case round =>
    obtain ⟨D1, j, c, a, ps, hj, rfl, hpl, HPS, HXR, HRW, HT, HO, HDR, HZ, HX1, HX2⟩ := hrel
    have HPL := Lib.hid hpl
    obtain ⟨r0, r1, r2, r3, rf⟩ := HXR.out.four
    obtain ⟨t0, t1, t2, t3, tf⟩ := HX1.out.four
    have HBl := Lib.hid (HT.out.bel (Nat.le_refl _) (fun k _ => rfl))
    clear hpl
    by_cases hlt : j < m
    · obtain ⟨x, hx⟩ : ∃ x, ts[j]? = some x := ⟨_, List.getElem?_eq_getElem (by rw [HM.out]; exact hlt)⟩
      obtain ⟨b, off, xk, xn, xs', xu, rfl, hbb, ek, en, es, c0, c1, c2, c3, _, htx⟩ := (HU.out.ext HBl.out).get hx
      have HSX := Lib.hid (HSZ.out x (List.mem_of_getElem? hx))
      have HTX := Lib.hid htx
      have HTK := Lib.hid (take_next hx)
      have HC := Lib.hid (fun (wq : World) (hq : Below wr.heap.size wr wq) => HIH.out x HSX.out D1 wq _ (HO.out.2.mono hq.size) (TmV.ext hq _ _ HTX.out))
      have hbw0 : b < w.heap.size := by
        have := HU.out
        obtain ⟨a', c', e', _, _, _, h4⟩ := this
        cases e'
        rcases h4 with rfl | ⟨b', off', e2, h5, _⟩
        · simp at hx
        · cases e2; exact h5
      have hbR : b ≠ w2.heap.size := by omega
      clear hx htx ek en es
      have hjj : (j : Int) < m := by omega
      go_wp2_with fail
      refine wp_region_held_drew (S := fun w' => (w'.cell? ⟨w.heap.size, 3, none⟩ = some (.slice (some ⟨b, off, none⟩) m cu) ∧ w'.cell? ⟨b, off + j * 4, none⟩ = some (.int .i64 xk) ∧ w'.cell? ⟨b, off + j * 4 + 1, none⟩ = some (.int .i64 xn) ∧ w'.cell? ⟨b, off + j * 4 + 2, none⟩ = some (.string xs') ∧ w'.cell? ⟨b, off + j * 4 + 3, none⟩ = some xu)) (by kernel_rfl) ⟨t3, c0, c1, c2, c3⟩ (fun hHeld => ?_)
      have HROW := Lib.hid (fun (wq : World) (hq : Below wr.heap.size wr wq) (o : Obj) => (show (wq.alloc o).ownsRow w3.heap.size 48 4 (.slice a j c) j (ps.flatMap pCells) from by
        have h := (HRW.out.turn (M := noM) (Turn.below (Ext.trans' hq (bel1' wq o))) HO.out.1).1
        unfold RowP at h
        rw [HPL.out] at h
        exact h))
      have h2w : w2.heap.size < w3.heap.size := h23w
      have h1w : w1.heap.size < w3.heap.size := h13w
      have h0w : w.heap.size < w3.heap.size := by omega
      have hbw : b < w3.heap.size := by omega
      first | (refine held_t (i := 0) hHeld ?_; apply Exists.intro; refine ⟨fun wq hq => ?_, ?_⟩; (focus ((try dsimp only at hq); go_simp; (first | done | with_reducible rfl | fail)))) | refine held_s (i := 0) hHeld ?_ | fail
      first | (refine held_t (i := 2) hHeld ?_; apply Exists.intro; refine ⟨fun wq hq => ?_, ?_⟩; (focus ((try dsimp only at hq); go_simp; (first | done | with_reducible rfl | fail)))) | refine held_s (i := 2) hHeld ?_ | fail
      first | (refine held_t (i := 3) hHeld ?_; apply Exists.intro; refine ⟨fun wq hq => ?_, ?_⟩; (focus ((try dsimp only at hq); go_simp; (first | done | with_reducible rfl | fail)))) | refine held_s (i := 3) hHeld ?_ | fail
      first | (refine held_t (i := 4) hHeld ?_; apply Exists.intro; refine ⟨fun wq hq => ?_, ?_⟩; (focus ((try dsimp only at hq); go_simp; (first | done | with_reducible rfl | fail)))) | refine held_s (i := 4) hHeld ?_ | fail
      first | (refine held_t (i := 5) hHeld ?_; apply Exists.intro; refine ⟨fun wq hq => ?_, ?_⟩; (focus ((try dsimp only at hq); go_simp; (first | done | with_reducible rfl | fail)))) | refine held_s (i := 5) hHeld ?_ | fail
      first | (refine held_t (i := 6) hHeld ?_; apply Exists.intro; refine ⟨fun wq hq => ?_, ?_⟩; (focus ((try dsimp only at hq); go_simp; (first | done | with_reducible rfl | fail)))) | refine held_s (i := 6) hHeld ?_ | fail
      try simp only [Act.put, List.setIfInBounds_toArray, List.set_cons_zero, List.set_cons_succ]
      refine wpAnyH_ready (rs := [1, 7]) (by kernel_rfl) (by simp) ?_
      refine AllReadyH.cons (by simp only [List.getElem?_toArray, List.getElem?_cons_zero, List.getElem?_cons_succ]; rfl) (fun K hK => ?_) (AllReadyH.cons (by simp only [List.getElem?_toArray, List.getElem?_cons_zero, List.getElem?_cons_succ]; rfl) (fun K hK => ?_) AllReadyH.nil)
      · go_simp
        skip
        refine hK.out _ _ (hHeld) (fun hHeld => ?_)
        clear hK K
        try simp only [Act.put, List.setIfInBounds_toArray, List.set_cons_zero, List.set_cons_succ]
        refine held_c 7 fun K hK => ?_
        go_simp
        (go_at_call 22; refine (HC.out _ ((Below.refl _ _).drew)).mono ?_; rintro e w5 ⟨v5, rfl, hv5, hb5⟩; obtain ⟨k5, n5, s5, a5, m5, c5, rfl, ek, en, es, ep⟩ := four_of hv5; have HEP := Lib.hid ep; have HEK := Lib.hid (And.intro ek (And.intro en es)); have HV5 := Lib.hid hv5; have HB5 := Lib.hid (Ext.trans' (Below.refl wr.heap.size wr).drew hb5); obtain ⟨r0, r1, r2, r3, rf⟩ := (HXR.out.ext HB5.out).four; have r3' : ∀ o, (w5.alloc o).cell? ⟨w2.heap.size, 3, none⟩ = some (.slice a j c) := (fun o => Lib.cell?_alloc_some _ r3); clear ek en es ep hv5)
        refine hK.out _ _ (⟨cell_later HB5.out t3, cell_later HB5.out c0, cell_later HB5.out c1, cell_later HB5.out c2, cell_later HB5.out c3⟩) (fun hHeld => ?_)
        clear hK K
        try simp only [Act.put, List.setIfInBounds_toArray, List.set_cons_zero, List.set_cons_succ]
        refine held_c 8 fun K hK => ?_
        go_simp
        skip
        refine hK.out _ _ (⟨cell_later (bel1' _ _) hHeld.1, cell_later (bel1' _ _) hHeld.2.1, cell_later (bel1' _ _) hHeld.2.2.1, cell_later (bel1' _ _) hHeld.2.2.2.1, cell_later (bel1' _ _) hHeld.2.2.2.2⟩) (fun hHeld => ?_)
        clear hK K
        try simp only [Act.put, List.setIfInBounds_toArray, List.set_cons_zero, List.set_cons_succ]
        refine held_c 9 fun K hK => ?_
        (refine step_append_k (by rfl) _ _ _ (by rfl) w3.heap.size 48 i0 (.agg #[.int .i64 0, .int .i64 0, .string ⟨#[]⟩, .slice none 0 0]) 4 56 Try.underlying46 hi0 hz0 hs0 (by decide) hb0 rfl (.slice a j c) j (ps.flatMap pCells) (by rfl) (HROW.out w5 HB5.out _) (some ⟨w5.heap.size, 0, none⟩) 1 1 [.int .i64 k5, .int .i64 n5, .string s5, .slice a5 m5 c5] (by rfl) (by rfl) (Or.inr ⟨_, rfl, fun jj uu hu => cell_new w5 #[.int .i64 k5, .int .i64 n5, .string s5, .slice a5 m5 c5] _ jj uu hu⟩) (by simp [Value.oneCell']) (by unfold maxLen; omega) (by omega) (by have := HB5.out.size; have := HZ.out; simp; omega) (j + 1) (ps.flatMap pCells ++ [.int .i64 k5, .int .i64 n5, .string s5, .slice a5 m5 c5]) rfl rfl ?_; intro a7 c7 w7 hown7 hgrow7 hat7; have hkeep : ∀ g, g < w3.heap.size → w7.heap[g]? = w5.heap[g]? := (fun g hg => (hgrow7.block g (by have := HB5.out.size; have := HZ.out; simp; omega) (fun e => by have := (row_in HRW.out.1 e.symm).1; omega)).trans ((bel1' w5 _).block g (by have := HB5.out.size; have := HZ.out; omega))); have HKP := Lib.hid hkeep; have HGR := Lib.hid hgrow7; have HOW := Lib.hid hown7; have HAT := Lib.hid hat7; have r3 : w7.cell? ⟨w2.heap.size, 3, none⟩ = some (.slice a j c) := (by rw [World.cell?_of_block (hkeep _ h2w)]; exact r3); have rf : w7.frozen? ⟨w2.heap.size, 3, none⟩ = false := (by rw [World.frozen?_of_block (hkeep _ h2w)]; exact rf 3); clear hkeep hgrow7 hown7 hat7)
        refine hK.out _ _ (⟨by rw [World.cell?_of_block (HKP.out _ h0w)]; exact cell_later HB5.out t3, by rw [World.cell?_of_block (HKP.out _ hbw)]; exact cell_later HB5.out c0, by rw [World.cell?_of_block (HKP.out _ hbw)]; exact cell_later HB5.out c1, by rw [World.cell?_of_block (HKP.out _ hbw)]; exact cell_later HB5.out c2, by rw [World.cell?_of_block (HKP.out _ hbw)]; exact cell_later HB5.out c3⟩) (fun hHeld => ?_)
        clear hK K
        try simp only [Act.put, List.setIfInBounds_toArray, List.set_cons_zero, List.set_cons_succ]
        first | (refine held_t (i := 10) hHeld ?_; apply Exists.intro; refine ⟨fun wq hq => ?_, ?_⟩; (focus ((try dsimp only at hq); go_simp; (first | done | with_reducible rfl | fail)))) | refine held_s (i := 10) hHeld ?_ | fail
        try simp only [Act.put, List.setIfInBounds_toArray, List.set_cons_zero, List.set_cons_succ]
        refine held_c 11 fun K hK => ?_
        go_simp
        skip
        refine hK.out _ _ (⟨far_one hHeld.1 h13, far_one hHeld.2.1 hbR, far_one hHeld.2.2.1 hbR, far_one hHeld.2.2.2.1 hbR, far_one hHeld.2.2.2.2 hbR⟩) (fun hHeld => ?_)
        clear hK K
        try simp only [Act.put, List.setIfInBounds_toArray, List.set_cons_zero, List.set_cons_succ]
        refine wpAnyH_done (by kernel_rfl) ?_ _
        have hW5 : Below wr.heap.size wr (w5.alloc (.cells #[.int .i64 k5, .int .i64 n5, .string s5, .slice a5 m5 c5] 48)) := Ext.trans' HB5.out (bel1' w5 _)
        have hRW := HRW.out.turn (Turn.below hW5) HO.out.1
        have hpc : pCells (x, .slice a5 m5 c5) = [.int .i64 k5, .int .i64 n5, .string s5, .slice a5 m5 c5] := by unfold pCells; rw [← HEK.out.1, ← HEK.out.2.1, ← HEK.out.2.2]
        have htW : TmV (hide D1 (w5.alloc (.cells #[.int .i64 k5, .int .i64 n5, .string s5, .slice a5 m5 c5] 48))) x (pVal (x, .slice a5 m5 c5)) := by rw [← HEP.out]; exact TmV.later (bel1' w5 _) HV5.out
        have hR7 := hRW.more htW (HO.out.later hW5.size) HGR.out HAT.out (by rw [HPL.out, hpc]; exact HOW.out)
        have hown : ∀ g, (Value.slice a7 (j + 1) c7).ownBlock = some g → g ≠ w2.heap.size := fun g hg e => by have := (row_in HOW.out hg).1; omega
        have HR8 := Lib.hid (hR7.put ⟨w2.heap.size, 3, none⟩ (.slice a7 (j + 1) c7) (withB_of HDR.out.1) hown)
        have HT8 := Lib.hid (((HT.out.trans (Turn.below hW5)).grown HGR.out (fun g hg => by have := (row_in hRW.1 hg).1; omega) HAT.out).set ⟨w2.heap.size, 3, none⟩ (.slice a7 (j + 1) c7) (Or.inl hR))
        have HO8 := Lib.hid (show Okd (withB D1 (.slice a7 (j + 1) c7)) noM (w7.setCell ⟨w2.heap.size, 3, none⟩ (.slice a7 (j + 1) c7)) from ⟨fun k hk => absurd hk (by simp), fun k hk => by
          rw [withB_no (fun e => by have := (row_in HOW.out e).2; simp [World.setCell] at hk; omega)]
          exact HO.out.2 k (by have h1 := HGR.out.size; have h2 := hW5.size; simp [World.setCell] at hk; omega)⟩)
        have HB8 := Lib.hid (((HXR.out.ext HB5.out).block (HKP.out _ h2w) (by have h1 := HGR.out.size; have h2 := hW5.size; have h3 := HXR.out.lt; omega)).set (k := 3) (u := .slice a7 (j + 1) c7) (by simp))
        have HY1 := Lib.hid (((HX1.out.ext HB5.out).block (HKP.out _ h0w) (by have h1 := HGR.out.size; have h2 := hW5.size; have h3 := HX1.out.lt; omega)).far (c := w2.heap.size) (k := 3) (u := .slice a7 (j + 1) c7) h13)
        have HY2 := Lib.hid (((HX2.out.ext HB5.out).block (HKP.out _ h1w) (by have h1 := HGR.out.size; have h2 := hW5.size; have h3 := HX2.out.lt; omega)).far (c := w2.heap.size) (k := 3) (u := .slice a7 (j + 1) c7) h23)
        have HZ8 := Lib.hid (show w3.heap.size ≤ (w7.setCell ⟨w2.heap.size, 3, none⟩ (.slice a7 (j + 1) c7)).heap.size by have h1 := HGR.out.size; have h2 := hW5.size; have := HZ.out; simp [World.setCell]; omega)
        have HP8 := Lib.hid (show (ps ++ [(x, Value.slice a5 m5 c5)]).map (·.1) = ts.take (j + 1) by rw [List.map_append, HTK.out, HPS.out]; rfl)
        clear hRW hpc htW hR7 hown hW5 r0 r1 r2 r3 rf r3' t0 t1 t2 t3 tf c0 c1 c2 c3 hHeld
        go_wp2
        go_roundw
        case rel => exact ⟨_, j + 1, c7, a7, _, hlt, by go_num, by rw [List.length_append, HPL.out]; rfl, HP8, HB8, HR8, HT8, HO8, Lib.hid ⟨withB_of HDR.out.1, withB_of HDR.out.2⟩, HZ8, HY1, HY2⟩
        case measure => simp [intOf]; omega
      · go_simp
        (go_at_call 22; refine (HC.out _ ((Below.refl _ _).drew)).mono ?_; rintro e w5 ⟨v5, rfl, hv5, hb5⟩; obtain ⟨k5, n5, s5, a5, m5, c5, rfl, ek, en, es, ep⟩ := four_of hv5; have HEP := Lib.hid ep; have HEK := Lib.hid (And.intro ek (And.intro en es)); have HV5 := Lib.hid hv5; have HB5 := Lib.hid (Ext.trans' (Below.refl wr.heap.size wr).drew hb5); obtain ⟨r0, r1, r2, r3, rf⟩ := (HXR.out.ext HB5.out).four; have r3' : ∀ o, (w5.alloc o).cell? ⟨w2.heap.size, 3, none⟩ = some (.slice a j c) := (fun o => Lib.cell?_alloc_some _ r3); clear ek en es ep hv5)
        refine hK.out _ _ (⟨cell_later HB5.out t3, cell_later HB5.out c0, cell_later HB5.out c1, cell_later HB5.out c2, cell_later HB5.out c3⟩) (fun hHeld => ?_)
        clear hK K
        try simp only [Act.put, List.setIfInBounds_toArray, List.set_cons_zero, List.set_cons_succ]
        refine wpAnyH_ready (rs := [1, 8]) (by kernel_rfl) (by simp) ?_
        refine AllReadyH.cons (by simp only [List.getElem?_toArray, List.getElem?_cons_zero, List.getElem?_cons_succ]; rfl) (fun K hK => ?_) (AllReadyH.cons (by simp only [List.getElem?_toArray, List.getElem?_cons_zero, List.getElem?_cons_succ]; rfl) (fun K hK => ?_) AllReadyH.nil)
        · go_simp
          skip
          refine hK.out _ _ (hHeld) (fun hHeld => ?_)
          clear hK K
          try simp only [Act.put, List.setIfInBounds_toArray, List.set_cons_zero, List.set_cons_succ]
          refine held_c 8 fun K hK => ?_
          go_simp
          skip
          refine hK.out _ _ (⟨cell_later (bel1' _ _) hHeld.1, cell_later (bel1' _ _) hHeld.2.1, cell_later (bel1' _ _) hHeld.2.2.1, cell_later (bel1' _ _) hHeld.2.2.2.1, cell_later (bel1' _ _) hHeld.2.2.2.2⟩) (fun hHeld => ?_)
          clear hK K
          try simp only [Act.put, List.setIfInBounds_toArray, List.set_cons_zero, List.set_cons_succ]
          refine held_c 9 fun K hK => ?_
          (refine step_append_k (by rfl) _ _ _ (by rfl) w3.heap.size 48 i0 (.agg #[.int .i64 0, .int .i64 0, .string ⟨#[]⟩, .slice none 0 0]) 4 56 Try.underlying46 hi0 hz0 hs0 (by decide) hb0 rfl (.slice a j c) j (ps.flatMap pCells) (by rfl) (HROW.out w5 HB5.out _) (some ⟨w5.heap.size, 0, none⟩) 1 1 [.int .i64 k5, .int .i64 n5, .string s5, .slice a5 m5 c5] (by rfl) (by rfl) (Or.inr ⟨_, rfl, fun jj uu hu => cell_new w5 #[.int .i64 k5, .int .i64 n5, .string s5, .slice a5 m5 c5] _ jj uu hu⟩) (by simp [Value.oneCell']) (by unfold maxLen; omega) (by omega) (by have := HB5.out.size; have := HZ.out; simp; omega) (j + 1) (ps.flatMap pCells ++ [.int .i64 k5, .int .i64 n5, .string s5, .slice a5 m5 c5]) rfl rfl ?_; intro a7 c7 w7 hown7 hgrow7 hat7; have hkeep : ∀ g, g < w3.heap.size → w7.heap[g]? = w5.heap[g]? := (fun g hg => (hgrow7.block g (by have := HB5.out.size; have := HZ.out; simp; omega) (fun e => by have := (row_in HRW.out.1 e.symm).1; omega)).trans ((bel1' w5 _).block g (by have := HB5.out.size; have := HZ.out; omega))); have HKP := Lib.hid hkeep; have HGR := Lib.hid hgrow7; have HOW := Lib.hid hown7; have HAT := Lib.hid hat7; have r3 : w7.cell? ⟨w2.heap.size, 3, none⟩ = some (.slice a j c) := (by rw [World.cell?_of_block (hkeep _ h2w)]; exact r3); have rf : w7.frozen? ⟨w2.heap.size, 3, none⟩ = false := (by rw [World.frozen?_of_block (hkeep _ h2w)]; exact rf 3); clear hkeep hgrow7 hown7 hat7)
          refine hK.out _ _ (⟨by rw [World.cell?_of_block (HKP.out _ h0w)]; exact cell_later HB5.out t3, by rw [World.cell?_of_block (HKP.out _ hbw)]; exact cell_later HB5.out c0, by rw [World.cell?_of_block (HKP.out _ hbw)]; exact cell_later HB5.out c1, by rw [World.cell?_of_block (HKP.out _ hbw)]; exact cell_later HB5.out c2, by rw [World.cell?_of_block (HKP.out _ hbw)]; exact cell_later HB5.out c3⟩) (fun hHeld => ?_)
          clear hK K
          try simp only [Act.put, List.setIfInBounds_toArray, List.set_cons_zero, List.set_cons_succ]
          first | (refine held_t (i := 10) hHeld ?_; apply Exists.intro; refine ⟨fun wq hq => ?_, ?_⟩; (focus ((try dsimp only at hq); go_simp; (first | done | with_reducible rfl | fail)))) | refine held_s (i := 10) hHeld ?_ | fail
          try simp only [Act.put, List.setIfInBounds_toArray, List.set_cons_zero, List.set_cons_succ]
          refine held_c 11 fun K hK => ?_
          go_simp
          skip
          refine hK.out _ _ (⟨far_one hHeld.1 h13, far_one hHeld.2.1 hbR, far_one hHeld.2.2.1 hbR, far_one hHeld.2.2.2.1 hbR, far_one hHeld.2.2.2.2 hbR⟩) (fun hHeld => ?_)
          clear hK K
          try simp only [Act.put, List.setIfInBounds_toArray, List.set_cons_zero, List.set_cons_succ]
          refine wpAnyH_done (by kernel_rfl) ?_ _
          have hW5 : Below wr.heap.size wr (w5.alloc (.cells #[.int .i64 k5, .int .i64 n5, .string s5, .slice a5 m5 c5] 48)) := Ext.trans' HB5.out (bel1' w5 _)
          have hRW := HRW.out.turn (Turn.below hW5) HO.out.1
          have hpc : pCells (x, .slice a5 m5 c5) = [.int .i64 k5, .int .i64 n5, .string s5, .slice a5 m5 c5] := by unfold pCells; rw [← HEK.out.1, ← HEK.out.2.1, ← HEK.out.2.2]
          have htW : TmV (hide D1 (w5.alloc (.cells #[.int .i64 k5, .int .i64 n5, .string s5, .slice a5 m5 c5] 48))) x (pVal (x, .slice a5 m5 c5)) := by rw [← HEP.out]; exact TmV.later (bel1' w5 _) HV5.out
          have hR7 := hRW.more htW (HO.out.later hW5.size) HGR.out HAT.out (by rw [HPL.out, hpc]; exact HOW.out)
          have hown : ∀ g, (Value.slice a7 (j + 1) c7).ownBlock = some g → g ≠ w2.heap.size := fun g hg e => by have := (row_in HOW.out hg).1; omega
          have HR8 := Lib.hid (hR7.put ⟨w2.heap.size, 3, none⟩ (.slice a7 (j + 1) c7) (withB_of HDR.out.1) hown)
          have HT8 := Lib.hid (((HT.out.trans (Turn.below hW5)).grown HGR.out (fun g hg => by have := (row_in hRW.1 hg).1; omega) HAT.out).set ⟨w2.heap.size, 3, none⟩ (.slice a7 (j + 1) c7) (Or.inl hR))
          have HO8 := Lib.hid (show Okd (withB D1 (.slice a7 (j + 1) c7)) noM (w7.setCell ⟨w2.heap.size, 3, none⟩ (.slice a7 (j + 1) c7)) from ⟨fun k hk => absurd hk (by simp), fun k hk => by
            rw [withB_no (fun e => by have := (row_in HOW.out e).2; simp [World.setCell] at hk; omega)]
            exact HO.out.2 k (by have h1 := HGR.out.size; have h2 := hW5.size; simp [World.setCell] at hk; omega)⟩)
          have HB8 := Lib.hid (((HXR.out.ext HB5.out).block (HKP.out _ h2w) (by have h1 := HGR.out.size; have h2 := hW5.size; have h3 := HXR.out.lt; omega)).set (k := 3) (u := .slice a7 (j + 1) c7) (by simp))
          have HY1 := Lib.hid (((HX1.out.ext HB5.out).block (HKP.out _ h0w) (by have h1 := HGR.out.size; have h2 := hW5.size; have h3 := HX1.out.lt; omega)).far (c := w2.heap.size) (k := 3) (u := .slice a7 (j + 1) c7) h13)
          have HY2 := Lib.hid (((HX2.out.ext HB5.out).block (HKP.out _ h1w) (by have h1 := HGR.out.size; have h2 := hW5.size; have h3 := HX2.out.lt; omega)).far (c := w2.heap.size) (k := 3) (u := .slice a7 (j + 1) c7) h23)
          have HZ8 := Lib.hid (show w3.heap.size ≤ (w7.setCell ⟨w2.heap.size, 3, none⟩ (.slice a7 (j + 1) c7)).heap.size by have h1 := HGR.out.size; have h2 := hW5.size; have := HZ.out; simp [World.setCell]; omega)
          have HP8 := Lib.hid (show (ps ++ [(x, Value.slice a5 m5 c5)]).map (·.1) = ts.take (j + 1) by rw [List.map_append, HTK.out, HPS.out]; rfl)
          clear hRW hpc htW hR7 hown hW5 r0 r1 r2 r3 rf r3' t0 t1 t2 t3 tf c0 c1 c2 c3 hHeld
          go_wp2
          go_roundw
          case rel => exact ⟨_, j + 1, c7, a7, _, hlt, by go_num, by rw [List.length_append, HPL.out]; rfl, HP8, HB8, HR8, HT8, HO8, Lib.hid ⟨withB_of HDR.out.1, withB_of HDR.out.2⟩, HZ8, HY1, HY2⟩
          case measure => simp [intOf]; omega
        · go_simp
          skip
          refine hK.out _ _ (⟨cell_later (bel1' _ _) hHeld.1, cell_later (bel1' _ _) hHeld.2.1, cell_later (bel1' _ _) hHeld.2.2.1, cell_later (bel1' _ _) hHeld.2.2.2.1, cell_later (bel1' _ _) hHeld.2.2.2.2⟩) (fun hHeld => ?_)
          clear hK K
          try simp only [Act.put, List.setIfInBounds_toArray, List.set_cons_zero, List.set_cons_succ]
          refine held_c 1 fun K hK => ?_
          go_simp
          skip
          refine hK.out _ _ (hHeld) (fun hHeld => ?_)
          clear hK K
          try simp only [Act.put, List.setIfInBounds_toArray, List.set_cons_zero, List.set_cons_succ]
          refine held_c 9 fun K hK => ?_
          (refine step_append_k (by rfl) _ _ _ (by rfl) w3.heap.size 48 i0 (.agg #[.int .i64 0, .int .i64 0, .string ⟨#[]⟩, .slice none 0 0]) 4 56 Try.underlying46 hi0 hz0 hs0 (by decide) hb0 rfl (.slice a j c) j (ps.flatMap pCells) (by rfl) (HROW.out w5 HB5.out _) (some ⟨w5.heap.size, 0, none⟩) 1 1 [.int .i64 k5, .int .i64 n5, .string s5, .slice a5 m5 c5] (by rfl) (by rfl) (Or.inr ⟨_, rfl, fun jj uu hu => cell_new w5 #[.int .i64 k5, .int .i64 n5, .string s5, .slice a5 m5 c5] _ jj uu hu⟩) (by simp [Value.oneCell']) (by unfold maxLen; omega) (by omega) (by have := HB5.out.size; have := HZ.out; simp; omega) (j + 1) (ps.flatMap pCells ++ [.int .i64 k5, .int .i64 n5, .string s5, .slice a5 m5 c5]) rfl rfl ?_; intro a7 c7 w7 hown7 hgrow7 hat7; have hkeep : ∀ g, g < w3.heap.size → w7.heap[g]? = w5.heap[g]? := (fun g hg => (hgrow7.block g (by have := HB5.out.size; have := HZ.out; simp; omega) (fun e => by have := (row_in HRW.out.1 e.symm).1; omega)).trans ((bel1' w5 _).block g (by have := HB5.out.size; have := HZ.out; omega))); have HKP := Lib.hid hkeep; have HGR := Lib.hid hgrow7; have HOW := Lib.hid hown7; have HAT := Lib.hid hat7; have r3 : w7.cell? ⟨w2.heap.size, 3, none⟩ = some (.slice a j c) := (by rw [World.cell?_of_block (hkeep _ h2w)]; exact r3); have rf : w7.frozen? ⟨w2.heap.size, 3, none⟩ = false := (by rw [World.frozen?_of_block (hkeep _ h2w)]; exact rf 3); clear hkeep hgrow7 hown7 hat7)
          refine hK.out _ _ (⟨by rw [World.cell?_of_block (HKP.out _ h0w)]; exact cell_later HB5.out t3, by rw [World.cell?_of_block (HKP.out _ hbw)]; exact cell_later HB5.out c0, by rw [World.cell?_of_block (HKP.out _ hbw)]; exact cell_later HB5.out c1, by rw [World.cell?_of_block (HKP.out _ hbw)]; exact cell_later HB5.out c2, by rw [World.cell?_of_block (HKP.out _ hbw)]; exact cell_later HB5.out c3⟩) (fun hHeld => ?_)
          clear hK K
          try simp only [Act.put, List.setIfInBounds_toArray, List.set_cons_zero, List.set_cons_succ]
          first | (refine held_t (i := 10) hHeld ?_; apply Exists.intro; refine ⟨fun wq hq => ?_, ?_⟩; (focus ((try dsimp only at hq); go_simp; (first | done | with_reducible rfl | fail)))) | refine held_s (i := 10) hHeld ?_ | fail
          try simp only [Act.put, List.setIfInBounds_toArray, List.set_cons_zero, List.set_cons_succ]
          refine held_c 11 fun K hK => ?_
          go_simp
          skip
          refine hK.out _ _ (⟨far_one hHeld.1 h13, far_one hHeld.2.1 hbR, far_one hHeld.2.2.1 hbR, far_one hHeld.2.2.2.1 hbR, far_one hHeld.2.2.2.2 hbR⟩) (fun hHeld => ?_)
          clear hK K
          try simp only [Act.put, List.setIfInBounds_toArray, List.set_cons_zero, List.set_cons_succ]
          refine wpAnyH_done (by kernel_rfl) ?_ _
          have hW5 : Below wr.heap.size wr (w5.alloc (.cells #[.int .i64 k5, .int .i64 n5, .string s5, .slice a5 m5 c5] 48)) := Ext.trans' HB5.out (bel1' w5 _)
          have hRW := HRW.out.turn (Turn.below hW5) HO.out.1
          have hpc : pCells (x, .slice a5 m5 c5) = [.int .i64 k5, .int .i64 n5, .string s5, .slice a5 m5 c5] := by unfold pCells; rw [← HEK.out.1, ← HEK.out.2.1, ← HEK.out.2.2]
          have htW : TmV (hide D1 (w5.alloc (.cells #[.int .i64 k5, .int .i64 n5, .string s5, .slice a5 m5 c5] 48))) x (pVal (x, .slice a5 m5 c5)) := by rw [← HEP.out]; exact TmV.later (bel1' w5 _) HV5.out
          have hR7 := hRW.more htW (HO.out.later hW5.size) HGR.out HAT.out (by rw [HPL.out, hpc]; exact HOW.out)
          have hown : ∀ g, (Value.slice a7 (j + 1) c7).ownBlock = some g → g ≠ w2.heap.size := fun g hg e => by have := (row_in HOW.out hg).1; omega
          have HR8 := Lib.hid (hR7.put ⟨w2.heap.size, 3, none⟩ (.slice a7 (j + 1) c7) (withB_of HDR.out.1) hown)
          have HT8 := Lib.hid (((HT.out.trans (Turn.below hW5)).grown HGR.out (fun g hg => by have := (row_in hRW.1 hg).1; omega) HAT.out).set ⟨w2.heap.size, 3, none⟩ (.slice a7 (j + 1) c7) (Or.inl hR))
          have HO8 := Lib.hid (show Okd (withB D1 (.slice a7 (j + 1) c7)) noM (w7.setCell ⟨w2.heap.size, 3, none⟩ (.slice a7 (j + 1) c7)) from ⟨fun k hk => absurd hk (by simp), fun k hk => by
            rw [withB_no (fun e => by have := (row_in HOW.out e).2; simp [World.setCell] at hk; omega)]
            exact HO.out.2 k (by have h1 := HGR.out.size; have h2 := hW5.size; simp [World.setCell] at hk; omega)⟩)
          have HB8 := Lib.hid (((HXR.out.ext HB5.out).block (HKP.out _ h2w) (by have h1 := HGR.out.size; have h2 := hW5.size; have h3 := HXR.out.lt; omega)).set (k := 3) (u := .slice a7 (j + 1) c7) (by simp))
          have HY1 := Lib.hid (((HX1.out.ext HB5.out).block (HKP.out _ h0w) (by have h1 := HGR.out.size; have h2 := hW5.size; have h3 := HX1.out.lt; omega)).far (c := w2.heap.size) (k := 3) (u := .slice a7 (j + 1) c7) h13)
          have HY2 := Lib.hid (((HX2.out.ext HB5.out).block (HKP.out _ h1w) (by have h1 := HGR.out.size; have h2 := hW5.size; have h3 := HX2.out.lt; omega)).far (c := w2.heap.size) (k := 3) (u := .slice a7 (j + 1) c7) h23)
          have HZ8 := Lib.hid (show w3.heap.size ≤ (w7.setCell ⟨w2.heap.size, 3, none⟩ (.slice a7 (j + 1) c7)).heap.size by have h1 := HGR.out.size; have h2 := hW5.size; have := HZ.out; simp [World.setCell]; omega)
          have HP8 := Lib.hid (show (ps ++ [(x, Value.slice a5 m5 c5)]).map (·.1) = ts.take (j + 1) by rw [List.map_append, HTK.out, HPS.out]; rfl)
          clear hRW hpc htW hR7 hown hW5 r0 r1 r2 r3 rf r3' t0 t1 t2 t3 tf c0 c1 c2 c3 hHeld
          go_wp2
          go_roundw
          case rel => exact ⟨_, j + 1, c7, a7, _, hlt, by go_num, by rw [List.length_append, HPL.out]; rfl, HP8, HB8, HR8, HT8, HO8, Lib.hid ⟨withB_of HDR.out.1, withB_of HDR.out.2⟩, HZ8, HY1, HY2⟩
          case measure => simp [intOf]; omega
    · have hjm : j = m := by omega
      subst hjm
      obtain ⟨q0, q1, q2, q3, qf⟩ := HX2.out.four
      go_wp2
      refine bodyPost_ret (v := .agg #[.int .i64 k, .int .i64 n, .string s, .slice a j c]) (by rw [results_cell1 rfl]; go_simp) rfl ⟨_, rfl, ?_, ?_⟩
      · have hT := HT.out.set4 (b := w1.heap.size) (Or.inl hBq) (.int .i64 k) (.int .i64 n) (.string s) (.slice a j c)
        have hT4 := HRW.out
        have hRp : RowY D1 noM (set4 wr w1.heap.size (.int .i64 k) (.int .i64 n) (.string s) (.slice a j c)) w3.heap.size (.slice a j c) ps := by
          have hn : ∀ g, (Value.slice a j c).ownBlock = some g → g ≠ w1.heap.size := fun g hg e => by have := (row_in hT4.1 hg).1; omega
          exact (((hT4.put ⟨w1.heap.size, 0, none⟩ _ HDR.out.2 hn).put ⟨w1.heap.size, 1, none⟩ _ HDR.out.2 hn).put ⟨w1.heap.size, 2, none⟩ _ HDR.out.2 hn).put ⟨w1.heap.size, 3, none⟩ _ HDR.out.2 hn
        have hF := RowY.fin (Nat.le_trans hR (Nat.le_of_lt h23w)) hRp hT (HO.out.put4 _ _ _ _ _) (by rw [HPL.out]; unfold BIG; omega)
        rw [fin_no HD.out, HPS.out, List.take_of_length_le (by rw [HM.out]; exact Nat.le_refl _)] at hF
        exact tmV_iff.2 ⟨_, rfl, HK.out.1, HK.out.2.1, HK.out.2.2, hF⟩
      · exact Below.set4 HBl.out hBq _ _ _ _
theorem own10_at (t : Tm) (D : Nat → Bool) (w : World) (v : Value) (hD : Old D w) (hv : TmV w t v) : Calls Try.prog 22 #[v] w fun e w' => ∃ v', e = .returned v' ∧ TmV (hide D w') t v' ∧ Below w.heap.size w w' := by
  suffices h : ∀ N (t : Tm), sizeN t < N → ∀ (D : Nat → Bool) (w : World) (v : Value), Old D w → TmV w t v → Calls Try.prog 22 #[v] w fun e w' => ∃ v', e = .returned v' ∧ TmV (hide D w') t v' ∧ Below w.heap.size w w' from
    h _ t (Nat.lt_succ_self _) D w v hD hv
  intro N
  induction N with
  | zero => intro t ht; omega
  | succ N ih => intro t ht D w v hD hv; exact own10_step N ih t ht D w v hD hv
end Go.Proofs.Ytjhoekhfikcanaa
/- Stage 11's laws: alike. -/
namespace Go.Proofs.Ytjhoekhfikcanaa
open Go.RowKit
set_option linter.unusedVariables false

section
variable {V w : World} {F F2 : List Nat} {p q : Value} {N : Nat} {R S : List (Int × Tm)}
set_option maxHeartbeats 8000000 in
set_option maxRecDepth 100000 in
theorem alike_at (hb : IsB V F w p N R) (hr : IsR V F2 w q N S) (hs : Sync R S) : Calls Try.prog 28 #[p, q, .int .i64 N] w fun e w' => e = .returned (.bool true) ∧ Below w.heap.size w w' := by
  have hN := hb.tri.2
  have HB := Lib.hid hb
  have HR := Lib.hid hr
  have HS := Lib.hid hs
  have HRL := Lib.hid (show S.length = R.length from hs.len.symm)
  obtain ⟨bt, a1, c1, a2, c2, a3, c3, rfl, hlt, d0, d1, d2, _⟩ := hr.open
  rw [HRL.out] at d2
  clear hb hr hs
  go_enter Try.func28, Try.ntmps28
  go_wp2_with fail
  go_loopw [7] (fun z wr => ∃ j : Nat, j ≤ N ∧ z = .int .i64 j ∧ Hid (Below w.heap.size w wr)) (fun z _ => N - (intOf z).toNat)
  case atStart => exact ⟨0, Nat.zero_le _, rfl, Lib.hid (Below.refl _ _)⟩
  case round =>
    obtain ⟨j, hj, rfl, HW⟩ := hrel
    by_cases hjN : j < N
    · have hjN2 : (j : Int) < N := by omega
      have hlf : TmV V (varV j) (.agg #[.int .i64 0, .int .i64 j, .string ⟨#[]⟩, .slice none 0 0]) := leaf_tm V (by unfold I64; omega) (by unfold I64; omega) (by unfold BIG; decide)
      have HLF := Lib.hid hlf
      obtain ⟨WR, hWR⟩ : ∃ WR, wholeB N R (varV j) = WR := ⟨_, rfl⟩
      have HWR := Lib.hid (And.intro hWR (show wholeB N S (varV j) = WR by rw [← HS.out.wholeB, hWR]))
      clear hlf hWR d0 d1
      (go_wp2_with fail; go_fit (var_at wr j); rintro e w1 ⟨rfl, b1⟩)
      have hb1 := Ext.trans' HW.out b1
      have C1 := Whole_at (HB.out.ext hb1) HLF.out
      rw [HWR.out.1] at C1
      have HB1 := Lib.hid hb1
      clear b1 hb1
      (go_wp2_with fail; go_fit (C1); rintro e w2 ⟨r, rfl, hT, b2⟩)
      obtain ⟨kx, nx, sx, ax, mx, cx, rfl, f1, f2, f3, fv⟩ := four_of hT
      clear f1 f2 f3 fv
      obtain ⟨w3, e3, b3, z3, x3⟩ := box_new w2 #[.int .i64 kx, .int .i64 nx, .string sx, .slice ax mx cx] 31
      have hT2 := TmV.stay (Stays.unhide _ _) _ _ hT
      have hb3 := Ext.trans' (Ext.trans' HB1.out b2) b3
      have HB3 := Lib.hid (And.intro hb3 (And.intro (TmV.ext b3 _ _ hT2) x3))
      have C2 := RWhole_at (HR.out.ext hb3) HLF.out
      rw [HWR.out.2] at C2
      have HE3 := Lib.hid e3
      clear b2 hT hT2 b3 z3 x3 hb3 e3
      go_upto_region 5 with fail
      rw [HE3.out]
      (go_wp2_with fail; go_fit (C2); rintro e w4 ⟨r, rfl, hT, b4⟩)
      obtain ⟨ky, ny, sy, ay, my, cy, rfl, f1, f2, f3, fv⟩ := four_of hT
      clear f1 f2 f3 fv
      obtain ⟨w5, e5, b5, z5, x5⟩ := box_new w4 #[.int .i64 ky, .int .i64 ny, .string sy, .slice ay my cy] 48
      have hT2 := TmV.stay (Stays.unhide _ _) _ _ hT
      have hb45 := Ext.trans' b4 b5
      have HB5 := Lib.hid (show Below w.heap.size w w5 ∧ TmV w5 WR.1 (.agg #[.int .i64 kx, .int .i64 nx, .string sx, .slice ax mx cx]) ∧ TmV w5 WR.1 (.agg #[.int .i64 ky, .int .i64 ny, .string sy, .slice ay my cy]) ∧ Box w5 w2.heap.size [.int .i64 kx, .int .i64 nx, .string sx, .slice ax mx cx] ∧ Box w5 w4.heap.size [.int .i64 ky, .int .i64 ny, .string sy, .slice ay my cy] from
        ⟨Ext.trans' HB3.out.1 hb45, TmV.ext hb45 _ _ HB3.out.2.1, TmV.ext b5 _ _ hT2, HB3.out.2.2.ext hb45, x5⟩)
      have HE5 := Lib.hid e5
      clear b4 hT hT2 b5 z5 x5 hb45 e5
      go_upto_region 6 with fail
      rw [HE5.out]
      obtain ⟨hbw, hx, hy, hbx, hby⟩ := HB5.out
      obtain ⟨x0, x1, x2, x3, _⟩ := hbx.four
      obtain ⟨y0, y1, y2, y3, _⟩ := hby.four
      have hne : (WR.2 != WR.2) = false := by simp
      have HC := Lib.hid (fun (wq : World) (hq : Below w5.heap.size w5 wq) => own10_at WR.1 (fun _ => false) wq _ (fun _ _ => rfl) (TmV.ext hq _ _ hx))
      have HY := Lib.hid hy
      clear hbw hx hy hbx hby
      refine wp_region_held_drew (S := fun w' => (w'.cell? ⟨w2.heap.size, 0, none⟩ = some (.int .i64 kx) ∧ w'.cell? ⟨w2.heap.size, 1, none⟩ = some (.int .i64 nx) ∧ w'.cell? ⟨w2.heap.size, 2, none⟩ = some (.string sx) ∧ w'.cell? ⟨w2.heap.size, 3, none⟩ = some (.slice ax mx cx) ∧ w'.cell? ⟨w4.heap.size, 0, none⟩ = some (.int .i64 ky) ∧ w'.cell? ⟨w4.heap.size, 1, none⟩ = some (.int .i64 ny) ∧ w'.cell? ⟨w4.heap.size, 2, none⟩ = some (.string sy) ∧ w'.cell? ⟨w4.heap.size, 3, none⟩ = some (.slice ay my cy)) ∧ Below w5.heap.size w5 w') (by kernel_rfl) ⟨⟨x0, x1, x2, x3, y0, y1, y2, y3⟩, (Below.refl _ _).drew⟩ (fun hHeld => ?_)
      first | (refine held_t (i := 0) hHeld ?_; apply Exists.intro; refine ⟨fun wq hq => ?_, ?_⟩; (focus ((try dsimp only at hq); go_simp; (first | done | with_reducible rfl | fail)))) | refine held_s (i := 0) hHeld ?_ | fail
      first | (refine held_t (i := 1) hHeld ?_; apply Exists.intro; refine ⟨fun wq hq => ?_, ?_⟩; (focus ((try dsimp only at hq); go_simp; (first | done | with_reducible rfl | fail)))) | refine held_s (i := 1) hHeld ?_ | fail
      first | (refine held_t (i := 2) hHeld ?_; apply Exists.intro; refine ⟨fun wq hq => ?_, ?_⟩; (focus ((try dsimp only at hq); go_simp; (first | done | with_reducible rfl | fail)))) | refine held_s (i := 2) hHeld ?_ | fail
      first | (refine held_t (i := 3) hHeld ?_; apply Exists.intro; refine ⟨fun wq hq => ?_, ?_⟩; (focus ((try dsimp only at hq); go_simp; (first | done | with_reducible rfl | fail)))) | refine held_s (i := 3) hHeld ?_ | fail
      first | (refine held_t (i := 4) hHeld ?_; apply Exists.intro; refine ⟨fun wq hq => ?_, ?_⟩; (focus ((try dsimp only at hq); go_simp; (first | done | with_reducible rfl | fail)))) | refine held_s (i := 4) hHeld ?_ | fail
      first | (refine held_t (i := 6) hHeld ?_; apply Exists.intro; refine ⟨fun wq hq => ?_, ?_⟩; (focus ((try dsimp only at hq); go_simp; (first | done | with_reducible rfl | fail)))) | refine held_s (i := 6) hHeld ?_ | fail
      try simp only [Act.put, List.setIfInBounds_toArray, List.set_cons_zero, List.set_cons_succ]
      refine held_c 5 fun K hK => ?_
      go_simp
      (go_at_call 22; refine (HC.out _ hHeld.2).mono ?_; rintro e w6 ⟨v6, rfl, hv6, h6⟩; have HV6 := Lib.hid hv6; clear hv6)
      refine hK.out _ _ (⟨⟨cell_later h6 hHeld.1.1, cell_later h6 hHeld.1.2.1, cell_later h6 hHeld.1.2.2.1, cell_later h6 hHeld.1.2.2.2.1, cell_later h6 hHeld.1.2.2.2.2.1, cell_later h6 hHeld.1.2.2.2.2.2.1, cell_later h6 hHeld.1.2.2.2.2.2.2.1, cell_later h6 hHeld.1.2.2.2.2.2.2.2⟩, Ext.trans' hHeld.2 h6⟩) (fun hHeld => ?_)
      clear hK K
      try simp only [Act.put, List.setIfInBounds_toArray, List.set_cons_zero, List.set_cons_succ]
      refine held_c 7 fun K hK => ?_
      go_simp
      (go_at_call 30; refine (rsame_at _ WR.1 (Nat.le_refl _) WR.1 _ _ _ (TmV.stay (Stays.unhide _ _) _ _ HV6.out) (TmV.ext hHeld.2 _ _ HY.out)).mono ?_; rintro e w7 ⟨rfl, h7⟩; rw [same_self])
      refine hK.out _ _ (⟨⟨cell_later h7 hHeld.1.1, cell_later h7 hHeld.1.2.1, cell_later h7 hHeld.1.2.2.1, cell_later h7 hHeld.1.2.2.2.1, cell_later h7 hHeld.1.2.2.2.2.1, cell_later h7 hHeld.1.2.2.2.2.2.1, cell_later h7 hHeld.1.2.2.2.2.2.2.1, cell_later h7 hHeld.1.2.2.2.2.2.2.2⟩, Ext.trans' hHeld.2 h7⟩) (fun hHeld => ?_)
      clear hK K
      try simp only [Act.put, List.setIfInBounds_toArray, List.set_cons_zero, List.set_cons_succ]
      first | (refine held_t (i := 8) hHeld ?_; apply Exists.intro; refine ⟨fun wq hq => ?_, ?_⟩; (focus ((try dsimp only at hq); go_simp; (first | done | with_reducible rfl | fail)))) | refine held_s (i := 8) hHeld ?_ | fail
      first | (refine held_t (i := 9) hHeld ?_; apply Exists.intro; refine ⟨fun wq hq => ?_, ?_⟩; (focus ((try dsimp only at hq); go_simp; (first | done | with_reducible rfl | fail)))) | refine held_s (i := 9) hHeld ?_ | fail
      try simp only [Act.put, List.setIfInBounds_toArray, List.set_cons_zero, List.set_cons_succ]
      have HEND := Lib.hid hHeld.2
      clear hHeld
      refine wpAnyH_done (by kernel_rfl) ?_ _
      go_wp2
      go_roundw
      case rel => exact ⟨j + 1, by omega, by go_num, Lib.hid (Ext.trans' HB5.out.1 HEND.out)⟩
      case measure => simp [intOf]; omega
    · have hjN2 : j = N := by omega
      subst hjN2
      have d0' := cell_later HW.out d0
      have d2' := cell_later HW.out d2
      clear d0 d2 d1
      go_wp2_with fail
      (refine wp_region_class (fun w' => (w'.cell? ⟨bt, 0, none⟩ = some (.slice a1 j c1) ∧ w'.cell? ⟨bt, 2, none⟩ = some (.slice a3 R.length c3)) ∧ Below w.heap.size w w') (by kernel_rfl) (by kernel_rfl) (⟨⟨d0', d2'⟩, HW.out.drew⟩) ?_; (repeat (first | go_big_quiet_skip | (go_big_quiet_want; refine quiet_of ?_; apply Exists.intro; refine ⟨fun wq hq => ?_, ?_⟩; (focus ((try dsimp only at hq); go_simp; (first | done | with_reducible rfl | ((first | (go_at_call 37; refine (Mark_at (HB.out.ext hq.2)).mono ?_; rintro e w6 ⟨rfl, rfl⟩; exact ⟨rfl, hq⟩) | (go_at_call 20; refine (Len_at (HB.out.ext hq.2)).mono ?_; rintro e w6 ⟨rfl, rfl⟩; exact ⟨rfl, hq⟩) | fail)) | fail))); try simp only [Act.put, List.setIfInBounds_toArray, List.set_cons_zero, List.set_cons_succ]; go_big_quiet_on) | fail)); refine wpQuiet_nil ?_; intro wz hz)
      go_wp2
      go_ret
      exact ⟨rfl, hz.2⟩
end
end Go.Proofs.Ytjhoekhfikcanaa
/- The document's side of chapter 11: one more variable, in memory. -/
namespace Go.Proofs.Ytjhoekhfikcanaa
open Go.RowKit
set_option linter.unusedVariables false

section
variable {V w : World} {F : List Nat} {p : Value} {N : Nat} {R : List (Int × Tm)}
theorem IsR.grow (h : IsR V F w p N R) (hN : N < 65536) {bt : Nat} (hp : p = .pointer (some ⟨bt, 0, none⟩)) {a1 a2 : Option Addr} {c1 c2 : Nat} (hc1 : w.cell? ⟨bt, 0, none⟩ = some (.slice a1 N c1)) (hc2 : w.cell? ⟨bt, 1, none⟩ = some (.slice a2 N c2)) :
    ∃ xs ys, w.ownsRow 0 48 4 (.slice a1 N c1) N xs ∧ w.ownsRow 0 4 1 (.slice a2 N c2) N ys ∧
      (∀ x1 wA x2 : World, Below w.heap.size w x1 → x1.grownBy wA (Value.slice a1 N c1).ownBlock → Below wA.heap.size wA x2 → x2.ownsRow 0 4 1 (.slice a2 N c2) N ys ∧ (∀ j, x2.cell? ⟨bt, j, none⟩ = w.cell? ⟨bt, j, none⟩) ∧ (∀ j, x2.frozen? ⟨bt, j, none⟩ = false)) ∧
      ∀ (x1 wA x2 wB : World) (v1 v2 : Value), Below w.heap.size w x1 → x1.grownBy wA (Value.slice a1 N c1).ownBlock → (v1.ownBlock = (Value.slice a1 N c1).ownBlock ∨ v1.ownBlock = some x1.heap.size) → wA.ownsRow 0 48 4 v1 (N + 1) (xs ++ [.int .i64 0, .int .i64 0, .string ⟨#[]⟩, .slice none 0 0]) →
        Below wA.heap.size wA x2 → x2.grownBy wB (Value.slice a2 N c2).ownBlock → (v2.ownBlock = (Value.slice a2 N c2).ownBlock ∨ v2.ownBlock = some x2.heap.size) → wB.ownsRow 0 4 1 v2 (N + 1) (ys ++ [.bool false]) →
        (∀ j, wB.cell? ⟨bt, j, none⟩ = w.cell? ⟨bt, j, none⟩) ∧ (∀ j, wB.frozen? ⟨bt, j, none⟩ = false) ∧
          ∃ F', IsR V F' ((wB.setCell ⟨bt, 0, none⟩ v1).setCell ⟨bt, 1, none⟩ v2) p (N + 1) R ∧ Touch F w ((wB.setCell ⟨bt, 0, none⟩ v1).setCell ⟨bt, 1, none⟩ v2) ∧ (∀ k ∈ F', k ∈ F ∨ x1.heap.size ≤ k) ∧ (∀ k, w.heap.size ≤ k → k < x1.heap.size → ((wB.setCell ⟨bt, 0, none⟩ v1).setCell ⟨bt, 1, none⟩ v2).heap[k]? = x1.heap[k]?) ∧ x1.heap.size ≤ ((wB.setCell ⟨bt, 0, none⟩ v1).setCell ⟨bt, 1, none⟩ v2).heap.size := by
  have hF := h.lt
  obtain ⟨bt', v1, v2, v3, ts, bs, rfl, rfl, hn, h1, hl1, hl2, h4, h5, h6, h7, h8, h9, h10, h11⟩ := h
  cases hp
  have hv : v1 = .slice a1 N c1 := by
    have : w.cell? ⟨bt, 0, none⟩ = some v1 := by simp [blk_cell h1]
    rw [hc1] at this
    exact (Option.some.inj this).symm
  subst hv
  have hv : v2 = .slice a2 N c2 := by
    have : w.cell? ⟨bt, 1, none⟩ = some v2 := by simp [blk_cell h1]
    rw [hc2] at this
    exact (Option.some.inj this).symm
  subst hv
  have hnb := List.nodup_cons.1 hn
  have hbt : bt < w.heap.size := hF bt (by simp)
  have hb1 : (Value.slice a1 N c1).ownBlock ≠ some bt := fun e => hnb.1 (by simp [e])
  have hb2 : (Value.slice a2 N c2).ownBlock ≠ some bt := fun e => hnb.1 (by simp [e])
  have hb3 : v3.ownBlock ≠ some bt := fun e => hnb.1 (by simp [e])
  have h12 : ∀ k, (Value.slice a1 N c1).ownBlock = some k → (Value.slice a2 N c2).ownBlock ≠ some k := fun k e1 e2 => (List.nodup_append.1 hnb.2).2.2 k (by simp [e1]) k (by simp [e2]) rfl
  have h13 : ∀ k, (Value.slice a1 N c1).ownBlock = some k → v3.ownBlock ≠ some k := fun k e1 e2 => (List.nodup_append.1 hnb.2).2.2 k (by simp [e1]) k (by simp [e2]) rfl
  have h23 : ∀ k, (Value.slice a2 N c2).ownBlock = some k → v3.ownBlock ≠ some k := fun k e1 e2 => (List.nodup_append.1 (List.nodup_append.1 hnb.2).2.1).2.2 k (by simp [e1]) k (by simp [e2]) rfl
  have ho1 : ∀ k, (Value.slice a1 N c1).ownBlock = some k → k < w.heap.size := fun k e => hF k (by simp [e])
  have ho2 : ∀ k, (Value.slice a2 N c2).ownBlock = some k → k < w.heap.size := fun k e => hF k (by simp [e])
  have ho3 : ∀ k, v3.ownBlock = some k → k < w.heap.size := fun k e => hF k (by simp [e])
  have key2 : ∀ x1 wA x2 : World, Below w.heap.size w x1 → x1.grownBy wA (Value.slice a1 N c1).ownBlock → Below wA.heap.size wA x2 → ∀ k, k < w.heap.size → (Value.slice a1 N c1).ownBlock ≠ some k → x2.heap[k]? = w.heap[k]? := fun x1 wA x2 q1 q2 q3 k hk hne => by
    have := q1.size
    have := q2.size
    rw [q3.block k (by omega), q2.block k (by omega) (fun e => hne e.symm), q1.block k hk]
  refine ⟨_, _, h4, h5, fun x1 wA x2 q1 q2 q3 => ?_, fun x1 wA x2 wB u1 u2 q1 q2 q3 q4 q5 q6 q7 q8 => ?_⟩
  · have hb := key2 x1 wA x2 q1 q2 q3 bt hbt hb1
    exact ⟨row_at h5 (fun g hg => key2 x1 wA x2 q1 q2 q3 g (ho2 g hg) (fun e => h12 g e hg)), fun j => World.cell?_of_block hb, fun j => by simp [World.frozen?, hb, h1]⟩
  · have s1 := q1.size
    have s2 := q2.size
    have s3 := q5.size
    have s4 := q6.size
    have key : ∀ k, k < w.heap.size → (Value.slice a1 N c1).ownBlock ≠ some k → (Value.slice a2 N c2).ownBlock ≠ some k → wB.heap[k]? = w.heap[k]? := fun k hk e1 e2 => by
      rw [q6.block k (by omega) (fun e => e2 e.symm)]
      exact key2 x1 wA x2 q1 q2 q5 k hk e1
    have hb := key bt hbt hb1 hb2
    have bB := hb.trans h1
    have hu1 : ∀ k, u1.ownBlock = some k → (Value.slice a1 N c1).ownBlock = some k ∨ k = x1.heap.size := fun k hk => by
      rcases q3 with e | e <;> rw [hk] at e
      · exact Or.inl e.symm
      · injection e with e; exact Or.inr e
    have hu2 : ∀ k, u2.ownBlock = some k → (Value.slice a2 N c2).ownBlock = some k ∨ k = x2.heap.size := fun k hk => by
      rcases q7 with e | e <;> rw [hk] at e
      · exact Or.inl e.symm
      · injection e with e; exact Or.inr e
    have hwA : ∀ k, u1.ownBlock = some k → k < wA.heap.size := fun k hk => (q4.lt k hk).2
    have n1 : u1.ownBlock ≠ some bt := fun e => by
      rcases hu1 _ e with h | h
      · exact hb1 h
      · omega
    have n2 : u2.ownBlock ≠ some bt := fun e => by
      rcases hu2 _ e with h | h
      · exact hb2 h
      · omega
    have n12 : ∀ k, u1.ownBlock = some k → u2.ownBlock ≠ some k := fun k e1 e2 => by
      have hk := hwA k e1
      rcases hu1 k e1 with h | h <;> rcases hu2 k e2 with g | g
      · exact h12 k h g
      · omega
      · have := ho2 k g; omega
      · omega
    have n13 : ∀ k, u1.ownBlock = some k → v3.ownBlock ≠ some k := fun k e1 e2 => by
      rcases hu1 k e1 with h | h
      · exact h13 k h e2
      · have := ho3 k e2; omega
    have n23 : ∀ k, u2.ownBlock = some k → v3.ownBlock ≠ some k := fun k e1 e2 => by
      rcases hu2 k e1 with h | h
      · exact h23 k h e2
      · have := ho3 k e2; omega
    have hset : ∀ k, k ≠ bt → ((wB.setCell ⟨bt, 0, none⟩ u1).setCell ⟨bt, 1, none⟩ u2).heap[k]? = wB.heap[k]? := fun k hk => (Below.heap_setCell _ _ _ k hk).trans (Below.heap_setCell _ _ _ k hk)
    have tw : Touch (bt :: ((Value.slice a1 N c1).ownBlock.toList ++ ((Value.slice a2 N c2).ownBlock.toList ++ v3.ownBlock.toList))) w ((wB.setCell ⟨bt, 0, none⟩ u1).setCell ⟨bt, 1, none⟩ u2) := by
      refine ⟨q6.os.trans (q5.os.trans (q2.os.trans q1.os)), q6.tape.trans (q5.tape.trans (q2.tape.trans q1.tape)), q6.output.trans (q5.output.trans (q2.output.trans q1.output)), by simp [World.setCell]; omega, fun j hj hm => ?_⟩
      simp only [List.mem_cons, List.mem_append, Option.mem_toList, not_or] at hm
      rw [hset j hm.1]
      exact key j hj hm.2.1 hm.2.2.1
    have hin : ∀ k ∈ bt :: (u1.ownBlock.toList ++ (u2.ownBlock.toList ++ v3.ownBlock.toList)), k ∈ bt :: ((Value.slice a1 N c1).ownBlock.toList ++ ((Value.slice a2 N c2).ownBlock.toList ++ v3.ownBlock.toList)) ∨ x1.heap.size ≤ k := fun k hk => by
      simp only [List.mem_cons, List.mem_append, Option.mem_toList] at hk ⊢
      rcases hk with hk | hk | hk | hk
      · exact Or.inl (Or.inl hk)
      · rcases hu1 k hk with h | h
        · exact Or.inl (Or.inr (Or.inl h))
        · exact Or.inr (by omega)
      · rcases hu2 k hk with h | h
        · exact Or.inl (Or.inr (Or.inr (Or.inl h)))
        · exact Or.inr (by omega)
      · exact Or.inl (Or.inr (Or.inr (Or.inr hk)))
    refine ⟨fun j => World.cell?_of_block hb, fun j => by simp [World.frozen?, bB], _, ⟨bt, u1, u2, v3, ts ++ [(varV 0, .slice none 0 0)], bs ++ [false], rfl, rfl, ?_, ?_, by simp [hl1], by simp [hl2], ?_, ?_, ?_, ⟨fun i hi => ?_, fun i t ht => ?_⟩, h8.more, by omega, h10.touch h11 tw, Blind.some h11 h10 (fun k hk => (hin k hk).imp id (fun h => Nat.le_trans s1 h))⟩, tw, hin, fun k g1 g2 => by
      rw [hset k (by omega), q6.block k (by omega) (fun e => by have := ho2 k e.symm; omega), q5.block k (by omega), q2.block k g2 (fun e => by have := ho1 k e.symm; omega)], by simp [World.setCell]; omega⟩
    · refine List.nodup_cons.2 ⟨fun hm => ?_, List.nodup_append.2 ⟨by cases u1.ownBlock <;> simp, List.nodup_append.2 ⟨by cases u2.ownBlock <;> simp, by cases v3.ownBlock <;> simp, fun a ha b hb e => ?_⟩, fun a ha b hb e => ?_⟩⟩
      · simp only [List.mem_append, Option.mem_toList] at hm
        rcases hm with hm | hm | hm
        · exact n1 hm
        · exact n2 hm
        · exact hb3 hm
      · subst e
        simp only [Option.mem_toList] at ha hb
        exact n23 a ha hb
      · subst e
        simp only [List.mem_append, Option.mem_toList] at ha hb
        rcases hb with hb | hb
        · exact n12 a ha hb
        · exact n13 a ha hb
    · rw [blk_setc (blk_setc bB 0 u1) 1 u2]; rfl
    · rw [List.flatMap_append]
      refine row_at q4 (fun g hg => ?_)
      have hgb : g ≠ bt := fun e => n1 (by rw [← e]; exact hg)
      have hgA := hwA g hg
      rw [hset g hgb, q6.block g (by omega) (fun e => ?_), q5.block g hgA]
      rcases hu1 g hg with h | h
      · exact h12 g h e.symm
      · have := ho2 g e.symm; omega
    · rw [List.map_append]
      exact row_at q8 (fun g hg => hset g (fun e => n2 (by rw [← e]; exact hg)))
    · exact row_at h6 (fun g hg => by
        rw [hset g (fun e => hb3 (by rw [← e]; exact hg))]
        exact key g (ho3 g hg) (fun e => h13 g e hg) (fun e => h23 g e hg))
    · by_cases hiN : i < N
      · rw [List.getElem?_append_left (by omega)]
        exact h7.is i hiN
      · have : i = N := by omega
        subst this
        rw [List.getElem?_append_right (by omega), hl2, Nat.sub_self]
        have hno : getB R (i : Int) = none := by
          rw [get_none]
          intro hd
          obtain ⟨q, hq, e⟩ := List.mem_map.1 hd
          have := (h8.mem (p := q) hq).2.1
          omega
        rw [hno]; rfl
    · obtain ⟨u, e1, e2⟩ := h7.held i t ht
      exact ⟨u, by rw [List.getElem?_append_left (List.getElem?_eq_some_iff.1 e1).1]; exact e1, e2⟩
end
end Go.Proofs.Ytjhoekhfikcanaa
