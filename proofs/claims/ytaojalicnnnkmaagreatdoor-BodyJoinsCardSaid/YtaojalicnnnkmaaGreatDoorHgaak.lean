import Derived.Test.YtaojalicnnnkmaaGreatDoorHgaaj
set_option linter.unusedVariables false
set_option linter.unusedSimpArgs false
/- Stage 14's laws: their own copy of a term. -/
namespace Go.Proofs.YtaojalicnnnkmaaGreatDoor
open Go.RowKit
set_option linter.unusedVariables false

set_option maxRecDepth 100000 in
set_option maxHeartbeats 8000000 in
theorem own14_step (N : Nat) (ih : ∀ t, sizeN t < N → ∀ (D : Nat → Bool) (w : World) (v : Value), Old D w → TmV w t v → Calls Tryz.prog 17 #[v] w fun e w' => ∃ v', e = .returned v' ∧ TmV (hide D w') t v' ∧ Below w.heap.size w w')
    (t : Tm) (ht : sizeN t < N + 1) (D : Nat → Bool) (w : World) (v : Value) (hD : Old D w) (hv : TmV w t v) :
    Calls Tryz.prog 17 #[v] w fun e w' => ∃ v', e = .returned v' ∧ TmV (hide D w') t v' ∧ Below w.heap.size w w' := by
  cases t with
  | mk k n s ts =>
  obtain ⟨u, rfl, hs, hk64, hn64, hu⟩ := tmV_iff.1 hv
  obtain ⟨au, cu, rfl, hu1, hu2, hu3⟩ := hu.len
  obtain ⟨m, hm⟩ : ∃ m, ts.length = m := ⟨_, rfl⟩
  rw [hm] at hu hu1 hu3
  rw [hm]
  unfold BIG at hu3
  unfold maxLen at hu2
  obtain ⟨w1, hw1, hb1, hz1, hx1⟩ := box_new w #[.int .i64 k, .int .i64 n, .string s, .slice au m cu] 31
  obtain ⟨w2, hw2, hb2, hz2, hx2⟩ := box_new w1 #[.int .i64 0, .int .i64 0, .string ⟨#[]⟩, .slice none 0 0] 46
  obtain ⟨w3, hw3, hb3, hz3, hx3⟩ := box_new w2 #[.int .i64 k, .int .i64 n, .string s, .slice none 0 0] 46
  have hB3 := Ext.trans' (Ext.trans' hb1 hb2) hb3
  have hBB := (hb1.size)
  have hRR : w.heap.size ≤ w2.heap.size := Nat.le_trans hb1.size hb2.size
  have HT3 := Lib.hid ((Turn.into (D := D) (M := noM) (Ext.trans' hb1 hb2) hBB).trans (Turn.into (M := noM) hb3 (Nat.le_refl _)))
  have HO3 := Lib.hid (((okd_no hD).box (Ext.trans' hb1 hb2).size hx2.lt).box hb3.size hx3.lt)
  obtain ⟨y0, y1, y2, y3, yf⟩ := (hx1.ext hb2).four
  have HX1 := Lib.hid ((hx1.ext hb2).ext hb3)
  have HX2 := Lib.hid (hx2.ext hb3)
  have HX3 := Lib.hid hx3
  have HU := Lib.hid hu
  have HM := Lib.hid hm
  have HD := Lib.hid hD
  have HSZ := Lib.hid (show ∀ x ∈ ts, sizeN x < N from fun x hx => by have := sizes_mem hx; rw [sizeN] at ht; omega)
  have HIH := Lib.hid ih
  have HK := Lib.hid (And.intro hs (And.intro hk64 hn64))
  obtain ⟨i0, hi0, hz0, hs0, hb0⟩ := info_parts infoTermR
  have h12 : w.heap.size ≠ w1.heap.size := by omega
  have h13 : w.heap.size ≠ w2.heap.size := by omega
  have h23 : w1.heap.size ≠ w2.heap.size := by omega
  have hR : w.heap.size ≤ w2.heap.size := hRR
  have h23w : w2.heap.size < w3.heap.size := by omega
  have h13w : w1.heap.size < w3.heap.size := by omega
  have hBq : w.heap.size ≤ w1.heap.size := hBB
  clear hb1 hb2 hb3 hx1 hx2 hx3 hz1 hz2 hz3 hv hu hD ih ht hm hB3 hs hk64 hn64 hBB hRR
  have HW3 := Lib.hid hw3
  clear hw3
  go_enter Tryz.func17, Tryz.ntmps17
  go_wp2_with fail
  (try rw [hw1])
  (try rw [hw2])
  clear hw1 hw2
  go_wp2_with fail
  (try rw [HW3.out])
  clear y0 y1 y2 y3 yf HW3
  go_loopw [4] (fun i wr => ∃ (D1 : Nat → Bool) (j c : Nat) (a : Option Addr) (ps : List TmP), j ≤ m ∧ i = .int .i64 j ∧ ps.length = j ∧ Hid (ps.map (·.1) = ts.take j) ∧ Hid (Box wr w2.heap.size [.int .i64 k, .int .i64 n, .string s, .slice a j c]) ∧ Hid (RowY D1 noM wr w3.heap.size (.slice a j c) ps) ∧ Hid (Turn D noM D1 noM w wr) ∧ Hid (Okd D1 noM wr) ∧ Hid (D1 w2.heap.size = true ∧ D1 w1.heap.size = true) ∧ Hid (w3.heap.size ≤ wr.heap.size) ∧ Hid (Box wr w.heap.size [.int .i64 k, .int .i64 n, .string s, .slice au m cu]) ∧ Hid (Box wr w1.heap.size [.int .i64 0, .int .i64 0, .string ⟨#[]⟩, .slice none 0 0]))
    (fun i _ => m - (intOf i).toNat)
  case atStart => exact ⟨plusB (plusB D w1.heap.size) w2.heap.size, 0, 0, none, [], Nat.zero_le _, rfl, rfl, Lib.hid rfl, HX3, Lib.hid (RowY.none _ _ _ _), HT3, HO3, Lib.hid ⟨plusB_self _ _, plusB_of (plusB_self _ _)⟩, Lib.hid (Nat.le_refl _), HX1, HX2⟩
  case round =>
    obtain ⟨D1, j, c, a, ps, hj, rfl, hpl, HPS, HXR, HRW, HT, HO, HDR, HZ, HX1, HX2⟩ := hrel
    have HPL := Lib.hid hpl
    obtain ⟨r0, r1, r2, r3, rf⟩ := HXR.out.four
    obtain ⟨t0, t1, t2, t3, tf⟩ := HX1.out.four
    have HBl := Lib.hid (HT.out.bel (Nat.le_refl _) (fun k _ => rfl))
    clear hpl
    by_cases hlt : j < m
    · obtain ⟨x, hx⟩ : ∃ x, ts[j]? = some x := ⟨_, List.getElem?_eq_getElem (by rw [HM.out]; exact hlt)⟩
      obtain ⟨b, off, xk, xn, xs', xu, rfl, hbb, ek, en, es, c0, c1, c2, c3, _, htx⟩ := (HU.out.ext HBl.out).get hx
      have HSX := Lib.hid (HSZ.out x (List.mem_of_getElem? hx))
      have HTX := Lib.hid htx
      have HTK := Lib.hid (take_next hx)
      have HC := Lib.hid (fun (wq : World) (hq : Below wr.heap.size wr wq) => HIH.out x HSX.out D1 wq _ (HO.out.2.mono hq.size) (TmV.ext hq _ _ HTX.out))
      have hbw0 : b < w.heap.size := by
        have := HU.out
        obtain ⟨a', c', e', _, _, _, h4⟩ := this
        cases e'
        rcases h4 with rfl | ⟨b', off', e2, h5, _⟩
        · simp at hx
        · cases e2; exact h5
      have hbR : b ≠ w2.heap.size := by omega
      clear hx htx ek en es
      have hjj : (j : Int) < m := by omega
      go_wp2_with fail
      refine wp_region_held_drew (S := fun w' => (w'.cell? ⟨w.heap.size, 3, none⟩ = some (.slice (some ⟨b, off, none⟩) m cu) ∧ w'.cell? ⟨b, off + j * 4, none⟩ = some (.int .i64 xk) ∧ w'.cell? ⟨b, off + j * 4 + 1, none⟩ = some (.int .i64 xn) ∧ w'.cell? ⟨b, off + j * 4 + 2, none⟩ = some (.string xs') ∧ w'.cell? ⟨b, off + j * 4 + 3, none⟩ = some xu)) (by kernel_rfl) ⟨t3, c0, c1, c2, c3⟩ (fun hHeld => ?_)
      have HROW := Lib.hid (fun (wq : World) (hq : Below wr.heap.size wr wq) (o : Obj) => (show (wq.alloc o).ownsRow w3.heap.size 46 4 (.slice a j c) j (ps.flatMap pCells) from by
        have h := (HRW.out.turn (M := noM) (Turn.below (Ext.trans' hq (bel1' wq o))) HO.out.1).1
        unfold RowP at h
        rw [HPL.out] at h
        exact h))
      have h2w : w2.heap.size < w3.heap.size := h23w
      have h1w : w1.heap.size < w3.heap.size := h13w
      have h0w : w.heap.size < w3.heap.size := by omega
      have hbw : b < w3.heap.size := by omega
      first | (refine held_t (i := 0) hHeld ?_; apply Exists.intro; refine ⟨fun wq hq => ?_, ?_⟩; (focus ((try dsimp only at hq); go_simp; (first | done | with_reducible rfl | fail)))) | refine held_s (i := 0) hHeld ?_ | fail
      first | (refine held_t (i := 2) hHeld ?_; apply Exists.intro; refine ⟨fun wq hq => ?_, ?_⟩; (focus ((try dsimp only at hq); go_simp; (first | done | with_reducible rfl | fail)))) | refine held_s (i := 2) hHeld ?_ | fail
      first | (refine held_t (i := 3) hHeld ?_; apply Exists.intro; refine ⟨fun wq hq => ?_, ?_⟩; (focus ((try dsimp only at hq); go_simp; (first | done | with_reducible rfl | fail)))) | refine held_s (i := 3) hHeld ?_ | fail
      first | (refine held_t (i := 4) hHeld ?_; apply Exists.intro; refine ⟨fun wq hq => ?_, ?_⟩; (focus ((try dsimp only at hq); go_simp; (first | done | with_reducible rfl | fail)))) | refine held_s (i := 4) hHeld ?_ | fail
      first | (refine held_t (i := 5) hHeld ?_; apply Exists.intro; refine ⟨fun wq hq => ?_, ?_⟩; (focus ((try dsimp only at hq); go_simp; (first | done | with_reducible rfl | fail)))) | refine held_s (i := 5) hHeld ?_ | fail
      first | (refine held_t (i := 6) hHeld ?_; apply Exists.intro; refine ⟨fun wq hq => ?_, ?_⟩; (focus ((try dsimp only at hq); go_simp; (first | done | with_reducible rfl | fail)))) | refine held_s (i := 6) hHeld ?_ | fail
      try simp only [Act.put, List.setIfInBounds_toArray, List.set_cons_zero, List.set_cons_succ]
      refine wpAnyH_ready (rs := [1, 7]) (by kernel_rfl) (by simp) ?_
      refine AllReadyH.cons (by simp only [List.getElem?_toArray, List.getElem?_cons_zero, List.getElem?_cons_succ]; rfl) (fun K hK => ?_) (AllReadyH.cons (by simp only [List.getElem?_toArray, List.getElem?_cons_zero, List.getElem?_cons_succ]; rfl) (fun K hK => ?_) AllReadyH.nil)
      · go_simp
        skip
        refine hK.out _ _ (hHeld) (fun hHeld => ?_)
        clear hK K
        try simp only [Act.put, List.setIfInBounds_toArray, List.set_cons_zero, List.set_cons_succ]
        refine held_c 7 fun K hK => ?_
        go_simp
        (go_at_call 17; refine (HC.out _ ((Below.refl _ _).drew)).mono ?_; rintro e w5 ⟨v5, rfl, hv5, hb5⟩; obtain ⟨k5, n5, s5, a5, m5, c5, rfl, ek, en, es, ep⟩ := four_of hv5; have HEP := Lib.hid ep; have HEK := Lib.hid (And.intro ek (And.intro en es)); have HV5 := Lib.hid hv5; have HB5 := Lib.hid (Ext.trans' (Below.refl wr.heap.size wr).drew hb5); obtain ⟨r0, r1, r2, r3, rf⟩ := (HXR.out.ext HB5.out).four; have r3' : ∀ o, (w5.alloc o).cell? ⟨w2.heap.size, 3, none⟩ = some (.slice a j c) := (fun o => Lib.cell?_alloc_some _ r3); clear ek en es ep hv5)
        refine hK.out _ _ (⟨cell_later HB5.out t3, cell_later HB5.out c0, cell_later HB5.out c1, cell_later HB5.out c2, cell_later HB5.out c3⟩) (fun hHeld => ?_)
        clear hK K
        try simp only [Act.put, List.setIfInBounds_toArray, List.set_cons_zero, List.set_cons_succ]
        refine held_c 8 fun K hK => ?_
        go_simp
        skip
        refine hK.out _ _ (⟨cell_later (bel1' _ _) hHeld.1, cell_later (bel1' _ _) hHeld.2.1, cell_later (bel1' _ _) hHeld.2.2.1, cell_later (bel1' _ _) hHeld.2.2.2.1, cell_later (bel1' _ _) hHeld.2.2.2.2⟩) (fun hHeld => ?_)
        clear hK K
        try simp only [Act.put, List.setIfInBounds_toArray, List.set_cons_zero, List.set_cons_succ]
        refine held_c 9 fun K hK => ?_
        (refine step_append_k (by rfl) _ _ _ (by rfl) w3.heap.size 46 i0 (.agg #[.int .i64 0, .int .i64 0, .string ⟨#[]⟩, .slice none 0 0]) 4 56 Tryz.underlying44 hi0 hz0 hs0 (by decide) hb0 rfl (.slice a j c) j (ps.flatMap pCells) (by rfl) (HROW.out w5 HB5.out _) (some ⟨w5.heap.size, 0, none⟩) 1 1 [.int .i64 k5, .int .i64 n5, .string s5, .slice a5 m5 c5] (by rfl) (by rfl) (Or.inr ⟨_, rfl, fun jj uu hu => cell_new w5 #[.int .i64 k5, .int .i64 n5, .string s5, .slice a5 m5 c5] _ jj uu hu⟩) (by simp [Value.oneCell']) (by unfold maxLen; omega) (by omega) (by have := HB5.out.size; have := HZ.out; simp; omega) (j + 1) (ps.flatMap pCells ++ [.int .i64 k5, .int .i64 n5, .string s5, .slice a5 m5 c5]) rfl rfl ?_; intro a7 c7 w7 hown7 hgrow7 hat7; have hkeep : ∀ g, g < w3.heap.size → w7.heap[g]? = w5.heap[g]? := (fun g hg => (hgrow7.block g (by have := HB5.out.size; have := HZ.out; simp; omega) (fun e => by have := (row_in HRW.out.1 e.symm).1; omega)).trans ((bel1' w5 _).block g (by have := HB5.out.size; have := HZ.out; omega))); have HKP := Lib.hid hkeep; have HGR := Lib.hid hgrow7; have HOW := Lib.hid hown7; have HAT := Lib.hid hat7; have r3 : w7.cell? ⟨w2.heap.size, 3, none⟩ = some (.slice a j c) := (by rw [World.cell?_of_block (hkeep _ h2w)]; exact r3); have rf : w7.frozen? ⟨w2.heap.size, 3, none⟩ = false := (by rw [World.frozen?_of_block (hkeep _ h2w)]; exact rf 3); clear hkeep hgrow7 hown7 hat7)
        refine hK.out _ _ (⟨by rw [World.cell?_of_block (HKP.out _ h0w)]; exact cell_later HB5.out t3, by rw [World.cell?_of_block (HKP.out _ hbw)]; exact cell_later HB5.out c0, by rw [World.cell?_of_block (HKP.out _ hbw)]; exact cell_later HB5.out c1, by rw [World.cell?_of_block (HKP.out _ hbw)]; exact cell_later HB5.out c2, by rw [World.cell?_of_block (HKP.out _ hbw)]; exact cell_later HB5.out c3⟩) (fun hHeld => ?_)
        clear hK K
        try simp only [Act.put, List.setIfInBounds_toArray, List.set_cons_zero, List.set_cons_succ]
        first | (refine held_t (i := 10) hHeld ?_; apply Exists.intro; refine ⟨fun wq hq => ?_, ?_⟩; (focus ((try dsimp only at hq); go_simp; (first | done | with_reducible rfl | fail)))) | refine held_s (i := 10) hHeld ?_ | fail
        try simp only [Act.put, List.setIfInBounds_toArray, List.set_cons_zero, List.set_cons_succ]
        refine held_c 11 fun K hK => ?_
        go_simp
        skip
        refine hK.out _ _ (⟨far_one hHeld.1 h13, far_one hHeld.2.1 hbR, far_one hHeld.2.2.1 hbR, far_one hHeld.2.2.2.1 hbR, far_one hHeld.2.2.2.2 hbR⟩) (fun hHeld => ?_)
        clear hK K
        try simp only [Act.put, List.setIfInBounds_toArray, List.set_cons_zero, List.set_cons_succ]
        refine wpAnyH_done (by kernel_rfl) ?_ _
        have hW5 : Below wr.heap.size wr (w5.alloc (.cells #[.int .i64 k5, .int .i64 n5, .string s5, .slice a5 m5 c5] 46)) := Ext.trans' HB5.out (bel1' w5 _)
        have hRW := HRW.out.turn (Turn.below hW5) HO.out.1
        have hpc : pCells (x, .slice a5 m5 c5) = [.int .i64 k5, .int .i64 n5, .string s5, .slice a5 m5 c5] := by unfold pCells; rw [← HEK.out.1, ← HEK.out.2.1, ← HEK.out.2.2]
        have htW : TmV (hide D1 (w5.alloc (.cells #[.int .i64 k5, .int .i64 n5, .string s5, .slice a5 m5 c5] 46))) x (pVal (x, .slice a5 m5 c5)) := by rw [← HEP.out]; exact TmV.later (bel1' w5 _) HV5.out
        have hR7 := hRW.more htW (HO.out.later hW5.size) HGR.out HAT.out (by rw [HPL.out, hpc]; exact HOW.out)
        have hown : ∀ g, (Value.slice a7 (j + 1) c7).ownBlock = some g → g ≠ w2.heap.size := fun g hg e => by have := (row_in HOW.out hg).1; omega
        have HR8 := Lib.hid (hR7.put ⟨w2.heap.size, 3, none⟩ (.slice a7 (j + 1) c7) (withB_of HDR.out.1) hown)
        have HT8 := Lib.hid (((HT.out.trans (Turn.below hW5)).grown HGR.out (fun g hg => by have := (row_in hRW.1 hg).1; omega) HAT.out).set ⟨w2.heap.size, 3, none⟩ (.slice a7 (j + 1) c7) (Or.inl hR))
        have HO8 := Lib.hid (show Okd (withB D1 (.slice a7 (j + 1) c7)) noM (w7.setCell ⟨w2.heap.size, 3, none⟩ (.slice a7 (j + 1) c7)) from ⟨fun k hk => absurd hk (by simp), fun k hk => by
          rw [withB_no (fun e => by have := (row_in HOW.out e).2; simp [World.setCell] at hk; omega)]
          exact HO.out.2 k (by have h1 := HGR.out.size; have h2 := hW5.size; simp [World.setCell] at hk; omega)⟩)
        have HB8 := Lib.hid (((HXR.out.ext HB5.out).block (HKP.out _ h2w) (by have h1 := HGR.out.size; have h2 := hW5.size; have h3 := HXR.out.lt; omega)).set (k := 3) (u := .slice a7 (j + 1) c7) (by simp))
        have HY1 := Lib.hid (((HX1.out.ext HB5.out).block (HKP.out _ h0w) (by have h1 := HGR.out.size; have h2 := hW5.size; have h3 := HX1.out.lt; omega)).far (c := w2.heap.size) (k := 3) (u := .slice a7 (j + 1) c7) h13)
        have HY2 := Lib.hid (((HX2.out.ext HB5.out).block (HKP.out _ h1w) (by have h1 := HGR.out.size; have h2 := hW5.size; have h3 := HX2.out.lt; omega)).far (c := w2.heap.size) (k := 3) (u := .slice a7 (j + 1) c7) h23)
        have HZ8 := Lib.hid (show w3.heap.size ≤ (w7.setCell ⟨w2.heap.size, 3, none⟩ (.slice a7 (j + 1) c7)).heap.size by have h1 := HGR.out.size; have h2 := hW5.size; have := HZ.out; simp [World.setCell]; omega)
        have HP8 := Lib.hid (show (ps ++ [(x, Value.slice a5 m5 c5)]).map (·.1) = ts.take (j + 1) by rw [List.map_append, HTK.out, HPS.out]; rfl)
        clear hRW hpc htW hR7 hown hW5 r0 r1 r2 r3 rf r3' t0 t1 t2 t3 tf c0 c1 c2 c3 hHeld
        go_wp2
        go_roundw
        case rel => exact ⟨_, j + 1, c7, a7, _, hlt, by go_num, by rw [List.length_append, HPL.out]; rfl, HP8, HB8, HR8, HT8, HO8, Lib.hid ⟨withB_of HDR.out.1, withB_of HDR.out.2⟩, HZ8, HY1, HY2⟩
        case measure => simp [intOf]; omega
      · go_simp
        (go_at_call 17; refine (HC.out _ ((Below.refl _ _).drew)).mono ?_; rintro e w5 ⟨v5, rfl, hv5, hb5⟩; obtain ⟨k5, n5, s5, a5, m5, c5, rfl, ek, en, es, ep⟩ := four_of hv5; have HEP := Lib.hid ep; have HEK := Lib.hid (And.intro ek (And.intro en es)); have HV5 := Lib.hid hv5; have HB5 := Lib.hid (Ext.trans' (Below.refl wr.heap.size wr).drew hb5); obtain ⟨r0, r1, r2, r3, rf⟩ := (HXR.out.ext HB5.out).four; have r3' : ∀ o, (w5.alloc o).cell? ⟨w2.heap.size, 3, none⟩ = some (.slice a j c) := (fun o => Lib.cell?_alloc_some _ r3); clear ek en es ep hv5)
        refine hK.out _ _ (⟨cell_later HB5.out t3, cell_later HB5.out c0, cell_later HB5.out c1, cell_later HB5.out c2, cell_later HB5.out c3⟩) (fun hHeld => ?_)
        clear hK K
        try simp only [Act.put, List.setIfInBounds_toArray, List.set_cons_zero, List.set_cons_succ]
        refine wpAnyH_ready (rs := [1, 8]) (by kernel_rfl) (by simp) ?_
        refine AllReadyH.cons (by simp only [List.getElem?_toArray, List.getElem?_cons_zero, List.getElem?_cons_succ]; rfl) (fun K hK => ?_) (AllReadyH.cons (by simp only [List.getElem?_toArray, List.getElem?_cons_zero, List.getElem?_cons_succ]; rfl) (fun K hK => ?_) AllReadyH.nil)
        · go_simp
          skip
          refine hK.out _ _ (hHeld) (fun hHeld => ?_)
          clear hK K
          try simp only [Act.put, List.setIfInBounds_toArray, List.set_cons_zero, List.set_cons_succ]
          refine held_c 8 fun K hK => ?_
          go_simp
          skip
          refine hK.out _ _ (⟨cell_later (bel1' _ _) hHeld.1, cell_later (bel1' _ _) hHeld.2.1, cell_later (bel1' _ _) hHeld.2.2.1, cell_later (bel1' _ _) hHeld.2.2.2.1, cell_later (bel1' _ _) hHeld.2.2.2.2⟩) (fun hHeld => ?_)
          clear hK K
          try simp only [Act.put, List.setIfInBounds_toArray, List.set_cons_zero, List.set_cons_succ]
          refine held_c 9 fun K hK => ?_
          (refine step_append_k (by rfl) _ _ _ (by rfl) w3.heap.size 46 i0 (.agg #[.int .i64 0, .int .i64 0, .string ⟨#[]⟩, .slice none 0 0]) 4 56 Tryz.underlying44 hi0 hz0 hs0 (by decide) hb0 rfl (.slice a j c) j (ps.flatMap pCells) (by rfl) (HROW.out w5 HB5.out _) (some ⟨w5.heap.size, 0, none⟩) 1 1 [.int .i64 k5, .int .i64 n5, .string s5, .slice a5 m5 c5] (by rfl) (by rfl) (Or.inr ⟨_, rfl, fun jj uu hu => cell_new w5 #[.int .i64 k5, .int .i64 n5, .string s5, .slice a5 m5 c5] _ jj uu hu⟩) (by simp [Value.oneCell']) (by unfold maxLen; omega) (by omega) (by have := HB5.out.size; have := HZ.out; simp; omega) (j + 1) (ps.flatMap pCells ++ [.int .i64 k5, .int .i64 n5, .string s5, .slice a5 m5 c5]) rfl rfl ?_; intro a7 c7 w7 hown7 hgrow7 hat7; have hkeep : ∀ g, g < w3.heap.size → w7.heap[g]? = w5.heap[g]? := (fun g hg => (hgrow7.block g (by have := HB5.out.size; have := HZ.out; simp; omega) (fun e => by have := (row_in HRW.out.1 e.symm).1; omega)).trans ((bel1' w5 _).block g (by have := HB5.out.size; have := HZ.out; omega))); have HKP := Lib.hid hkeep; have HGR := Lib.hid hgrow7; have HOW := Lib.hid hown7; have HAT := Lib.hid hat7; have r3 : w7.cell? ⟨w2.heap.size, 3, none⟩ = some (.slice a j c) := (by rw [World.cell?_of_block (hkeep _ h2w)]; exact r3); have rf : w7.frozen? ⟨w2.heap.size, 3, none⟩ = false := (by rw [World.frozen?_of_block (hkeep _ h2w)]; exact rf 3); clear hkeep hgrow7 hown7 hat7)
          refine hK.out _ _ (⟨by rw [World.cell?_of_block (HKP.out _ h0w)]; exact cell_later HB5.out t3, by rw [World.cell?_of_block (HKP.out _ hbw)]; exact cell_later HB5.out c0, by rw [World.cell?_of_block (HKP.out _ hbw)]; exact cell_later HB5.out c1, by rw [World.cell?_of_block (HKP.out _ hbw)]; exact cell_later HB5.out c2, by rw [World.cell?_of_block (HKP.out _ hbw)]; exact cell_later HB5.out c3⟩) (fun hHeld => ?_)
          clear hK K
          try simp only [Act.put, List.setIfInBounds_toArray, List.set_cons_zero, List.set_cons_succ]
          first | (refine held_t (i := 10) hHeld ?_; apply Exists.intro; refine ⟨fun wq hq => ?_, ?_⟩; (focus ((try dsimp only at hq); go_simp; (first | done | with_reducible rfl | fail)))) | refine held_s (i := 10) hHeld ?_ | fail
          try simp only [Act.put, List.setIfInBounds_toArray, List.set_cons_zero, List.set_cons_succ]
          refine held_c 11 fun K hK => ?_
          go_simp
          skip
          refine hK.out _ _ (⟨far_one hHeld.1 h13, far_one hHeld.2.1 hbR, far_one hHeld.2.2.1 hbR, far_one hHeld.2.2.2.1 hbR, far_one hHeld.2.2.2.2 hbR⟩) (fun hHeld => ?_)
          clear hK K
          try simp only [Act.put, List.setIfInBounds_toArray, List.set_cons_zero, List.set_cons_succ]
          refine wpAnyH_done (by kernel_rfl) ?_ _
          have hW5 : Below wr.heap.size wr (w5.alloc (.cells #[.int .i64 k5, .int .i64 n5, .string s5, .slice a5 m5 c5] 46)) := Ext.trans' HB5.out (bel1' w5 _)
          have hRW := HRW.out.turn (Turn.below hW5) HO.out.1
          have hpc : pCells (x, .slice a5 m5 c5) = [.int .i64 k5, .int .i64 n5, .string s5, .slice a5 m5 c5] := by unfold pCells; rw [← HEK.out.1, ← HEK.out.2.1, ← HEK.out.2.2]
          have htW : TmV (hide D1 (w5.alloc (.cells #[.int .i64 k5, .int .i64 n5, .string s5, .slice a5 m5 c5] 46))) x (pVal (x, .slice a5 m5 c5)) := by rw [← HEP.out]; exact TmV.later (bel1' w5 _) HV5.out
          have hR7 := hRW.more htW (HO.out.later hW5.size) HGR.out HAT.out (by rw [HPL.out, hpc]; exact HOW.out)
          have hown : ∀ g, (Value.slice a7 (j + 1) c7).ownBlock = some g → g ≠ w2.heap.size := fun g hg e => by have := (row_in HOW.out hg).1; omega
          have HR8 := Lib.hid (hR7.put ⟨w2.heap.size, 3, none⟩ (.slice a7 (j + 1) c7) (withB_of HDR.out.1) hown)
          have HT8 := Lib.hid (((HT.out.trans (Turn.below hW5)).grown HGR.out (fun g hg => by have := (row_in hRW.1 hg).1; omega) HAT.out).set ⟨w2.heap.size, 3, none⟩ (.slice a7 (j + 1) c7) (Or.inl hR))
          have HO8 := Lib.hid (show Okd (withB D1 (.slice a7 (j + 1) c7)) noM (w7.setCell ⟨w2.heap.size, 3, none⟩ (.slice a7 (j + 1) c7)) from ⟨fun k hk => absurd hk (by simp), fun k hk => by
            rw [withB_no (fun e => by have := (row_in HOW.out e).2; simp [World.setCell] at hk; omega)]
            exact HO.out.2 k (by have h1 := HGR.out.size; have h2 := hW5.size; simp [World.setCell] at hk; omega)⟩)
          have HB8 := Lib.hid (((HXR.out.ext HB5.out).block (HKP.out _ h2w) (by have h1 := HGR.out.size; have h2 := hW5.size; have h3 := HXR.out.lt; omega)).set (k := 3) (u := .slice a7 (j + 1) c7) (by simp))
          have HY1 := Lib.hid (((HX1.out.ext HB5.out).block (HKP.out _ h0w) (by have h1 := HGR.out.size; have h2 := hW5.size; have h3 := HX1.out.lt; omega)).far (c := w2.heap.size) (k := 3) (u := .slice a7 (j + 1) c7) h13)
          have HY2 := Lib.hid (((HX2.out.ext HB5.out).block (HKP.out _ h1w) (by have h1 := HGR.out.size; have h2 := hW5.size; have h3 := HX2.out.lt; omega)).far (c := w2.heap.size) (k := 3) (u := .slice a7 (j + 1) c7) h23)
          have HZ8 := Lib.hid (show w3.heap.size ≤ (w7.setCell ⟨w2.heap.size, 3, none⟩ (.slice a7 (j + 1) c7)).heap.size by have h1 := HGR.out.size; have h2 := hW5.size; have := HZ.out; simp [World.setCell]; omega)
          have HP8 := Lib.hid (show (ps ++ [(x, Value.slice a5 m5 c5)]).map (·.1) = ts.take (j + 1) by rw [List.map_append, HTK.out, HPS.out]; rfl)
          clear hRW hpc htW hR7 hown hW5 r0 r1 r2 r3 rf r3' t0 t1 t2 t3 tf c0 c1 c2 c3 hHeld
          go_wp2
          go_roundw
          case rel => exact ⟨_, j + 1, c7, a7, _, hlt, by go_num, by rw [List.length_append, HPL.out]; rfl, HP8, HB8, HR8, HT8, HO8, Lib.hid ⟨withB_of HDR.out.1, withB_of HDR.out.2⟩, HZ8, HY1, HY2⟩
          case measure => simp [intOf]; omega
        · go_simp
          skip
          refine hK.out _ _ (⟨cell_later (bel1' _ _) hHeld.1, cell_later (bel1' _ _) hHeld.2.1, cell_later (bel1' _ _) hHeld.2.2.1, cell_later (bel1' _ _) hHeld.2.2.2.1, cell_later (bel1' _ _) hHeld.2.2.2.2⟩) (fun hHeld => ?_)
          clear hK K
          try simp only [Act.put, List.setIfInBounds_toArray, List.set_cons_zero, List.set_cons_succ]
          refine held_c 1 fun K hK => ?_
          go_simp
          skip
          refine hK.out _ _ (hHeld) (fun hHeld => ?_)
          clear hK K
          try simp only [Act.put, List.setIfInBounds_toArray, List.set_cons_zero, List.set_cons_succ]
          refine held_c 9 fun K hK => ?_
          (refine step_append_k (by rfl) _ _ _ (by rfl) w3.heap.size 46 i0 (.agg #[.int .i64 0, .int .i64 0, .string ⟨#[]⟩, .slice none 0 0]) 4 56 Tryz.underlying44 hi0 hz0 hs0 (by decide) hb0 rfl (.slice a j c) j (ps.flatMap pCells) (by rfl) (HROW.out w5 HB5.out _) (some ⟨w5.heap.size, 0, none⟩) 1 1 [.int .i64 k5, .int .i64 n5, .string s5, .slice a5 m5 c5] (by rfl) (by rfl) (Or.inr ⟨_, rfl, fun jj uu hu => cell_new w5 #[.int .i64 k5, .int .i64 n5, .string s5, .slice a5 m5 c5] _ jj uu hu⟩) (by simp [Value.oneCell']) (by unfold maxLen; omega) (by omega) (by have := HB5.out.size; have := HZ.out; simp; omega) (j + 1) (ps.flatMap pCells ++ [.int .i64 k5, .int .i64 n5, .string s5, .slice a5 m5 c5]) rfl rfl ?_; intro a7 c7 w7 hown7 hgrow7 hat7; have hkeep : ∀ g, g < w3.heap.size → w7.heap[g]? = w5.heap[g]? := (fun g hg => (hgrow7.block g (by have := HB5.out.size; have := HZ.out; simp; omega) (fun e => by have := (row_in HRW.out.1 e.symm).1; omega)).trans ((bel1' w5 _).block g (by have := HB5.out.size; have := HZ.out; omega))); have HKP := Lib.hid hkeep; have HGR := Lib.hid hgrow7; have HOW := Lib.hid hown7; have HAT := Lib.hid hat7; have r3 : w7.cell? ⟨w2.heap.size, 3, none⟩ = some (.slice a j c) := (by rw [World.cell?_of_block (hkeep _ h2w)]; exact r3); have rf : w7.frozen? ⟨w2.heap.size, 3, none⟩ = false := (by rw [World.frozen?_of_block (hkeep _ h2w)]; exact rf 3); clear hkeep hgrow7 hown7 hat7)
          refine hK.out _ _ (⟨by rw [World.cell?_of_block (HKP.out _ h0w)]; exact cell_later HB5.out t3, by rw [World.cell?_of_block (HKP.out _ hbw)]; exact cell_later HB5.out c0, by rw [World.cell?_of_block (HKP.out _ hbw)]; exact cell_later HB5.out c1, by rw [World.cell?_of_block (HKP.out _ hbw)]; exact cell_later HB5.out c2, by rw [World.cell?_of_block (HKP.out _ hbw)]; exact cell_later HB5.out c3⟩) (fun hHeld => ?_)
          clear hK K
          try simp only [Act.put, List.setIfInBounds_toArray, List.set_cons_zero, List.set_cons_succ]
          first | (refine held_t (i := 10) hHeld ?_; apply Exists.intro; refine ⟨fun wq hq => ?_, ?_⟩; (focus ((try dsimp only at hq); go_simp; (first | done | with_reducible rfl | fail)))) | refine held_s (i := 10) hHeld ?_ | fail
          try simp only [Act.put, List.setIfInBounds_toArray, List.set_cons_zero, List.set_cons_succ]
          refine held_c 11 fun K hK => ?_
          go_simp
          skip
          refine hK.out _ _ (⟨far_one hHeld.1 h13, far_one hHeld.2.1 hbR, far_one hHeld.2.2.1 hbR, far_one hHeld.2.2.2.1 hbR, far_one hHeld.2.2.2.2 hbR⟩) (fun hHeld => ?_)
          clear hK K
          try simp only [Act.put, List.setIfInBounds_toArray, List.set_cons_zero, List.set_cons_succ]
          refine wpAnyH_done (by kernel_rfl) ?_ _
          have hW5 : Below wr.heap.size wr (w5.alloc (.cells #[.int .i64 k5, .int .i64 n5, .string s5, .slice a5 m5 c5] 46)) := Ext.trans' HB5.out (bel1' w5 _)
          have hRW := HRW.out.turn (Turn.below hW5) HO.out.1
          have hpc : pCells (x, .slice a5 m5 c5) = [.int .i64 k5, .int .i64 n5, .string s5, .slice a5 m5 c5] := by unfold pCells; rw [← HEK.out.1, ← HEK.out.2.1, ← HEK.out.2.2]
          have htW : TmV (hide D1 (w5.alloc (.cells #[.int .i64 k5, .int .i64 n5, .string s5, .slice a5 m5 c5] 46))) x (pVal (x, .slice a5 m5 c5)) := by rw [← HEP.out]; exact TmV.later (bel1' w5 _) HV5.out
          have hR7 := hRW.more htW (HO.out.later hW5.size) HGR.out HAT.out (by rw [HPL.out, hpc]; exact HOW.out)
          have hown : ∀ g, (Value.slice a7 (j + 1) c7).ownBlock = some g → g ≠ w2.heap.size := fun g hg e => by have := (row_in HOW.out hg).1; omega
          have HR8 := Lib.hid (hR7.put ⟨w2.heap.size, 3, none⟩ (.slice a7 (j + 1) c7) (withB_of HDR.out.1) hown)
          have HT8 := Lib.hid (((HT.out.trans (Turn.below hW5)).grown HGR.out (fun g hg => by have := (row_in hRW.1 hg).1; omega) HAT.out).set ⟨w2.heap.size, 3, none⟩ (.slice a7 (j + 1) c7) (Or.inl hR))
          have HO8 := Lib.hid (show Okd (withB D1 (.slice a7 (j + 1) c7)) noM (w7.setCell ⟨w2.heap.size, 3, none⟩ (.slice a7 (j + 1) c7)) from ⟨fun k hk => absurd hk (by simp), fun k hk => by
            rw [withB_no (fun e => by have := (row_in HOW.out e).2; simp [World.setCell] at hk; omega)]
            exact HO.out.2 k (by have h1 := HGR.out.size; have h2 := hW5.size; simp [World.setCell] at hk; omega)⟩)
          have HB8 := Lib.hid (((HXR.out.ext HB5.out).block (HKP.out _ h2w) (by have h1 := HGR.out.size; have h2 := hW5.size; have h3 := HXR.out.lt; omega)).set (k := 3) (u := .slice a7 (j + 1) c7) (by simp))
          have HY1 := Lib.hid (((HX1.out.ext HB5.out).block (HKP.out _ h0w) (by have h1 := HGR.out.size; have h2 := hW5.size; have h3 := HX1.out.lt; omega)).far (c := w2.heap.size) (k := 3) (u := .slice a7 (j + 1) c7) h13)
          have HY2 := Lib.hid (((HX2.out.ext HB5.out).block (HKP.out _ h1w) (by have h1 := HGR.out.size; have h2 := hW5.size; have h3 := HX2.out.lt; omega)).far (c := w2.heap.size) (k := 3) (u := .slice a7 (j + 1) c7) h23)
          have HZ8 := Lib.hid (show w3.heap.size ≤ (w7.setCell ⟨w2.heap.size, 3, none⟩ (.slice a7 (j + 1) c7)).heap.size by have h1 := HGR.out.size; have h2 := hW5.size; have := HZ.out; simp [World.setCell]; omega)
          have HP8 := Lib.hid (show (ps ++ [(x, Value.slice a5 m5 c5)]).map (·.1) = ts.take (j + 1) by rw [List.map_append, HTK.out, HPS.out]; rfl)
          clear hRW hpc htW hR7 hown hW5 r0 r1 r2 r3 rf r3' t0 t1 t2 t3 tf c0 c1 c2 c3 hHeld
          go_wp2
          go_roundw
          case rel => exact ⟨_, j + 1, c7, a7, _, hlt, by go_num, by rw [List.length_append, HPL.out]; rfl, HP8, HB8, HR8, HT8, HO8, Lib.hid ⟨withB_of HDR.out.1, withB_of HDR.out.2⟩, HZ8, HY1, HY2⟩
          case measure => simp [intOf]; omega
    · have hjm : j = m := by omega
      subst hjm
      obtain ⟨q0, q1, q2, q3, qf⟩ := HX2.out.four
      go_wp2
      refine bodyPost_ret (v := .agg #[.int .i64 k, .int .i64 n, .string s, .slice a j c]) (by rw [results_cell1 rfl]; go_simp) rfl ⟨_, rfl, ?_, ?_⟩
      · have hT := HT.out.set4 (b := w1.heap.size) (Or.inl hBq) (.int .i64 k) (.int .i64 n) (.string s) (.slice a j c)
        have hT4 := HRW.out
        have hRp : RowY D1 noM (set4 wr w1.heap.size (.int .i64 k) (.int .i64 n) (.string s) (.slice a j c)) w3.heap.size (.slice a j c) ps := by
          have hn : ∀ g, (Value.slice a j c).ownBlock = some g → g ≠ w1.heap.size := fun g hg e => by have := (row_in hT4.1 hg).1; omega
          exact (((hT4.put ⟨w1.heap.size, 0, none⟩ _ HDR.out.2 hn).put ⟨w1.heap.size, 1, none⟩ _ HDR.out.2 hn).put ⟨w1.heap.size, 2, none⟩ _ HDR.out.2 hn).put ⟨w1.heap.size, 3, none⟩ _ HDR.out.2 hn
        have hF := RowY.fin (Nat.le_trans hR (Nat.le_of_lt h23w)) hRp hT (HO.out.put4 _ _ _ _ _) (by rw [HPL.out]; unfold BIG; omega)
        rw [fin_no HD.out, HPS.out, List.take_of_length_le (by rw [HM.out]; exact Nat.le_refl _)] at hF
        exact tmV_iff.2 ⟨_, rfl, HK.out.1, HK.out.2.1, HK.out.2.2, hF⟩
      · exact Below.set4 HBl.out hBq _ _ _ _
theorem own14_at (t : Tm) (D : Nat → Bool) (w : World) (v : Value) (hD : Old D w) (hv : TmV w t v) : Calls Tryz.prog 17 #[v] w fun e w' => ∃ v', e = .returned v' ∧ TmV (hide D w') t v' ∧ Below w.heap.size w w' := by
  suffices h : ∀ N (t : Tm), sizeN t < N → ∀ (D : Nat → Bool) (w : World) (v : Value), Old D w → TmV w t v → Calls Tryz.prog 17 #[v] w fun e w' => ∃ v', e = .returned v' ∧ TmV (hide D w') t v' ∧ Below w.heap.size w w' from
    h _ t (Nat.lt_succ_self _) D w v hD hv
  intro N
  induction N with
  | zero => intro t ht; omega
  | succ N ih => intro t ht D w v hD hv; exact own14_step N ih t ht D w v hD hv
end Go.Proofs.YtaojalicnnnkmaaGreatDoor
/- Stage 14's law: its own copy of goals. -/
namespace Go.Proofs.YtaojalicnnnkmaaGreatDoor
open Go.RowKit
set_option linter.unusedVariables false

abbrev set6 (w : World) (b : Nat) (u0 u1 u2 u3 u4 u5 : Value) : World := (((((w.setCell ⟨b, 0, none⟩ u0).setCell ⟨b, 1, none⟩ u1).setCell ⟨b, 2, none⟩ u2).setCell ⟨b, 3, none⟩ u3).setCell ⟨b, 4, none⟩ u4).setCell ⟨b, 5, none⟩ u5
theorem Below.set6 {B : Nat} {w w' : World} (h : Below B w w') {b : Nat} (hb : B ≤ b) (u0 u1 u2 u3 u4 u5 : Value) : Below B w (Go.Proofs.YtaojalicnnnkmaaGreatDoor.set6 w' b u0 u1 u2 u3 u4 u5) :=
  (((((h.setCell (p := ⟨b, 0, none⟩) hb u0).setCell (p := ⟨b, 1, none⟩) hb u1).setCell (p := ⟨b, 2, none⟩) hb u2).setCell (p := ⟨b, 3, none⟩) hb u3).setCell (p := ⟨b, 4, none⟩) hb u4).setCell (p := ⟨b, 5, none⟩) hb u5
theorem TmV.put6 {D : Nat → Bool} {w : World} {t : Tm} {v : Value} (h : TmV (hide D w) t v) {b : Nat} (hd : D b = true) (u0 u1 u2 u3 u4 u5 : Value) : TmV (hide D (Go.Proofs.YtaojalicnnnkmaaGreatDoor.set6 w b u0 u1 u2 u3 u4 u5)) t v :=
  TmV.stay (((((Stays.set ⟨b, 0, none⟩ u0 hd).trans (Stays.set ⟨b, 1, none⟩ u1 hd)).trans (Stays.set ⟨b, 2, none⟩ u2 hd)).trans (Stays.set ⟨b, 3, none⟩ u3 hd)).trans (Stays.set ⟨b, 4, none⟩ u4 hd) |>.trans (Stays.set ⟨b, 5, none⟩ u5 hd)) _ _ h
theorem Box.all6 {w : World} {b : Nat} {v0 v1 v2 v3 v4 v5 : Value} (h : Box w b [v0, v1, v2, v3, v4, v5]) (u0 u1 u2 u3 u4 u5 : Value) : Box (Go.Proofs.YtaojalicnnnkmaaGreatDoor.set6 w b u0 u1 u2 u3 u4 u5) b [u0, u1, u2, u3, u4, u5] :=
  (((((h.set (k := 0) (by simp)).set (k := 1) (by simp)).set (k := 2) (by simp)).set (k := 3) (by simp)).set (k := 4) (by simp)).set (k := 5) (by simp)
/-- The goal's own box, new, beside its term. -/
def GB (D1 : Nat → Bool) (wr : World) (g : Gl) (s : Value) (wx : World) : Prop := ∃ (bg : Nat) (n : Int) (k : Int) (st : ByteArray) (a : Option Addr) (m c : Nat), s = .pointer (some ⟨bg, 0, none⟩) ∧ wr.heap.size ≤ bg ∧ bg < wx.heap.size ∧
  Box wx bg [.int .i64 g.kind, .int .i64 k, .int .i64 n, .string st, .slice a m c, .slice none 0 0] ∧ TmV (hide (plusB D1 bg) wx) g.t (.agg #[.int .i64 k, .int .i64 n, .string st, .slice a m c]) ∧ Below wr.heap.size wr wx
theorem gb_done {D1 : Nat → Bool} {wr wc : World} {g : Gl} {bg : Nat} {k n : Int} {st : ByteArray} {a : Option Addr} {m c : Nat} (hb : wr.heap.size ≤ bg) (hlt : bg < wc.heap.size) {z0 z1 z2 z3 z4 z5 : Value} (hbx : Box wc bg [z0, z1, z2, z3, z4, z5]) (ht : TmV (hide (plusB D1 bg) wc) g.t (.agg #[.int .i64 k, .int .i64 n, .string st, .slice a m c])) (hw : Below wr.heap.size wr wc) :
    GB D1 wr g (.pointer (some ⟨bg, 0, none⟩)) (Go.Proofs.YtaojalicnnnkmaaGreatDoor.set6 wc bg (.int .i64 g.kind) (.int .i64 k) (.int .i64 n) (.string st) (.slice a m c) (.slice none 0 0)) :=
  ⟨bg, n, k, st, a, m, c, rfl, hb, by simpa [World.setCell] using hlt, hbx.all6 _ _ _ _ _ _, ht.put6 (plusB_self _ _) _ _ _ _ _ _, Below.set6 hw hb _ _ _ _ _ _⟩
structure InR (t : Tm) (L : List (List Gl)) (kind : Int) (D1 : Nat → Bool) (wr : World) (bg : Nat) (k n : Int) (st : ByteArray) (a : Option Addr) (m c : Nat) (base q c2 : Nat) (a2 : Option Addr) (D2 : Nat → Bool) (qs : List (List Gl × Value)) (w : World) : Prop where
  len : qs.length = q
  fst : qs.map (·.1) = L.take q
  box : Box w bg [.int .i64 kind, .int .i64 k, .int .i64 n, .string st, .slice a m c, .slice a2 q c2]
  row : RowQ 1 rsCells rsOk 48 D2 noM w base (.slice a2 q c2) qs
  tn : Turn D1 noM D2 noM wr w
  ok : Okd D2 noM w
  hid : D2 bg = true
  sz : base ≤ w.heap.size
  tm : TmV (hide D2 w) t (.agg #[.int .i64 k, .int .i64 n, .string st, .slice a m c])
section
variable {t : Tm} {L : List (List Gl)} {kind : Int} {D1 : Nat → Bool} {wr : World} {bg : Nat} {k n : Int} {st : ByteArray} {a : Option Addr} {m c : Nat} {base q c2 : Nat} {a2 : Option Addr} {D2 : Nat → Bool} {qs : List (List Gl × Value)} {w : World}
theorem InR.own (h : InR t L kind D1 wr bg k n st a m c base q c2 a2 D2 qs w) {w5 : World} (hb : Below w.heap.size w w5) (o : Obj) : (w5.alloc o).ownsRow base 48 1 (.slice a2 q c2) q (qs.flatMap rsCells) := by
  have h1 := (h.row.turn (M := noM) @rsOk_stay (Turn.below (D := D2) (M := noM) (Ext.trans' hb (bel1' w5 o))) h.ok.1).1
  rw [h.len] at h1
  exact h1
theorem InR.more (h : InR t L kind D1 wr bg k n st a m c base q c2 a2 D2 qs w) (hbg : bg < base) (hbr : wr.heap.size ≤ bg) {r : List Gl} (hx : L[q]? = some r) {w5 : World} (hb5 : Below w.heap.size w w5) {a6 : Option Addr} {m6 c6 : Nat} (hv : GoalsV (hide D2 w5) r (.slice a6 m6 c6))
    {a7 : Option Addr} {c7 : Nat} {w7 : World} (hown : w7.ownsRow base 48 1 (.slice a7 (q + 1) c7) (q + 1) (qs.flatMap rsCells ++ [.slice a6 m6 c6])) (hg : (w5.alloc (.cells #[.slice a6 m6 c6] 48)).grownBy w7 (Value.slice a2 q c2).ownBlock)
    (hat : (Value.slice a7 (q + 1) c7).ownBlock = (Value.slice a2 q c2).ownBlock ∨ (Value.slice a7 (q + 1) c7).ownBlock = some (w5.alloc (.cells #[.slice a6 m6 c6] 48)).heap.size) :
    Box w7 bg [.int .i64 kind, .int .i64 k, .int .i64 n, .string st, .slice a m c, .slice a2 q c2] ∧ (∀ x, x < base → w7.heap[x]? = w5.heap[x]?) ∧
      InR t L kind D1 wr bg k n st a m c base (q + 1) c7 a7 (withB D2 (.slice a7 (q + 1) c7)) (qs ++ [(r, .slice a6 m6 c6)]) (w7.setCell ⟨bg, 5, none⟩ (.slice a7 (q + 1) c7)) := by
  have hW5 : Below w.heap.size w (w5.alloc (.cells #[.slice a6 m6 c6] 48)) := Ext.trans' hb5 (bel1' w5 _)
  have hrow9 := h.own hb5 (.cells #[.slice a6 m6 c6] 48)
  have hbx9 := h.box.ext hW5
  have hRW := h.row.turn (M := noM) @rsOk_stay (Turn.below (D := D2) (M := noM) hW5) h.ok.1
  have hok5 : rsOk (hide D2 (w5.alloc (.cells #[.slice a6 m6 c6] 48))) (r, .slice a6 m6 c6) := hv.stay (stays_bel (bel1' w5 _))
  have hb7 : Box w7 bg [.int .i64 kind, .int .i64 k, .int .i64 n, .string st, .slice a m c, .slice a2 q c2] :=
    hbx9.block (hg.block _ hbx9.lt (fun e => by have := (row_in hrow9 e.symm).1; omega)) (Nat.lt_of_lt_of_le hbx9.lt hg.size)
  have hwb : wr.heap.size ≤ base := by omega
  have hT9 := (h.tn.trans (Turn.below (D := D2) (M := noM) hW5)).grown hg (fun g hg' => by have := (row_in hrow9 hg').1; omega) hat
  have hR7 := hRW.more @rsOk_stay (p := (r, .slice a6 m6 c6)) hok5 (h.ok.later hW5.size) hg hat (by rw [h.len]; exact hown)
  have hne : ∀ g, (Value.slice a7 (q + 1) c7).ownBlock = some g → g ≠ bg := fun g hg' e => by have := (row_in hown hg').1; omega
  have htk : L.take (q + 1) = L.take q ++ [r] := by rw [List.take_add_one, hx]; rfl
  have hst := grown_stays hg (fun g e => (hRW.2.1 g e).1) hat
  refine ⟨hb7, fun x hx' => ?_, by rw [List.length_append, h.len]; rfl, by rw [List.map_append, h.fst, htk]; rfl, hb7.set (k := 5) (by simp), hR7.put @rsOk_stay ⟨bg, 5, none⟩ _ (withB_of h.hid) hne, hT9.set ⟨bg, 5, none⟩ _ (Or.inl hbr), ⟨fun x hx' => absurd hx' (by simp), fun x hx' => ?_⟩, withB_of h.hid, ?_, ?_⟩
  · have h1 := hb5.size
    have h2 := h.sz
    exact (hg.block _ (by simp; omega) (fun e => by have := (row_in hrow9 e.symm).1; omega)).trans ((bel1' w5 _).block x (by omega))
  · rw [withB_no (fun e => by have := (row_in hown e).2; simp [World.setCell] at hx'; omega)]
    exact h.ok.2 x (by have h1 := hg.size; have h2 := hW5.size; simp [World.setCell] at hx'; omega)
  · have h1 := hg.size; have h2 := hW5.size; have h3 := h.sz; simp [World.setCell]; omega
  · exact TmV.stay (Stays.set ⟨bg, 5, none⟩ _ (withB_of h.hid)) _ _ (TmV.stay hst _ _ (TmV.stay (stays_bel hW5) _ _ h.tm))
end
/-- The outer row in the making. -/
def GI (w : World) (l : List Gl) (D : Nat → Bool) (j c : Nat) (a : Option Addr) (wr : World) : Prop :=
  ∃ (D1 : Nat → Bool) (ps : List GlP), ps.length = j ∧ ps.map (·.g) = l.take j ∧ RowQ 6 glCells glOk 80 D1 noM wr w.heap.size (.slice a j c) ps ∧ Turn D noM D1 noM w wr ∧ Okd D1 noM wr
theorem gi_more {w : World} {l : List Gl} {D D1 : Nat → Bool} {j c' : Nat} {a' : Option Addr} {wr wx : World} {ps : List GlP} {g : Gl} {u v : Value} (hpl : ps.length = j) (hpm : ps.map (·.g) = l.take j) (hrow : RowQ 6 glCells glOk 80 D1 noM wr w.heap.size (.slice a' j c') ps) (htn : Turn D noM D1 noM w wr) (hok : Okd D1 noM wr)
    (hx : l[j]? = some g) (hb : Below wr.heap.size wr wx) (hg : GlC (hide D1 wx) g u v) {cs : Array Value} (hcs : cs.toList = glCells ⟨g, u, v⟩) :
    (wx.alloc (.cells cs 80)).ownsRow w.heap.size 80 6 (.slice a' j c') j (ps.flatMap glCells) ∧ ∀ (a7 : Option Addr) (c7 : Nat) (w7 : World), w7.ownsRow w.heap.size 80 6 (.slice a7 (j + 1) c7) (j + 1) (ps.flatMap glCells ++ cs.toList) → (wx.alloc (.cells cs 80)).grownBy w7 (Value.slice a' j c').ownBlock →
      ((Value.slice a7 (j + 1) c7).ownBlock = (Value.slice a' j c').ownBlock ∨ (Value.slice a7 (j + 1) c7).ownBlock = some (wx.alloc (.cells cs 80)).heap.size) → GI w l D (j + 1) c7 a7 w7 := by
  have hW5 : Below wr.heap.size wr (wx.alloc (.cells cs 80)) := Ext.trans' hb (bel1' wx _)
  have hRW := hrow.turn (M := noM) @glOk_stay (Turn.below (D := D1) (M := noM) hW5) hok.1
  have hrow9 : (wx.alloc (.cells cs 80)).ownsRow w.heap.size 80 6 (.slice a' j c') j (ps.flatMap glCells) := by
    have h1 := hRW.1
    rw [hpl] at h1
    exact h1
  refine ⟨hrow9, fun a7 c7 w7 hown hgr hat => ⟨withB D1 (.slice a7 (j + 1) c7), ps ++ [⟨g, u, v⟩], by rw [List.length_append, hpl]; rfl, by rw [List.map_append, hpm, List.take_add_one, hx]; rfl, ?_, ?_, ⟨fun x hx' => absurd hx' (by simp), fun x hx' => ?_⟩⟩⟩
  · refine hRW.more @glOk_stay (p := ⟨g, u, v⟩) (GlC.stay (stays_bel (bel1' wx _)) _ _ _ hg) (hok.later hW5.size) hgr hat ?_
    rw [hpl, ← hcs]
    exact hown
  · exact (htn.trans (Turn.below (D := D1) (M := noM) hW5)).grown hgr (fun x hg' => (row_in hrow9 hg').1) hat
  · rw [withB_no (fun e => by have := (row_in hown e).2; omega)]
    exact hok.2 x (by have h1 := hgr.size; have h2 := hW5.size; omega)
end Go.Proofs.YtaojalicnnnkmaaGreatDoor
/- The document's side of chapter 14: what a body's term is, by its name's tests; terms new in a row. -/
namespace Go.Proofs.YtaojalicnnnkmaaGreatDoor
open Go.RowKit
set_option linter.unusedVariables false

theorem isT_iff {t : Tm} {s : ByteArray} {m : Nat} : isT t s m = true ↔ t.k = 2 ∧ t.s.data.toList = s.data.toList ∧ t.args.length = m := by
  unfold isT
  simp only [Bool.and_eq_true, beq_iff_eq]
  exact ⟨fun h => ⟨h.1.1, h.1.2, h.2⟩, fun h => ⟨⟨h.1, h.2.1⟩, h.2.2⟩⟩
theorem two_args {t : Tm} (h : t.args.length = 2) : ∃ a b, t.args = [a, b] := by
  match hx : t.args, h with
  | [a, b], _ => exact ⟨a, b, rfl⟩
theorem one_arg {t : Tm} (h : t.args.length = 1) : ∃ a, t.args = [a] := by
  match hx : t.args, h with
  | [a], _ => exact ⟨a, rfl⟩
theorem is_join {t : Tm} (h : isT t commaS 2 = true) : ∃ a b, t.args = [a, b] ∧ ctlT t = .join a b := by
  obtain ⟨hk, hs, hl⟩ := isT_iff.1 h
  obtain ⟨a, b, e⟩ := two_args hl
  refine ⟨a, b, e, ?_⟩
  unfold ctlT
  rw [if_neg (by omega), if_neg (by omega), if_pos hk, e]
  simp only [hs, if_true]
theorem is_yes {t : Tm} (h : isT t trueS 0 = true) : ctlT t = .yes := by
  obtain ⟨hk, hs, hl⟩ := isT_iff.1 h
  unfold ctlT
  rw [if_neg (by omega), if_neg (by omega), if_pos hk, List.length_eq_zero_iff.1 hl]
  simp only [hs, if_true]
theorem is_cut {t : Tm} (h : isT t bangS 0 = true) : ctlT t = .cut := by
  obtain ⟨hk, hs, hl⟩ := isT_iff.1 h
  unfold ctlT
  rw [if_neg (by omega), if_neg (by omega), if_pos hk, List.length_eq_zero_iff.1 hl]
  simp only [hs]
  rfl
theorem is_semi {t : Tm} (h : isT t semiS 2 = true) : ∃ a b, t.args = [a, b] ∧ (isT a arrowS 2 = true → ∃ c d, a.args = [c, d] ∧ ctlT t = .ite c d b) ∧ (isT a arrowS 2 = false → ctlT t = .or a b) := by
  obtain ⟨hk, hs, hl⟩ := isT_iff.1 h
  obtain ⟨a, b, e⟩ := two_args hl
  have hc : ctlT t = (match arrowT a with
        | some (c, d) => .ite c d b
        | none => .or a b) := by
    unfold ctlT
    rw [if_neg (by omega), if_neg (by omega), if_pos hk, e]
    simp only [hs]
    rfl
  refine ⟨a, b, e, fun ha => ?_, fun ha => ?_⟩
  · obtain ⟨_, _, hl'⟩ := isT_iff.1 ha
    obtain ⟨c, d, e'⟩ := two_args hl'
    refine ⟨c, d, e', ?_⟩
    have : arrowT a = some (c, d) := by
      unfold arrowT
      rw [if_pos ha]
      obtain ⟨k, n, s, ts⟩ := a
      cases (show ts = [c, d] from e')
      rfl
    rw [hc, this]
  · have : arrowT a = none := by
      unfold arrowT
      rw [if_neg (by rw [ha]; simp)]
    rw [hc, this]
theorem is_arrow {t : Tm} (h : isT t arrowS 2 = true) : ∃ c d, t.args = [c, d] ∧ ctlT t = .ite c d failT := by
  obtain ⟨hk, hs, hl⟩ := isT_iff.1 h
  obtain ⟨a, b, e⟩ := two_args hl
  refine ⟨a, b, e, ?_⟩
  unfold ctlT
  rw [if_neg (by omega), if_neg (by omega), if_pos hk, e]
  simp only [hs]
  rfl
theorem is_neg {t : Tm} (h : isT t negS 1 = true) : ∃ a, t.args = [a] ∧ ctlT t = .neg a := by
  obtain ⟨hk, hs, hl⟩ := isT_iff.1 h
  obtain ⟨a, e⟩ := one_arg hl
  refine ⟨a, e, ?_⟩
  unfold ctlT
  rw [if_neg (by omega), if_neg (by omega), if_pos hk, e]
  simp only [hs, if_true]
theorem is_call {t : Tm} (h0 : ¬ t.k = 0) (h1 : ¬ t.k = 1) (b1 : isT t commaS 2 = false) (b2 : isT t trueS 0 = false) (b3 : isT t bangS 0 = false) (b4 : isT t semiS 2 = false) (b5 : isT t arrowS 2 = false) (b6 : isT t negS 1 = false) : ctlT t = .call := by
  unfold ctlT
  rw [if_neg h0, if_neg h1]
  by_cases h2 : t.k = 2
  · rw [if_pos h2]
    have no : ∀ {s : ByteArray} {m : Nat}, isT t s m = false → t.args.length = m → ¬ t.s.data.toList = s.data.toList := fun hf hl e => by
      rw [isT_iff.2 ⟨h2, e, hl⟩] at hf; cases hf
    split
    · rename_i e
      have hl : t.args.length = 0 := by rw [e]; rfl
      rw [if_neg (no b2 hl), if_neg (no b3 hl)]
    · rename_i e
      have hl : t.args.length = 1 := by rw [e]; rfl
      rw [if_neg (no b6 hl)]
    · rename_i e
      have hl : t.args.length = 2 := by rw [e]; rfl
      rw [if_neg (no b1 hl), if_neg (no b4 hl), if_neg (no b5 hl)]
    · rfl
  · rw [if_neg h2]
/-- No more goals than twice the term's parts. -/
theorem of_cnt : ∀ (M : Nat) (t : Tm), sizeN t ≤ M → ∀ l, ofB t = some l → cntL l ≤ 2 * sizeN t
  | 0, t, h, l, _ => by have := size_pos t; omega
  | M + 1, t, h, l, e => by
    have hp := size_pos t
    rw [of_step] at e
    cases hc : ctlT t with
    | var => rw [hc] at e; cases e; simp [cntL, callG, cntG, cntR]; omega
    | num => rw [hc] at e; cases e
    | yes => rw [hc] at e; cases e; simp [cntL]
    | cut => rw [hc] at e; cases e; simp [cntL, cntG, cntR]; omega
    | call => rw [hc] at e; cases e; simp [cntL, callG, cntG, cntR]; omega
    | join a b =>
      obtain ⟨g, g1, g2⟩ := ctl_join hc
      have gs := size_args g
      rw [sizesN, sizesN, sizesN] at gs
      rw [hc] at e
      simp only [Option.bind_eq_some_iff, Option.map_eq_some_iff] at e
      obtain ⟨x, hx, y, hy, rfl⟩ := e
      have := of_cnt M a (by omega) x hx
      have := of_cnt M b (by omega) y hy
      rw [cnt_app]
      omega
    | or a b =>
      obtain ⟨g, _, g1, g2⟩ := ctl_or hc
      have gs := size_args g
      rw [sizesN, sizesN, sizesN] at gs
      rw [hc] at e
      simp only [Option.bind_eq_some_iff, Option.map_eq_some_iff] at e
      obtain ⟨x, hx, y, hy, rfl⟩ := e
      have := of_cnt M a (by omega) x hx
      have := of_cnt M b (by omega) y hy
      simp only [cntL, cntG, cntR]
      omega
    | neg a =>
      obtain ⟨g, g1⟩ := ctl_neg hc
      have gs := size_args g
      rw [sizesN, sizesN] at gs
      rw [hc] at e
      simp only [Option.map_eq_some_iff] at e
      obtain ⟨x, hx, rfl⟩ := e
      have := of_cnt M a (by omega) x hx
      simp only [cntL, cntG, cntR]
      omega
    | ite c d f =>
      obtain ⟨g, g1, g2, g3⟩ := ctl_ite hc
      rw [hc] at e
      simp only [Option.bind_eq_some_iff, Option.map_eq_some_iff] at e
      obtain ⟨x, hx, y, hy, z, hz, rfl⟩ := e
      have i1 := of_cnt M c (by omega) x hx
      have i2 := of_cnt M d (by omega) y hy
      have i3 := of_cnt M f (by omega) z hz
      simp only [cntL, cntG, cntR]
      rcases g with ⟨a, ga, gb⟩ | ⟨ga, rfl⟩
      · have s1 := size_args ga
        have s2 := size_args gb
        rw [sizesN, sizesN, sizesN] at s1 s2
        omega
      · have s1 := size_args ga
        rw [sizesN, sizesN, sizesN] at s1
        have : ofB failT = some [callG failT] := rfl
        rw [this] at hz
        cases hz
        have : cntL [callG failT] = 1 := rfl
        omega
theorem of_len {t : Tm} {l : List Gl} (h : ofB t = some l) : l.length ≤ 2 * sizeN t := Nat.le_trans (cnt_len l) (of_cnt _ t (Nat.le_refl _) l h)
/-- Terms new in a row. -/
theorem tms_new {D : Nat → Bool} {w : World} (ho : Old D w) (ps : List TmP) (hp : ∀ p ∈ ps, TmV (hide D w) p.1 (pVal p)) (hl : ps.length ≤ 100) (ty : TypeId) (cs : Array Value) (hcs : cs.toList = ps.flatMap pCells) :
    Tms (hide D (w.alloc (.cells cs ty))) (.slice (some ⟨w.heap.size, 0, none⟩) ps.length ps.length) (ps.map (·.1)) := by
  have hd : D w.heap.size = false := ho _ (Nat.le_refl _)
  refine ⟨_, ps.length, by rw [List.length_map], by rw [List.length_map]; exact Nat.le_refl _, by unfold maxLen; omega, by rw [List.length_map]; unfold BIG; omega, Or.inr ⟨w.heap.size, 0, rfl, by rw [hide_size]; simp, TmRow.mk fun i x hx => ?_⟩⟩
  rw [List.getElem?_map] at hx
  obtain ⟨p, hpi, rfl⟩ := Option.map_eq_some_iff.1 hx
  have hc : ∀ j u, (pCells p)[j]? = some u → (hide D (w.alloc (.cells cs ty))).cell? ⟨w.heap.size, 0 + i * 4 + j, none⟩ = some u := fun j u hj => by
    rw [hide_cell _ _ _ hd]
    have := cell_new w cs ty (i * 4 + j) u (by rw [hcs, flat_get pCells_len _ _ _ hpi _ (by have := (List.getElem?_eq_some_iff.1 hj).1; rwa [pCells_len] at this)]; exact hj)
    rw [add_plain] at this
    rw [Nat.zero_add] at this ⊢
    exact this
  exact ⟨_, _, _, _, hc 0 _ rfl, hc 1 _ rfl, hc 2 _ rfl, hc 3 _ rfl, TmV.later (bel1' w _) (hp p (List.mem_of_getElem? hpi))⟩
end Go.Proofs.YtaojalicnnnkmaaGreatDoor
/- The document's side of chapter 14: of, walked. -/
namespace Go.Proofs.YtaojalicnnnkmaaGreatDoor
open Go.RowKit
set_option linter.unusedVariables false

theorem args_two {D : Nat → Bool} {w : World} {a : Option Addr} {m c : Nat} {x y : Tm} (h : Tms (hide D w) (.slice a m c) [x, y]) :
    ∃ b off k1 n1 s1 a1 m1 c1 k2 n2 s2 a2 m2 c2, a = some ⟨b, off, none⟩ ∧ w.cell? ⟨b, off, none⟩ = some (.int .i64 k1) ∧ w.cell? ⟨b, off + 1, none⟩ = some (.int .i64 n1) ∧ w.cell? ⟨b, off + 2, none⟩ = some (.string s1) ∧ w.cell? ⟨b, off + 3, none⟩ = some (.slice a1 m1 c1) ∧
      w.cell? ⟨b, off + 4, none⟩ = some (.int .i64 k2) ∧ w.cell? ⟨b, off + 4 + 1, none⟩ = some (.int .i64 n2) ∧ w.cell? ⟨b, off + 4 + 2, none⟩ = some (.string s2) ∧ w.cell? ⟨b, off + 4 + 3, none⟩ = some (.slice a2 m2 c2) ∧
      TmV (hide D w) x (.agg #[.int .i64 k1, .int .i64 n1, .string s1, .slice a1 m1 c1]) ∧ TmV (hide D w) y (.agg #[.int .i64 k2, .int .i64 n2, .string s2, .slice a2 m2 c2]) ∧ Tms (hide D w) (.slice a1 m1 c1) x.args := by
  obtain ⟨b, off, k1, n1, s1, u1, rfl, _, _, _, _, c0, c1, c2, c3, hu1, ht1⟩ := h.get (i := 0) (x := x) rfl
  obtain ⟨b', off', k2, n2, s2, u2, e, _, _, _, _, d0, d1, d2, d3, hu2, ht2⟩ := h.get (i := 1) (x := y) rfl
  cases e
  obtain ⟨a1, z1, rfl, _⟩ := hu1.len
  obtain ⟨a2, z2, rfl, _⟩ := hu2.len
  exact ⟨b, off, k1, n1, s1, a1, _, z1, k2, n2, s2, a2, _, z2, rfl, (Stays.unhide D w).2 _ _ c0, by have := (Stays.unhide D w).2 _ _ c1; simpa using this, by have := (Stays.unhide D w).2 _ _ c2; simpa using this, by have := (Stays.unhide D w).2 _ _ c3; simpa using this,
    by have := (Stays.unhide D w).2 _ _ d0; simpa using this, by have := (Stays.unhide D w).2 _ _ d1; simpa using this, by have := (Stays.unhide D w).2 _ _ d2; simpa using this, by have := (Stays.unhide D w).2 _ _ d3; simpa using this, ht1, ht2, hu1⟩
theorem i64_of (z : Int) (h0 : 0 ≤ z) (h : z ≤ 100) : I64 z := by unfold I64; omega
theorem tm_parts {w : World} {x : Tm} {k n : Int} {s : ByteArray} {u : Value} (h : TmV w x (.agg #[.int .i64 k, .int .i64 n, .string s, u])) : pCells (x, u) = [.int .i64 k, .int .i64 n, .string s, u] ∧ pVal (x, u) = .agg #[.int .i64 k, .int .i64 n, .string s, u] := by
  obtain ⟨xk, xn, xs, xl⟩ := x
  obtain ⟨u', e, _⟩ := tmV_iff.1 h
  have h3 := congrArg Array.toList (Value.agg.inj e)
  simp only [List.cons.injEq, and_true, Value.int.injEq, Value.string.injEq, true_and] at h3
  obtain ⟨rfl, rfl, rfl, rfl⟩ := h3
  exact ⟨rfl, rfl⟩
theorem ofR_one (k : Int) (a : Tm) : ((ofR [a]).map fun ls => [Gl.mk k zeroT ls]) = (ofB a).map fun x => [.mk k zeroT [x]] := by
  simp only [ofR]
  cases ofB a <;> rfl
theorem ofR_two (k : Int) (a b : Tm) : ((ofR [a, b]).map fun ls => [Gl.mk k zeroT ls]) = (ofB a).bind fun x => (ofB b).map fun y => [.mk k zeroT [x, y]] := by
  simp only [ofR]
  cases ofB a <;> cases ofB b <;> rfl
theorem ofR_three (k : Int) (a b c : Tm) : ((ofR [a, b, c]).map fun ls => [Gl.mk k zeroT ls]) = (ofB a).bind fun x => (ofB b).bind fun y => (ofB c).map fun z => [.mk k zeroT [x, y, z]] := by
  simp only [ofR]
  cases ofB a <;> cases ofB b <;> cases ofB c <;> rfl
end Go.Proofs.YtaojalicnnnkmaaGreatDoor
