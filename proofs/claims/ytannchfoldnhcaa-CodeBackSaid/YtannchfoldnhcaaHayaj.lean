import Derived.Test.YtannchfoldnhcaaHayac
import Derived.Test.YtannchfoldnhcaaHayad
import Derived.Test.YtannchfoldnhcaaHayai
set_option linter.unusedVariables false
set_option linter.unusedSimpArgs false
/- Stage 10's laws: their own copy of a term. -/
namespace Go.Proofs.Ytannchfoldnhcaa
open Go.RowKit
set_option linter.unusedVariables false

set_option maxRecDepth 100000 in
set_option maxHeartbeats 8000000 in
theorem own15_step (N : Nat) (ih : ∀ t, sizeN t < N → ∀ (D : Nat → Bool) (w : World) (v : Value), Old D w → TmV w t v → Calls Try.prog 24 #[v] w fun e w' => ∃ v', e = .returned v' ∧ TmV (hide D w') t v' ∧ Below w.heap.size w w')
    (t : Tm) (ht : sizeN t < N + 1) (D : Nat → Bool) (w : World) (v : Value) (hD : Old D w) (hv : TmV w t v) :
    Calls Try.prog 24 #[v] w fun e w' => ∃ v', e = .returned v' ∧ TmV (hide D w') t v' ∧ Below w.heap.size w w' := by
  cases t with
  | mk k n s ts =>
  obtain ⟨u, rfl, hs, hk64, hn64, hu⟩ := tmV_iff.1 hv
  obtain ⟨au, cu, rfl, hu1, hu2, hu3⟩ := hu.len
  obtain ⟨m, hm⟩ : ∃ m, ts.length = m := ⟨_, rfl⟩
  rw [hm] at hu hu1 hu3
  rw [hm]
  unfold BIG at hu3
  unfold maxLen at hu2
  obtain ⟨w1, hw1, hb1, hz1, hx1⟩ := box_new w #[.int .i64 k, .int .i64 n, .string s, .slice au m cu] 31
  obtain ⟨w2, hw2, hb2, hz2, hx2⟩ := box_new w1 #[.int .i64 0, .int .i64 0, .string ⟨#[]⟩, .slice none 0 0] 54
  obtain ⟨w3, hw3, hb3, hz3, hx3⟩ := box_new w2 #[.int .i64 k, .int .i64 n, .string s, .slice none 0 0] 54
  have hB3 := Ext.trans' (Ext.trans' hb1 hb2) hb3
  have hBB := (hb1.size)
  have hRR : w.heap.size ≤ w2.heap.size := Nat.le_trans hb1.size hb2.size
  have HT3 := Lib.hid ((Turn.into (D := D) (M := noM) (Ext.trans' hb1 hb2) hBB).trans (Turn.into (M := noM) hb3 (Nat.le_refl _)))
  have HO3 := Lib.hid (((okd_no hD).box (Ext.trans' hb1 hb2).size hx2.lt).box hb3.size hx3.lt)
  obtain ⟨y0, y1, y2, y3, yf⟩ := (hx1.ext hb2).four
  have HX1 := Lib.hid ((hx1.ext hb2).ext hb3)
  have HX2 := Lib.hid (hx2.ext hb3)
  have HX3 := Lib.hid hx3
  have HU := Lib.hid hu
  have HM := Lib.hid hm
  have HD := Lib.hid hD
  have HSZ := Lib.hid (show ∀ x ∈ ts, sizeN x < N from fun x hx => by have := sizes_mem hx; rw [sizeN] at ht; omega)
  have HIH := Lib.hid ih
  have HK := Lib.hid (And.intro hs (And.intro hk64 hn64))
  obtain ⟨i0, hi0, hz0, hs0, hb0⟩ := info_parts infoTermR
  have h12 : w.heap.size ≠ w1.heap.size := by omega
  have h13 : w.heap.size ≠ w2.heap.size := by omega
  have h23 : w1.heap.size ≠ w2.heap.size := by omega
  have hR : w.heap.size ≤ w2.heap.size := hRR
  have h23w : w2.heap.size < w3.heap.size := by omega
  have h13w : w1.heap.size < w3.heap.size := by omega
  have hBq : w.heap.size ≤ w1.heap.size := hBB
  clear hb1 hb2 hb3 hx1 hx2 hx3 hz1 hz2 hz3 hv hu hD ih ht hm hB3 hs hk64 hn64 hBB hRR
  have HW3 := Lib.hid hw3
  clear hw3
  go_enter Try.func24, Try.ntmps24
  go_wp2_with fail
  (try rw [hw1])
  (try rw [hw2])
  clear hw1 hw2
  go_wp2_with fail
  (try rw [HW3.out])
  clear y0 y1 y2 y3 yf HW3
  go_loopw [4] (fun i wr => ∃ (D1 : Nat → Bool) (j c : Nat) (a : Option Addr) (ps : List TmP), j ≤ m ∧ i = .int .i64 j ∧ ps.length = j ∧ Hid (ps.map (·.1) = ts.take j) ∧ Hid (Box wr w2.heap.size [.int .i64 k, .int .i64 n, .string s, .slice a j c]) ∧ Hid (RowY D1 noM wr w3.heap.size (.slice a j c) ps) ∧ Hid (Turn D noM D1 noM w wr) ∧ Hid (Okd D1 noM wr) ∧ Hid (D1 w2.heap.size = true ∧ D1 w1.heap.size = true) ∧ Hid (w3.heap.size ≤ wr.heap.size) ∧ Hid (Box wr w.heap.size [.int .i64 k, .int .i64 n, .string s, .slice au m cu]) ∧ Hid (Box wr w1.heap.size [.int .i64 0, .int .i64 0, .string ⟨#[]⟩, .slice none 0 0]))
    (fun i _ => m - (intOf i).toNat)
  case atStart => exact ⟨plusB (plusB D w1.heap.size) w2.heap.size, 0, 0, none, [], Nat.zero_le _, rfl, rfl, Lib.hid rfl, HX3, Lib.hid (RowY.none _ _ _ _), HT3, HO3, Lib.hid ⟨plusB_self _ _, plusB_of (plusB_self _ _)⟩, Lib.hid (Nat.le_refl _), HX1, HX2⟩
  case round =>
    obtain ⟨D1, j, c, a, ps, hj, rfl, hpl, HPS, HXR, HRW, HT, HO, HDR, HZ, HX1, HX2⟩ := hrel
    have HPL := Lib.hid hpl
    obtain ⟨r0, r1, r2, r3, rf⟩ := HXR.out.four
    obtain ⟨t0, t1, t2, t3, tf⟩ := HX1.out.four
    have HBl := Lib.hid (HT.out.bel (Nat.le_refl _) (fun k _ => rfl))
    clear hpl
    by_cases hlt : j < m
    · obtain ⟨x, hx⟩ : ∃ x, ts[j]? = some x := ⟨_, List.getElem?_eq_getElem (by rw [HM.out]; exact hlt)⟩
      obtain ⟨b, off, xk, xn, xs', xu, rfl, hbb, ek, en, es, c0, c1, c2, c3, _, htx⟩ := (HU.out.ext HBl.out).get hx
      have HSX := Lib.hid (HSZ.out x (List.mem_of_getElem? hx))
      have HTX := Lib.hid htx
      have HTK := Lib.hid (take_next hx)
      have HC := Lib.hid (fun (wq : World) (hq : Below wr.heap.size wr wq) => HIH.out x HSX.out D1 wq _ (HO.out.2.mono hq.size) (TmV.ext hq _ _ HTX.out))
      have hbw0 : b < w.heap.size := by
        have := HU.out
        obtain ⟨a', c', e', _, _, _, h4⟩ := this
        cases e'
        rcases h4 with rfl | ⟨b', off', e2, h5, _⟩
        · simp at hx
        · cases e2; exact h5
      have hbR : b ≠ w2.heap.size := by omega
      clear hx htx ek en es
      have hjj : (j : Int) < m := by omega
      go_wp2_with fail
      refine wp_region_held_drew (S := fun w' => (w'.cell? ⟨w.heap.size, 3, none⟩ = some (.slice (some ⟨b, off, none⟩) m cu) ∧ w'.cell? ⟨b, off + j * 4, none⟩ = some (.int .i64 xk) ∧ w'.cell? ⟨b, off + j * 4 + 1, none⟩ = some (.int .i64 xn) ∧ w'.cell? ⟨b, off + j * 4 + 2, none⟩ = some (.string xs') ∧ w'.cell? ⟨b, off + j * 4 + 3, none⟩ = some xu)) (by kernel_rfl) ⟨t3, c0, c1, c2, c3⟩ (fun hHeld => ?_)
      have HROW := Lib.hid (fun (wq : World) (hq : Below wr.heap.size wr wq) (o : Obj) => (show (wq.alloc o).ownsRow w3.heap.size 54 4 (.slice a j c) j (ps.flatMap pCells) from by
        have h := (HRW.out.turn (M := noM) (Turn.below (Ext.trans' hq (bel1' wq o))) HO.out.1).1
        unfold RowP at h
        rw [HPL.out] at h
        exact h))
      have h2w : w2.heap.size < w3.heap.size := h23w
      have h1w : w1.heap.size < w3.heap.size := h13w
      have h0w : w.heap.size < w3.heap.size := by omega
      have hbw : b < w3.heap.size := by omega
      first | (refine held_t (i := 0) hHeld ?_; apply Exists.intro; refine ⟨fun wq hq => ?_, ?_⟩; (focus ((try dsimp only at hq); go_simp; (first | done | with_reducible rfl | fail)))) | refine held_s (i := 0) hHeld ?_ | fail
      first | (refine held_t (i := 2) hHeld ?_; apply Exists.intro; refine ⟨fun wq hq => ?_, ?_⟩; (focus ((try dsimp only at hq); go_simp; (first | done | with_reducible rfl | fail)))) | refine held_s (i := 2) hHeld ?_ | fail
      first | (refine held_t (i := 3) hHeld ?_; apply Exists.intro; refine ⟨fun wq hq => ?_, ?_⟩; (focus ((try dsimp only at hq); go_simp; (first | done | with_reducible rfl | fail)))) | refine held_s (i := 3) hHeld ?_ | fail
      first | (refine held_t (i := 4) hHeld ?_; apply Exists.intro; refine ⟨fun wq hq => ?_, ?_⟩; (focus ((try dsimp only at hq); go_simp; (first | done | with_reducible rfl | fail)))) | refine held_s (i := 4) hHeld ?_ | fail
      first | (refine held_t (i := 5) hHeld ?_; apply Exists.intro; refine ⟨fun wq hq => ?_, ?_⟩; (focus ((try dsimp only at hq); go_simp; (first | done | with_reducible rfl | fail)))) | refine held_s (i := 5) hHeld ?_ | fail
      first | (refine held_t (i := 6) hHeld ?_; apply Exists.intro; refine ⟨fun wq hq => ?_, ?_⟩; (focus ((try dsimp only at hq); go_simp; (first | done | with_reducible rfl | fail)))) | refine held_s (i := 6) hHeld ?_ | fail
      try simp only [Act.put, List.setIfInBounds_toArray, List.set_cons_zero, List.set_cons_succ]
      refine wpAnyH_ready (rs := [1, 7]) (by kernel_rfl) (by simp) ?_
      refine AllReadyH.cons (by simp only [List.getElem?_toArray, List.getElem?_cons_zero, List.getElem?_cons_succ]; rfl) (fun K hK => ?_) (AllReadyH.cons (by simp only [List.getElem?_toArray, List.getElem?_cons_zero, List.getElem?_cons_succ]; rfl) (fun K hK => ?_) AllReadyH.nil)
      · go_simp
        skip
        refine hK.out _ _ (hHeld) (fun hHeld => ?_)
        clear hK K
        try simp only [Act.put, List.setIfInBounds_toArray, List.set_cons_zero, List.set_cons_succ]
        refine held_c 7 fun K hK => ?_
        go_simp
        (go_at_call 24; refine (HC.out _ ((Below.refl _ _).drew)).mono ?_; rintro e w5 ⟨v5, rfl, hv5, hb5⟩; obtain ⟨k5, n5, s5, a5, m5, c5, rfl, ek, en, es, ep⟩ := four_of hv5; have HEP := Lib.hid ep; have HEK := Lib.hid (And.intro ek (And.intro en es)); have HV5 := Lib.hid hv5; have HB5 := Lib.hid (Ext.trans' (Below.refl wr.heap.size wr).drew hb5); obtain ⟨r0, r1, r2, r3, rf⟩ := (HXR.out.ext HB5.out).four; have r3' : ∀ o, (w5.alloc o).cell? ⟨w2.heap.size, 3, none⟩ = some (.slice a j c) := (fun o => Lib.cell?_alloc_some _ r3); clear ek en es ep hv5)
        refine hK.out _ _ (⟨cell_later HB5.out t3, cell_later HB5.out c0, cell_later HB5.out c1, cell_later HB5.out c2, cell_later HB5.out c3⟩) (fun hHeld => ?_)
        clear hK K
        try simp only [Act.put, List.setIfInBounds_toArray, List.set_cons_zero, List.set_cons_succ]
        refine held_c 8 fun K hK => ?_
        go_simp
        skip
        refine hK.out _ _ (⟨cell_later (bel1' _ _) hHeld.1, cell_later (bel1' _ _) hHeld.2.1, cell_later (bel1' _ _) hHeld.2.2.1, cell_later (bel1' _ _) hHeld.2.2.2.1, cell_later (bel1' _ _) hHeld.2.2.2.2⟩) (fun hHeld => ?_)
        clear hK K
        try simp only [Act.put, List.setIfInBounds_toArray, List.set_cons_zero, List.set_cons_succ]
        refine held_c 9 fun K hK => ?_
        (refine step_append_k (by rfl) _ _ _ (by rfl) w3.heap.size 54 i0 (.agg #[.int .i64 0, .int .i64 0, .string ⟨#[]⟩, .slice none 0 0]) 4 56 Try.underlying52 hi0 hz0 hs0 (by decide) hb0 rfl (.slice a j c) j (ps.flatMap pCells) (by rfl) (HROW.out w5 HB5.out _) (some ⟨w5.heap.size, 0, none⟩) 1 1 [.int .i64 k5, .int .i64 n5, .string s5, .slice a5 m5 c5] (by rfl) (by rfl) (Or.inr ⟨_, rfl, fun jj uu hu => cell_new w5 #[.int .i64 k5, .int .i64 n5, .string s5, .slice a5 m5 c5] _ jj uu hu⟩) (by simp [Value.oneCell']) (by unfold maxLen; omega) (by omega) (by have := HB5.out.size; have := HZ.out; simp; omega) (j + 1) (ps.flatMap pCells ++ [.int .i64 k5, .int .i64 n5, .string s5, .slice a5 m5 c5]) rfl rfl ?_; intro a7 c7 w7 hown7 hgrow7 hat7; have hkeep : ∀ g, g < w3.heap.size → w7.heap[g]? = w5.heap[g]? := (fun g hg => (hgrow7.block g (by have := HB5.out.size; have := HZ.out; simp; omega) (fun e => by have := (row_in HRW.out.1 e.symm).1; omega)).trans ((bel1' w5 _).block g (by have := HB5.out.size; have := HZ.out; omega))); have HKP := Lib.hid hkeep; have HGR := Lib.hid hgrow7; have HOW := Lib.hid hown7; have HAT := Lib.hid hat7; have r3 : w7.cell? ⟨w2.heap.size, 3, none⟩ = some (.slice a j c) := (by rw [World.cell?_of_block (hkeep _ h2w)]; exact r3); have rf : w7.frozen? ⟨w2.heap.size, 3, none⟩ = false := (by rw [World.frozen?_of_block (hkeep _ h2w)]; exact rf 3); clear hkeep hgrow7 hown7 hat7)
        refine hK.out _ _ (⟨by rw [World.cell?_of_block (HKP.out _ h0w)]; exact cell_later HB5.out t3, by rw [World.cell?_of_block (HKP.out _ hbw)]; exact cell_later HB5.out c0, by rw [World.cell?_of_block (HKP.out _ hbw)]; exact cell_later HB5.out c1, by rw [World.cell?_of_block (HKP.out _ hbw)]; exact cell_later HB5.out c2, by rw [World.cell?_of_block (HKP.out _ hbw)]; exact cell_later HB5.out c3⟩) (fun hHeld => ?_)
        clear hK K
        try simp only [Act.put, List.setIfInBounds_toArray, List.set_cons_zero, List.set_cons_succ]
        first | (refine held_t (i := 10) hHeld ?_; apply Exists.intro; refine ⟨fun wq hq => ?_, ?_⟩; (focus ((try dsimp only at hq); go_simp; (first | done | with_reducible rfl | fail)))) | refine held_s (i := 10) hHeld ?_ | fail
        try simp only [Act.put, List.setIfInBounds_toArray, List.set_cons_zero, List.set_cons_succ]
        refine held_c 11 fun K hK => ?_
        go_simp
        skip
        refine hK.out _ _ (⟨far_one hHeld.1 h13, far_one hHeld.2.1 hbR, far_one hHeld.2.2.1 hbR, far_one hHeld.2.2.2.1 hbR, far_one hHeld.2.2.2.2 hbR⟩) (fun hHeld => ?_)
        clear hK K
        try simp only [Act.put, List.setIfInBounds_toArray, List.set_cons_zero, List.set_cons_succ]
        refine wpAnyH_done (by kernel_rfl) ?_ _
        have hW5 : Below wr.heap.size wr (w5.alloc (.cells #[.int .i64 k5, .int .i64 n5, .string s5, .slice a5 m5 c5] 54)) := Ext.trans' HB5.out (bel1' w5 _)
        have hRW := HRW.out.turn (Turn.below hW5) HO.out.1
        have hpc : pCells (x, .slice a5 m5 c5) = [.int .i64 k5, .int .i64 n5, .string s5, .slice a5 m5 c5] := by unfold pCells; rw [← HEK.out.1, ← HEK.out.2.1, ← HEK.out.2.2]
        have htW : TmV (hide D1 (w5.alloc (.cells #[.int .i64 k5, .int .i64 n5, .string s5, .slice a5 m5 c5] 54))) x (pVal (x, .slice a5 m5 c5)) := by rw [← HEP.out]; exact TmV.later (bel1' w5 _) HV5.out
        have hR7 := hRW.more htW (HO.out.later hW5.size) HGR.out HAT.out (by rw [HPL.out, hpc]; exact HOW.out)
        have hown : ∀ g, (Value.slice a7 (j + 1) c7).ownBlock = some g → g ≠ w2.heap.size := fun g hg e => by have := (row_in HOW.out hg).1; omega
        have HR8 := Lib.hid (hR7.put ⟨w2.heap.size, 3, none⟩ (.slice a7 (j + 1) c7) (withB_of HDR.out.1) hown)
        have HT8 := Lib.hid (((HT.out.trans (Turn.below hW5)).grown HGR.out (fun g hg => by have := (row_in hRW.1 hg).1; omega) HAT.out).set ⟨w2.heap.size, 3, none⟩ (.slice a7 (j + 1) c7) (Or.inl hR))
        have HO8 := Lib.hid (show Okd (withB D1 (.slice a7 (j + 1) c7)) noM (w7.setCell ⟨w2.heap.size, 3, none⟩ (.slice a7 (j + 1) c7)) from ⟨fun k hk => absurd hk (by simp), fun k hk => by
          rw [withB_no (fun e => by have := (row_in HOW.out e).2; simp [World.setCell] at hk; omega)]
          exact HO.out.2 k (by have h1 := HGR.out.size; have h2 := hW5.size; simp [World.setCell] at hk; omega)⟩)
        have HB8 := Lib.hid (((HXR.out.ext HB5.out).block (HKP.out _ h2w) (by have h1 := HGR.out.size; have h2 := hW5.size; have h3 := HXR.out.lt; omega)).set (k := 3) (u := .slice a7 (j + 1) c7) (by simp))
        have HY1 := Lib.hid (((HX1.out.ext HB5.out).block (HKP.out _ h0w) (by have h1 := HGR.out.size; have h2 := hW5.size; have h3 := HX1.out.lt; omega)).far (c := w2.heap.size) (k := 3) (u := .slice a7 (j + 1) c7) h13)
        have HY2 := Lib.hid (((HX2.out.ext HB5.out).block (HKP.out _ h1w) (by have h1 := HGR.out.size; have h2 := hW5.size; have h3 := HX2.out.lt; omega)).far (c := w2.heap.size) (k := 3) (u := .slice a7 (j + 1) c7) h23)
        have HZ8 := Lib.hid (show w3.heap.size ≤ (w7.setCell ⟨w2.heap.size, 3, none⟩ (.slice a7 (j + 1) c7)).heap.size by have h1 := HGR.out.size; have h2 := hW5.size; have := HZ.out; simp [World.setCell]; omega)
        have HP8 := Lib.hid (show (ps ++ [(x, Value.slice a5 m5 c5)]).map (·.1) = ts.take (j + 1) by rw [List.map_append, HTK.out, HPS.out]; rfl)
        clear hRW hpc htW hR7 hown hW5 r0 r1 r2 r3 rf r3' t0 t1 t2 t3 tf c0 c1 c2 c3 hHeld
        go_wp2
        go_roundw
        case rel => exact ⟨_, j + 1, c7, a7, _, hlt, by go_num, by rw [List.length_append, HPL.out]; rfl, HP8, HB8, HR8, HT8, HO8, Lib.hid ⟨withB_of HDR.out.1, withB_of HDR.out.2⟩, HZ8, HY1, HY2⟩
        case measure => simp [intOf]; omega
      · go_simp
        (go_at_call 24; refine (HC.out _ ((Below.refl _ _).drew)).mono ?_; rintro e w5 ⟨v5, rfl, hv5, hb5⟩; obtain ⟨k5, n5, s5, a5, m5, c5, rfl, ek, en, es, ep⟩ := four_of hv5; have HEP := Lib.hid ep; have HEK := Lib.hid (And.intro ek (And.intro en es)); have HV5 := Lib.hid hv5; have HB5 := Lib.hid (Ext.trans' (Below.refl wr.heap.size wr).drew hb5); obtain ⟨r0, r1, r2, r3, rf⟩ := (HXR.out.ext HB5.out).four; have r3' : ∀ o, (w5.alloc o).cell? ⟨w2.heap.size, 3, none⟩ = some (.slice a j c) := (fun o => Lib.cell?_alloc_some _ r3); clear ek en es ep hv5)
        refine hK.out _ _ (⟨cell_later HB5.out t3, cell_later HB5.out c0, cell_later HB5.out c1, cell_later HB5.out c2, cell_later HB5.out c3⟩) (fun hHeld => ?_)
        clear hK K
        try simp only [Act.put, List.setIfInBounds_toArray, List.set_cons_zero, List.set_cons_succ]
        refine wpAnyH_ready (rs := [1, 8]) (by kernel_rfl) (by simp) ?_
        refine AllReadyH.cons (by simp only [List.getElem?_toArray, List.getElem?_cons_zero, List.getElem?_cons_succ]; rfl) (fun K hK => ?_) (AllReadyH.cons (by simp only [List.getElem?_toArray, List.getElem?_cons_zero, List.getElem?_cons_succ]; rfl) (fun K hK => ?_) AllReadyH.nil)
        · go_simp
          skip
          refine hK.out _ _ (hHeld) (fun hHeld => ?_)
          clear hK K
          try simp only [Act.put, List.setIfInBounds_toArray, List.set_cons_zero, List.set_cons_succ]
          refine held_c 8 fun K hK => ?_
          go_simp
          skip
          refine hK.out _ _ (⟨cell_later (bel1' _ _) hHeld.1, cell_later (bel1' _ _) hHeld.2.1, cell_later (bel1' _ _) hHeld.2.2.1, cell_later (bel1' _ _) hHeld.2.2.2.1, cell_later (bel1' _ _) hHeld.2.2.2.2⟩) (fun hHeld => ?_)
          clear hK K
          try simp only [Act.put, List.setIfInBounds_toArray, List.set_cons_zero, List.set_cons_succ]
          refine held_c 9 fun K hK => ?_
          (refine step_append_k (by rfl) _ _ _ (by rfl) w3.heap.size 54 i0 (.agg #[.int .i64 0, .int .i64 0, .string ⟨#[]⟩, .slice none 0 0]) 4 56 Try.underlying52 hi0 hz0 hs0 (by decide) hb0 rfl (.slice a j c) j (ps.flatMap pCells) (by rfl) (HROW.out w5 HB5.out _) (some ⟨w5.heap.size, 0, none⟩) 1 1 [.int .i64 k5, .int .i64 n5, .string s5, .slice a5 m5 c5] (by rfl) (by rfl) (Or.inr ⟨_, rfl, fun jj uu hu => cell_new w5 #[.int .i64 k5, .int .i64 n5, .string s5, .slice a5 m5 c5] _ jj uu hu⟩) (by simp [Value.oneCell']) (by unfold maxLen; omega) (by omega) (by have := HB5.out.size; have := HZ.out; simp; omega) (j + 1) (ps.flatMap pCells ++ [.int .i64 k5, .int .i64 n5, .string s5, .slice a5 m5 c5]) rfl rfl ?_; intro a7 c7 w7 hown7 hgrow7 hat7; have hkeep : ∀ g, g < w3.heap.size → w7.heap[g]? = w5.heap[g]? := (fun g hg => (hgrow7.block g (by have := HB5.out.size; have := HZ.out; simp; omega) (fun e => by have := (row_in HRW.out.1 e.symm).1; omega)).trans ((bel1' w5 _).block g (by have := HB5.out.size; have := HZ.out; omega))); have HKP := Lib.hid hkeep; have HGR := Lib.hid hgrow7; have HOW := Lib.hid hown7; have HAT := Lib.hid hat7; have r3 : w7.cell? ⟨w2.heap.size, 3, none⟩ = some (.slice a j c) := (by rw [World.cell?_of_block (hkeep _ h2w)]; exact r3); have rf : w7.frozen? ⟨w2.heap.size, 3, none⟩ = false := (by rw [World.frozen?_of_block (hkeep _ h2w)]; exact rf 3); clear hkeep hgrow7 hown7 hat7)
          refine hK.out _ _ (⟨by rw [World.cell?_of_block (HKP.out _ h0w)]; exact cell_later HB5.out t3, by rw [World.cell?_of_block (HKP.out _ hbw)]; exact cell_later HB5.out c0, by rw [World.cell?_of_block (HKP.out _ hbw)]; exact cell_later HB5.out c1, by rw [World.cell?_of_block (HKP.out _ hbw)]; exact cell_later HB5.out c2, by rw [World.cell?_of_block (HKP.out _ hbw)]; exact cell_later HB5.out c3⟩) (fun hHeld => ?_)
          clear hK K
          try simp only [Act.put, List.setIfInBounds_toArray, List.set_cons_zero, List.set_cons_succ]
          first | (refine held_t (i := 10) hHeld ?_; apply Exists.intro; refine ⟨fun wq hq => ?_, ?_⟩; (focus ((try dsimp only at hq); go_simp; (first | done | with_reducible rfl | fail)))) | refine held_s (i := 10) hHeld ?_ | fail
          try simp only [Act.put, List.setIfInBounds_toArray, List.set_cons_zero, List.set_cons_succ]
          refine held_c 11 fun K hK => ?_
          go_simp
          skip
          refine hK.out _ _ (⟨far_one hHeld.1 h13, far_one hHeld.2.1 hbR, far_one hHeld.2.2.1 hbR, far_one hHeld.2.2.2.1 hbR, far_one hHeld.2.2.2.2 hbR⟩) (fun hHeld => ?_)
          clear hK K
          try simp only [Act.put, List.setIfInBounds_toArray, List.set_cons_zero, List.set_cons_succ]
          refine wpAnyH_done (by kernel_rfl) ?_ _
          have hW5 : Below wr.heap.size wr (w5.alloc (.cells #[.int .i64 k5, .int .i64 n5, .string s5, .slice a5 m5 c5] 54)) := Ext.trans' HB5.out (bel1' w5 _)
          have hRW := HRW.out.turn (Turn.below hW5) HO.out.1
          have hpc : pCells (x, .slice a5 m5 c5) = [.int .i64 k5, .int .i64 n5, .string s5, .slice a5 m5 c5] := by unfold pCells; rw [← HEK.out.1, ← HEK.out.2.1, ← HEK.out.2.2]
          have htW : TmV (hide D1 (w5.alloc (.cells #[.int .i64 k5, .int .i64 n5, .string s5, .slice a5 m5 c5] 54))) x (pVal (x, .slice a5 m5 c5)) := by rw [← HEP.out]; exact TmV.later (bel1' w5 _) HV5.out
          have hR7 := hRW.more htW (HO.out.later hW5.size) HGR.out HAT.out (by rw [HPL.out, hpc]; exact HOW.out)
          have hown : ∀ g, (Value.slice a7 (j + 1) c7).ownBlock = some g → g ≠ w2.heap.size := fun g hg e => by have := (row_in HOW.out hg).1; omega
          have HR8 := Lib.hid (hR7.put ⟨w2.heap.size, 3, none⟩ (.slice a7 (j + 1) c7) (withB_of HDR.out.1) hown)
          have HT8 := Lib.hid (((HT.out.trans (Turn.below hW5)).grown HGR.out (fun g hg => by have := (row_in hRW.1 hg).1; omega) HAT.out).set ⟨w2.heap.size, 3, none⟩ (.slice a7 (j + 1) c7) (Or.inl hR))
          have HO8 := Lib.hid (show Okd (withB D1 (.slice a7 (j + 1) c7)) noM (w7.setCell ⟨w2.heap.size, 3, none⟩ (.slice a7 (j + 1) c7)) from ⟨fun k hk => absurd hk (by simp), fun k hk => by
            rw [withB_no (fun e => by have := (row_in HOW.out e).2; simp [World.setCell] at hk; omega)]
            exact HO.out.2 k (by have h1 := HGR.out.size; have h2 := hW5.size; simp [World.setCell] at hk; omega)⟩)
          have HB8 := Lib.hid (((HXR.out.ext HB5.out).block (HKP.out _ h2w) (by have h1 := HGR.out.size; have h2 := hW5.size; have h3 := HXR.out.lt; omega)).set (k := 3) (u := .slice a7 (j + 1) c7) (by simp))
          have HY1 := Lib.hid (((HX1.out.ext HB5.out).block (HKP.out _ h0w) (by have h1 := HGR.out.size; have h2 := hW5.size; have h3 := HX1.out.lt; omega)).far (c := w2.heap.size) (k := 3) (u := .slice a7 (j + 1) c7) h13)
          have HY2 := Lib.hid (((HX2.out.ext HB5.out).block (HKP.out _ h1w) (by have h1 := HGR.out.size; have h2 := hW5.size; have h3 := HX2.out.lt; omega)).far (c := w2.heap.size) (k := 3) (u := .slice a7 (j + 1) c7) h23)
          have HZ8 := Lib.hid (show w3.heap.size ≤ (w7.setCell ⟨w2.heap.size, 3, none⟩ (.slice a7 (j + 1) c7)).heap.size by have h1 := HGR.out.size; have h2 := hW5.size; have := HZ.out; simp [World.setCell]; omega)
          have HP8 := Lib.hid (show (ps ++ [(x, Value.slice a5 m5 c5)]).map (·.1) = ts.take (j + 1) by rw [List.map_append, HTK.out, HPS.out]; rfl)
          clear hRW hpc htW hR7 hown hW5 r0 r1 r2 r3 rf r3' t0 t1 t2 t3 tf c0 c1 c2 c3 hHeld
          go_wp2
          go_roundw
          case rel => exact ⟨_, j + 1, c7, a7, _, hlt, by go_num, by rw [List.length_append, HPL.out]; rfl, HP8, HB8, HR8, HT8, HO8, Lib.hid ⟨withB_of HDR.out.1, withB_of HDR.out.2⟩, HZ8, HY1, HY2⟩
          case measure => simp [intOf]; omega
        · go_simp
          skip
          refine hK.out _ _ (⟨cell_later (bel1' _ _) hHeld.1, cell_later (bel1' _ _) hHeld.2.1, cell_later (bel1' _ _) hHeld.2.2.1, cell_later (bel1' _ _) hHeld.2.2.2.1, cell_later (bel1' _ _) hHeld.2.2.2.2⟩) (fun hHeld => ?_)
          clear hK K
          try simp only [Act.put, List.setIfInBounds_toArray, List.set_cons_zero, List.set_cons_succ]
          refine held_c 1 fun K hK => ?_
          go_simp
          skip
          refine hK.out _ _ (hHeld) (fun hHeld => ?_)
          clear hK K
          try simp only [Act.put, List.setIfInBounds_toArray, List.set_cons_zero, List.set_cons_succ]
          refine held_c 9 fun K hK => ?_
          (refine step_append_k (by rfl) _ _ _ (by rfl) w3.heap.size 54 i0 (.agg #[.int .i64 0, .int .i64 0, .string ⟨#[]⟩, .slice none 0 0]) 4 56 Try.underlying52 hi0 hz0 hs0 (by decide) hb0 rfl (.slice a j c) j (ps.flatMap pCells) (by rfl) (HROW.out w5 HB5.out _) (some ⟨w5.heap.size, 0, none⟩) 1 1 [.int .i64 k5, .int .i64 n5, .string s5, .slice a5 m5 c5] (by rfl) (by rfl) (Or.inr ⟨_, rfl, fun jj uu hu => cell_new w5 #[.int .i64 k5, .int .i64 n5, .string s5, .slice a5 m5 c5] _ jj uu hu⟩) (by simp [Value.oneCell']) (by unfold maxLen; omega) (by omega) (by have := HB5.out.size; have := HZ.out; simp; omega) (j + 1) (ps.flatMap pCells ++ [.int .i64 k5, .int .i64 n5, .string s5, .slice a5 m5 c5]) rfl rfl ?_; intro a7 c7 w7 hown7 hgrow7 hat7; have hkeep : ∀ g, g < w3.heap.size → w7.heap[g]? = w5.heap[g]? := (fun g hg => (hgrow7.block g (by have := HB5.out.size; have := HZ.out; simp; omega) (fun e => by have := (row_in HRW.out.1 e.symm).1; omega)).trans ((bel1' w5 _).block g (by have := HB5.out.size; have := HZ.out; omega))); have HKP := Lib.hid hkeep; have HGR := Lib.hid hgrow7; have HOW := Lib.hid hown7; have HAT := Lib.hid hat7; have r3 : w7.cell? ⟨w2.heap.size, 3, none⟩ = some (.slice a j c) := (by rw [World.cell?_of_block (hkeep _ h2w)]; exact r3); have rf : w7.frozen? ⟨w2.heap.size, 3, none⟩ = false := (by rw [World.frozen?_of_block (hkeep _ h2w)]; exact rf 3); clear hkeep hgrow7 hown7 hat7)
          refine hK.out _ _ (⟨by rw [World.cell?_of_block (HKP.out _ h0w)]; exact cell_later HB5.out t3, by rw [World.cell?_of_block (HKP.out _ hbw)]; exact cell_later HB5.out c0, by rw [World.cell?_of_block (HKP.out _ hbw)]; exact cell_later HB5.out c1, by rw [World.cell?_of_block (HKP.out _ hbw)]; exact cell_later HB5.out c2, by rw [World.cell?_of_block (HKP.out _ hbw)]; exact cell_later HB5.out c3⟩) (fun hHeld => ?_)
          clear hK K
          try simp only [Act.put, List.setIfInBounds_toArray, List.set_cons_zero, List.set_cons_succ]
          first | (refine held_t (i := 10) hHeld ?_; apply Exists.intro; refine ⟨fun wq hq => ?_, ?_⟩; (focus ((try dsimp only at hq); go_simp; (first | done | with_reducible rfl | fail)))) | refine held_s (i := 10) hHeld ?_ | fail
          try simp only [Act.put, List.setIfInBounds_toArray, List.set_cons_zero, List.set_cons_succ]
          refine held_c 11 fun K hK => ?_
          go_simp
          skip
          refine hK.out _ _ (⟨far_one hHeld.1 h13, far_one hHeld.2.1 hbR, far_one hHeld.2.2.1 hbR, far_one hHeld.2.2.2.1 hbR, far_one hHeld.2.2.2.2 hbR⟩) (fun hHeld => ?_)
          clear hK K
          try simp only [Act.put, List.setIfInBounds_toArray, List.set_cons_zero, List.set_cons_succ]
          refine wpAnyH_done (by kernel_rfl) ?_ _
          have hW5 : Below wr.heap.size wr (w5.alloc (.cells #[.int .i64 k5, .int .i64 n5, .string s5, .slice a5 m5 c5] 54)) := Ext.trans' HB5.out (bel1' w5 _)
          have hRW := HRW.out.turn (Turn.below hW5) HO.out.1
          have hpc : pCells (x, .slice a5 m5 c5) = [.int .i64 k5, .int .i64 n5, .string s5, .slice a5 m5 c5] := by unfold pCells; rw [← HEK.out.1, ← HEK.out.2.1, ← HEK.out.2.2]
          have htW : TmV (hide D1 (w5.alloc (.cells #[.int .i64 k5, .int .i64 n5, .string s5, .slice a5 m5 c5] 54))) x (pVal (x, .slice a5 m5 c5)) := by rw [← HEP.out]; exact TmV.later (bel1' w5 _) HV5.out
          have hR7 := hRW.more htW (HO.out.later hW5.size) HGR.out HAT.out (by rw [HPL.out, hpc]; exact HOW.out)
          have hown : ∀ g, (Value.slice a7 (j + 1) c7).ownBlock = some g → g ≠ w2.heap.size := fun g hg e => by have := (row_in HOW.out hg).1; omega
          have HR8 := Lib.hid (hR7.put ⟨w2.heap.size, 3, none⟩ (.slice a7 (j + 1) c7) (withB_of HDR.out.1) hown)
          have HT8 := Lib.hid (((HT.out.trans (Turn.below hW5)).grown HGR.out (fun g hg => by have := (row_in hRW.1 hg).1; omega) HAT.out).set ⟨w2.heap.size, 3, none⟩ (.slice a7 (j + 1) c7) (Or.inl hR))
          have HO8 := Lib.hid (show Okd (withB D1 (.slice a7 (j + 1) c7)) noM (w7.setCell ⟨w2.heap.size, 3, none⟩ (.slice a7 (j + 1) c7)) from ⟨fun k hk => absurd hk (by simp), fun k hk => by
            rw [withB_no (fun e => by have := (row_in HOW.out e).2; simp [World.setCell] at hk; omega)]
            exact HO.out.2 k (by have h1 := HGR.out.size; have h2 := hW5.size; simp [World.setCell] at hk; omega)⟩)
          have HB8 := Lib.hid (((HXR.out.ext HB5.out).block (HKP.out _ h2w) (by have h1 := HGR.out.size; have h2 := hW5.size; have h3 := HXR.out.lt; omega)).set (k := 3) (u := .slice a7 (j + 1) c7) (by simp))
          have HY1 := Lib.hid (((HX1.out.ext HB5.out).block (HKP.out _ h0w) (by have h1 := HGR.out.size; have h2 := hW5.size; have h3 := HX1.out.lt; omega)).far (c := w2.heap.size) (k := 3) (u := .slice a7 (j + 1) c7) h13)
          have HY2 := Lib.hid (((HX2.out.ext HB5.out).block (HKP.out _ h1w) (by have h1 := HGR.out.size; have h2 := hW5.size; have h3 := HX2.out.lt; omega)).far (c := w2.heap.size) (k := 3) (u := .slice a7 (j + 1) c7) h23)
          have HZ8 := Lib.hid (show w3.heap.size ≤ (w7.setCell ⟨w2.heap.size, 3, none⟩ (.slice a7 (j + 1) c7)).heap.size by have h1 := HGR.out.size; have h2 := hW5.size; have := HZ.out; simp [World.setCell]; omega)
          have HP8 := Lib.hid (show (ps ++ [(x, Value.slice a5 m5 c5)]).map (·.1) = ts.take (j + 1) by rw [List.map_append, HTK.out, HPS.out]; rfl)
          clear hRW hpc htW hR7 hown hW5 r0 r1 r2 r3 rf r3' t0 t1 t2 t3 tf c0 c1 c2 c3 hHeld
          go_wp2
          go_roundw
          case rel => exact ⟨_, j + 1, c7, a7, _, hlt, by go_num, by rw [List.length_append, HPL.out]; rfl, HP8, HB8, HR8, HT8, HO8, Lib.hid ⟨withB_of HDR.out.1, withB_of HDR.out.2⟩, HZ8, HY1, HY2⟩
          case measure => simp [intOf]; omega
    · have hjm : j = m := by omega
      subst hjm
      obtain ⟨q0, q1, q2, q3, qf⟩ := HX2.out.four
      go_wp2
      refine bodyPost_ret (v := .agg #[.int .i64 k, .int .i64 n, .string s, .slice a j c]) (by rw [results_cell1 rfl]; go_simp) rfl ⟨_, rfl, ?_, ?_⟩
      · have hT := HT.out.set4 (b := w1.heap.size) (Or.inl hBq) (.int .i64 k) (.int .i64 n) (.string s) (.slice a j c)
        have hT4 := HRW.out
        have hRp : RowY D1 noM (set4 wr w1.heap.size (.int .i64 k) (.int .i64 n) (.string s) (.slice a j c)) w3.heap.size (.slice a j c) ps := by
          have hn : ∀ g, (Value.slice a j c).ownBlock = some g → g ≠ w1.heap.size := fun g hg e => by have := (row_in hT4.1 hg).1; omega
          exact (((hT4.put ⟨w1.heap.size, 0, none⟩ _ HDR.out.2 hn).put ⟨w1.heap.size, 1, none⟩ _ HDR.out.2 hn).put ⟨w1.heap.size, 2, none⟩ _ HDR.out.2 hn).put ⟨w1.heap.size, 3, none⟩ _ HDR.out.2 hn
        have hF := RowY.fin (Nat.le_trans hR (Nat.le_of_lt h23w)) hRp hT (HO.out.put4 _ _ _ _ _) (by rw [HPL.out]; unfold BIG; omega)
        rw [fin_no HD.out, HPS.out, List.take_of_length_le (by rw [HM.out]; exact Nat.le_refl _)] at hF
        exact tmV_iff.2 ⟨_, rfl, HK.out.1, HK.out.2.1, HK.out.2.2, hF⟩
      · exact Below.set4 HBl.out hBq _ _ _ _
theorem own15_at (t : Tm) (D : Nat → Bool) (w : World) (v : Value) (hD : Old D w) (hv : TmV w t v) : Calls Try.prog 24 #[v] w fun e w' => ∃ v', e = .returned v' ∧ TmV (hide D w') t v' ∧ Below w.heap.size w w' := by
  suffices h : ∀ N (t : Tm), sizeN t < N → ∀ (D : Nat → Bool) (w : World) (v : Value), Old D w → TmV w t v → Calls Try.prog 24 #[v] w fun e w' => ∃ v', e = .returned v' ∧ TmV (hide D w') t v' ∧ Below w.heap.size w w' from
    h _ t (Nat.lt_succ_self _) D w v hD hv
  intro N
  induction N with
  | zero => intro t ht; omega
  | succ N ih => intro t ht D w v hD hv; exact own15_step N ih t ht D w v hD hv
end Go.Proofs.Ytannchfoldnhcaa
/- Stage 11's laws: how deep a term is asked of. -/
namespace Go.Proofs.Ytannchfoldnhcaa
open Go.RowKit
set_option linter.unusedVariables false

set_option maxHeartbeats 2000000 in
theorem deep15_at : ∀ (N : Nat) (x : Tm), sizeN x ≤ N → ∀ (left : Int), I64 left → ∀ (w : World) (v : Value), TmV w x v →
    Calls Try.prog 21 #[v, .int .i64 left] w fun e w' => e = .returned (.bool (deepT x left)) ∧ Below w.heap.size w w'
  | 0, x, h, left, hl, w, v, hv => by have := size_pos x; omega
  | N + 1, .mk k n s ts, h, left, hl, w, v, hv => by
    obtain ⟨u, rfl, hs, hk, hn, hu⟩ := tmV_iff.1 hv
    obtain ⟨a, c, rfl, h1, h2, h3⟩ := hu.len
    unfold BIG at h3
    unfold I64 at hl
    have hD : deepT (.mk k n s ts) left = if left < 1 ∨ 12 < ts.length then true else deepsT ts (left - 1) := by rw [deepT]
    by_cases hlt : left < 1
    · rw [hD, if_pos (Or.inl hlt)]
      clear hD
      go_enter Try.func21, Try.ntmps21
      go_wp2
      go_ret
      exact ⟨rfl, bel1' _ _⟩
    obtain ⟨m, hm⟩ : ∃ m, ts.length = m := ⟨_, rfl⟩
    by_cases h12 : 12 < m
    · rw [hD, if_pos (Or.inr (by rw [hm]; exact h12))]
      rw [hm] at h1 h3 ⊢
      clear hD hv hu hm
      go_enter Try.func21, Try.ntmps21
      go_wp2
      go_ret
      exact ⟨rfl, bel1' _ _⟩
    rw [hD, if_neg (by rw [hm]; omega)]
    have hI : I64 (left - 1) := by unfold I64; omega
    have IH := Lib.hid (fun (y : Tm) (hy : y ∈ ts) => deep15_at N y (mem_size h hy) (left - 1) hI)
    have HU := Lib.hid hu
    have HM := Lib.hid hm
    rw [hm] at h1 h3 hu HU ⊢
    obtain ⟨r, hr⟩ : ∃ r, deepsT ts (left - 1) = r := ⟨_, rfl⟩
    rw [hr]
    have HR := Lib.hid hr
    clear hD hv hu hm hr h
    go_enter Try.func21, Try.ntmps21
    go_wp2_with fail
    go_loopw [5] (fun v wr => ∃ i : Nat, i ≤ m ∧ v = .int .i64 i ∧ Hid (deepsT (ts.drop i) (left - 1) = r) ∧ Hid (Below (w.alloc (.cells #[.int .i64 k, .int .i64 n, .string s, .slice a m c] 31)).heap.size (w.alloc (.cells #[.int .i64 k, .int .i64 n, .string s, .slice a m c] 31)) wr)) (fun v _ => m - (intOf v).toNat)
    case atStart => exact ⟨0, Nat.zero_le _, rfl, Lib.hid (by rw [List.drop_zero]; exact HR.out), Lib.hid (Below.refl _ _)⟩
    case round =>
      obtain ⟨i, hi, rfl, HD, HB⟩ := hrel
      obtain ⟨e0, e1, e2, e3⟩ := box_cells w 31 _ _ _ _ HB.out
      by_cases hil : i < m
      · obtain ⟨y, hy⟩ : ∃ y, ts[i]? = some y := ⟨_, List.getElem?_eq_getElem (by rw [HM.out]; exact hil)⟩
        have hdr : ts.drop i = y :: ts.drop (i + 1) := by
          obtain ⟨hlt', rfl⟩ := List.getElem?_eq_some_iff.1 hy
          exact List.drop_eq_getElem_cons hlt'
        have hd := HD.out
        rw [hdr, deepsT] at hd
        have HBW := Lib.hid (Ext.trans' (bel1' w _) HB.out)
        obtain ⟨b, off, k', n', s', u', rfl, hbb, _, _, _, c0, c1, c2, c3, _, ht⟩ := (HU.out.ext HBW.out).get hy
        have ih := IH.out y (List.mem_of_getElem? hy) wr _ ht
        clear hdr HD ht
        cases hq : deepT y (left - 1)
        · rw [hq, Bool.false_or] at hd
          rw [hq] at ih
          have HD := Lib.hid hd
          clear hq hd hy
          (go_wp2_with fail; go_fit (ih); rintro e w2 ⟨rfl, b2⟩)
          have B2 := Lib.hid (Ext.trans' HB.out b2)
          clear b2
          go_wp2
          go_roundw
          case rel => exact ⟨i + 1, by omega, by go_num, HD, B2⟩
          case measure => simp [intOf]; omega
        · rw [hq, Bool.true_or] at hd
          rw [hq] at ih
          subst hd
          clear hq hy HR
          (go_wp2_with fail; go_fit (ih); rintro e w2 ⟨rfl, b2⟩)
          have B2 := Lib.hid (Ext.trans' HBW.out b2)
          clear b2
          go_wp2
          go_ret
          exact ⟨rfl, B2.out⟩
      · have hd := HD.out
        rw [List.drop_eq_nil_of_le (by rw [HM.out]; omega), deepsT] at hd
        subst hd
        clear HR HD
        go_wp2
        go_ret
        exact ⟨rfl, Ext.trans' (bel1' w _) HB.out⟩
end Go.Proofs.Ytannchfoldnhcaa
/- Stage 15's laws: CodeBack. -/
namespace Go.Proofs.Ytannchfoldnhcaa
open Go.RowKit
set_option linter.unusedVariables false

set_option maxHeartbeats 16000000 in
set_option maxRecDepth 100000 in
theorem codeBack_at {W : World} {vx : Value} {t : Tm} (hx : TmV W t vx) : Calls Try.prog 4 #[vx] W fun e w' => IsBool W true e w' := by
  have HV := Lib.hid (fun (wq : World) (hb : Below W.heap.size W wq) => TmV.ext hb _ _ hx)
  have DX := Lib.hid (fun (wq : World) (hb : Below W.heap.size W wq) => deep15_at _ t (Nat.le_refl _) 70 (by unfold I64; omega) wq _ (TmV.ext hb _ _ hx))
  obtain ⟨k, n, s, ts⟩ := t
  obtain ⟨u, rfl, hss, hkk, hnn, hts⟩ := tmV_iff.1 hx
  obtain ⟨a, c, rfl, ha1, ha2, ha3⟩ := hts.len
  unfold maxLen at ha2
  unfold BIG at ha3
  obtain ⟨m, hm⟩ : ∃ m, ts.length = m := ⟨_, rfl⟩
  have HM := Lib.hid (And.intro hm hss)
  rw [hm] at HV DX ha1 ha3 ⊢
  obtain ⟨w1, e1, B1, z1, X1⟩ := box_new W #[.int .i64 k, .int .i64 n, .string s, .slice a m c] 31
  have HE := Lib.hid e1
  have HB1 := Lib.hid (And.intro B1 X1)
  clear B1 z1 e1 X1 hx hss hkk hnn hts hm
  go_enter Try.func4, Try.ntmps4
  go_upto_region 1 with fail
  (try rw [HE.out])
  (go_wp2_with fail; go_fit (awake15_at _); rintro e w2 ⟨rfl, b2⟩)
  have HB2 := Lib.hid (Ext.trans' HB1.out.1 b2)
  have HX2 := Lib.hid (HB1.out.2.ext b2)
  clear b2
  obtain ⟨x0, x1, x2, x3, _⟩ := HX2.out.four
  have C := DX.out w2 HB2.out
  cases hdx : deepT (.mk k n s ts) 70
  rotate_left
  · rw [hdx] at C
    clear hdx
    (go_wp2_with fail; go_fit (C); rintro e w3 ⟨rfl, b3⟩)
    have HB3 := Lib.hid (Ext.trans' HB2.out b3)
    clear b3 C
    go_wp2
    go_ret
    exact ⟨rfl, HB3.out⟩
  rw [hdx] at C
  clear hdx
  (go_wp2_with fail; go_fit (C); rintro e w3 ⟨rfl, b3⟩)
  have HB3 := Lib.hid (Ext.trans' HB2.out b3)
  have HX3 := Lib.hid (HX2.out.ext b3)
  clear b3 C x0 x1 x2 x3
  obtain ⟨x0, x1, x2, x3, _⟩ := HX3.out.four
  have C := head_at (HV.out w3 HB3.out)
  unfold HeadP at C
  by_cases hgk : goodT (.mk k n s ts) = true ∧ k = 2
  rotate_left
  · rw [show headCE (.mk k n s ts) = (zeroC, 1) from if_neg hgk] at C
    (go_wp2_with fail; go_fit (C); rintro e w4 ⟨v4, rfl, hc4, b4⟩)
    obtain ⟨ca, cm, ck, rfl, _⟩ := hc4
    obtain ⟨w5, e5, b5, z5, X5⟩ := box_new w4 #[.int .i64 zeroC.ar, .int .i64 zeroC.sl, .int .i64 zeroC.rg, .slice ca cm ck] 25
    have hb35 := Ext.trans' b4 b5
    have HB5 := Lib.hid (Ext.trans' HB3.out hb35)
    clear x0 x1 x2 x3 C
    obtain ⟨x0, x1, x2, x3, _⟩ := (HX3.out.ext hb35).four
    have C := Good_at (.mk k n s ts) w5 _ (HV.out w5 HB5.out)
    clear hb35 b4 b5 z5 X5
    go_upto_region 6 with fail
    (try rw [e5])
    clear e5
    cases hg : goodT (.mk k n s ts)
    · rw [hg] at C
      clear hg hgk
      (go_wp2_with fail; go_fit (C); rintro e w6 ⟨rfl, b6⟩)
      have HB6 := Lib.hid (Ext.trans' HB5.out b6)
      clear b6 C
      go_wp2
      go_ret
      exact ⟨rfl, HB6.out⟩
    · have hk2 : ¬ k = 2 := fun e => hgk ⟨hg, e⟩
      rw [hg] at C
      clear hg hgk
      (go_wp2_with fail; go_fit (C); rintro e w6 ⟨rfl, b6⟩)
      have HB6 := Lib.hid (Ext.trans' HB5.out b6)
      replace x0 := cell_later b6 x0
      clear b6 C
      go_wp2
      go_ret
      exact ⟨rfl, HB6.out⟩
  rw [show headCE (.mk k n s ts) = (headC (.mk k n s ts), 0) from if_pos hgk] at C
  obtain ⟨hg, rfl⟩ := hgk
  have hnum := head_nums (t := .mk 2 n s ts) rfl
  have hgp := good_parts hg
  obtain ⟨K, hK⟩ : ∃ K, (varsT (.mk 2 n s ts) []).length = K := ⟨_, rfl⟩
  obtain ⟨Z, hZ⟩ : ∃ Z : Nat, sizeN (.mk 2 n s ts) = Z + 1 := ⟨sizeN (.mk 2 n s ts) - 1, by have := size_pos (.mk 2 n s ts); omega⟩
  have hZ2 : Z + 1 ≤ 2000 := by rw [← hZ]; exact hgp.1
  have hK2 : K ≤ 2000 := by rw [← hK]; exact vars_le hg
  have hbk := backK_head hg rfl
  have hrs := ren_same hgp.2.2 (base := 0) (by omega) (by have := vars_le hg; omega)
  have HPU := Lib.hid (And.intro hg (And.intro hbk.1 (And.intro hrs (And.intro hK hZ))))
  (go_wp2_with fail; go_fit (C); rintro e w4 ⟨v4, rfl, hc4, b4⟩)
  have HC4 := Lib.hid hc4
  obtain ⟨ca, cm, ck, hv4, _⟩ := hc4
  replace hv4 : v4 = .agg #[.int .i64 m, .int .i64 K, .int .i64 Z, .slice ca cm ck] := by
    rw [hv4, hnum.1, hnum.2.1, hnum.2.2, hK, hZ]
    show Value.agg #[.int .i64 ((ts.length : Nat) : Int), _, _, _] = _
    rw [HM.out.1]
    have : ((Z + 1 : Nat) : Int) - 1 = Z := by omega
    rw [this]
  subst hv4
  clear hg hnum hgp hK hZ hbk hrs C
  obtain ⟨w5, e5, b5, z5, X5⟩ := box_new w4 #[.int .i64 m, .int .i64 K, .int .i64 Z, .slice ca cm ck] 25
  have hb35 := Ext.trans' b4 b5
  have HB5 := Lib.hid (And.intro (Ext.trans' HB3.out hb35) (And.intro (HX3.out.ext hb35) X5))
  have HC5 := Lib.hid (HC4.out.ext b5)
  clear x0 x1 x2 x3
  obtain ⟨x0, x1, x2, x3, _⟩ := HB5.out.2.1.four
  obtain ⟨y0, y1, y2, y3, _⟩ := HB5.out.2.2.four
  have C := Good_at (.mk 2 n s ts) w5 _ (HV.out w5 HB5.out.1)
  rw [HPU.out.1] at C
  obtain ⟨cb, hcb⟩ : ∃ cb, w4.heap.size = cb := ⟨_, rfl⟩
  rw [hcb] at y0 y1 y2 y3 HB5
  clear hb35 b4 b5 z5 X5
  go_upto_region 6 with fail
  (try rw [e5])
  (try rw [hcb])
  clear e5 hcb
  (go_wp2_with fail; go_fit (C); rintro e w6 ⟨rfl, b6⟩)
  have HB6 := Lib.hid (And.intro (Ext.trans' HB5.out.1 b6) (And.intro (HB5.out.2.1.ext b6) (And.intro (HB5.out.2.2.ext b6) (HC5.out.ext b6))))
  clear b6 C x0 x1 x2 x3 y0 y1 y2 y3
  obtain ⟨x0, x1, x2, x3, _⟩ := HB6.out.2.1.four
  obtain ⟨y0, y1, y2, y3, _⟩ := HB6.out.2.2.1.four
  have C := back_at HB6.out.2.2.2 s HM.out.2
  rw [show backK (headC (.mk 2 n s ts)) s = (renT 0 (.mk 2 n s ts), 0) from HPU.out.2.1] at C
  (go_wp2_with fail; go_fit (C); rintro e w7 ⟨r, rfl, hr, b7⟩)
  obtain ⟨k7, n7, s7, a7, m7, c7, rfl, f1, f2, f3, f4⟩ := four_of hr
  clear f1 f2 f3 f4
  obtain ⟨w8, e8, b8, z8, X8⟩ := box_new w7 #[.int .i64 k7, .int .i64 n7, .string s7, .slice a7 m7 c7] 31
  obtain ⟨rb, hrb⟩ : ∃ rb, w7.heap.size = rb := ⟨_, rfl⟩
  have hb68 := Ext.trans' b7 b8
  have HB8 := Lib.hid (And.intro (Ext.trans' HB6.out.1 hb68) (And.intro (HB6.out.2.1.ext hb68) (And.intro (HB6.out.2.2.1.ext hb68) (And.intro (HB6.out.2.2.2.ext hb68) (And.intro X8 (TmV.ext b8 _ _ hr))))))
  rw [hrb] at HB8
  clear x0 x1 x2 x3 y0 y1 y2 y3 b7 b8 hb68 X8 hr z8 C
  go_upto_region 9 with fail
  (try rw [e8])
  (try rw [hrb])
  clear e8 hrb
  have HC := Lib.hid (fun (wq : World) (hb : Below w8.heap.size w8 wq) => (show ((wq.cell? ⟨W.heap.size, 0, none⟩ = some (.int .i64 2) ∧ wq.cell? ⟨W.heap.size, 1, none⟩ = some (.int .i64 n) ∧ wq.cell? ⟨W.heap.size, 2, none⟩ = some (.string s) ∧ wq.cell? ⟨W.heap.size, 3, none⟩ = some (.slice a m c)) ∧ (wq.cell? ⟨cb, 0, none⟩ = some (.int .i64 m) ∧ wq.cell? ⟨cb, 1, none⟩ = some (.int .i64 K) ∧ wq.cell? ⟨cb, 2, none⟩ = some (.int .i64 Z) ∧ wq.cell? ⟨cb, 3, none⟩ = some (.slice ca cm ck)) ∧ (wq.cell? ⟨rb, 0, none⟩ = some (.int .i64 k7) ∧ wq.cell? ⟨rb, 1, none⟩ = some (.int .i64 n7) ∧ wq.cell? ⟨rb, 2, none⟩ = some (.string s7) ∧ wq.cell? ⟨rb, 3, none⟩ = some (.slice a7 m7 c7))) ∧ Below w8.heap.size w8 wq from by
    obtain ⟨p0, p1, p2, p3, _⟩ := (HB8.out.2.1.ext hb).four
    obtain ⟨q0, q1, q2, q3, _⟩ := (HB8.out.2.2.1.ext hb).four
    obtain ⟨r0, r1, r2, r3, _⟩ := (HB8.out.2.2.2.2.1.ext hb).four
    exact ⟨⟨⟨p0, p1, p2, p3⟩, ⟨q0, q1, q2, q3⟩, r0, r1, r2, r3⟩, hb⟩))
  have HGK := Lib.hid (show goodK (headC (.mk 2 n s ts)) = true from head_goodK HPU.out.1 rfl)
  have HGD := Lib.hid (fun (wq : World) (hb : Below w8.heap.size w8 wq) => (by
    have := cgood_at (HB8.out.2.2.2.1.ext hb)
    rw [HGK.out] at this
    exact this : Calls Try.prog 14 #[.agg #[.int .i64 m, .int .i64 K, .int .i64 Z, .slice ca cm ck]] wq fun e w' => e = .returned (.bool true) ∧ Below wq.heap.size wq w'))
  have OX := Lib.hid (fun (wq : World) (hb : Below w8.heap.size w8 wq) => own15_at (renT 0 (.mk 2 n s ts)) (fun _ => false) wq _ (fun _ _ => rfl) (TmV.ext hb _ _ HB8.out.2.2.2.2.2))
  have OT := Lib.hid (fun (wq : World) (hb : Below w8.heap.size w8 wq) => own15_at (.mk 2 n s ts) (fun _ => false) wq _ (fun _ _ => rfl) (HV.out wq (Ext.trans' HB8.out.1 hb)))
  have SZ := Lib.hid (fun (wq : World) (hb : Below w8.heap.size w8 wq) => (by
    have h := size_at (.mk 2 n s ts) wq _ (HV.out wq (Ext.trans' HB8.out.1 hb))
    have e : min (sizeN (.mk 2 n s ts)) 2001 = Z + 1 := by rw [HPU.out.2.2.2.2]; omega
    rw [e, show (((Z + 1 : Nat) : Nat) : Int) = (Z : Int) + 1 by omega] at h
    exact h : Calls Try.prog 25 #[.agg #[.int .i64 2, .int .i64 n, .string s, .slice a m c]] wq fun e w' => e = .returned (.int .i64 ((Z : Int) + 1)) ∧ Below wq.heap.size wq w'))
  have VR := Lib.hid (fun (wq : World) (hb : Below w8.heap.size w8 wq) => (by
    have h := Vars_at (.mk 2 n s ts) wq _ (HV.out wq (Ext.trans' HB8.out.1 hb))
    rw [HPU.out.1, if_pos rfl] at h
    exact h : Calls Try.prog 26 #[.agg #[.int .i64 2, .int .i64 n, .string s, .slice a m c]] wq fun e w' => ∃ r, e = .returned r ∧ Nums w' r (varsT (.mk 2 n s ts) []) ∧ Below wq.heap.size wq w'))
  have hwz : IntKind.i64.wrap (Z : Int) = (Z : Int) := by rw [IntKind.wrap_i64]; omega
  have HAL := Lib.hid (show goodT (renT 0 (.mk 2 n s ts)) = true ∧ renT 0 (renT 0 (.mk 2 n s ts)) = renT 0 (.mk 2 n s ts) from ⟨by rw [HPU.out.2.2.1.2]; exact HPU.out.1, HPU.out.2.2.1.1⟩)
  refine wp_region_held_drew (S := fun wq => ((wq.cell? ⟨W.heap.size, 0, none⟩ = some (.int .i64 2) ∧ wq.cell? ⟨W.heap.size, 1, none⟩ = some (.int .i64 n) ∧ wq.cell? ⟨W.heap.size, 2, none⟩ = some (.string s) ∧ wq.cell? ⟨W.heap.size, 3, none⟩ = some (.slice a m c)) ∧ (wq.cell? ⟨cb, 0, none⟩ = some (.int .i64 m) ∧ wq.cell? ⟨cb, 1, none⟩ = some (.int .i64 K) ∧ wq.cell? ⟨cb, 2, none⟩ = some (.int .i64 Z) ∧ wq.cell? ⟨cb, 3, none⟩ = some (.slice ca cm ck)) ∧ (wq.cell? ⟨rb, 0, none⟩ = some (.int .i64 k7) ∧ wq.cell? ⟨rb, 1, none⟩ = some (.int .i64 n7) ∧ wq.cell? ⟨rb, 2, none⟩ = some (.string s7) ∧ wq.cell? ⟨rb, 3, none⟩ = some (.slice a7 m7 c7))) ∧ Below w8.heap.size w8 wq) (by kernel_rfl) (HC.out _ (Below.refl _ _).drew) (fun hHeld => ?_)
  first | (refine held_t (i := 0) hHeld ?_; apply Exists.intro; refine ⟨fun wq hq => ?_, ?_⟩; (focus ((try dsimp only at hq); go_simp; (first | done | with_reducible rfl | fail)))) | refine held_s (i := 0) hHeld ?_ | fail
  first | (refine held_t (i := 1) hHeld ?_; apply Exists.intro; refine ⟨fun wq hq => ?_, ?_⟩; (focus ((try dsimp only at hq); go_simp; (first | done | with_reducible rfl | fail)))) | refine held_s (i := 1) hHeld ?_ | fail
  try simp only [Act.put, List.setIfInBounds_toArray, List.set_cons_zero, List.set_cons_succ]
  first | (refine held_t (i := 2) hHeld ?_; apply Exists.intro; refine ⟨fun wq hq => ?_, ?_⟩; (focus ((try dsimp only at hq); go_simp; (first | done | with_reducible rfl | fail)))) | refine held_s (i := 2) hHeld ?_ | fail
  first | (refine held_t (i := 3) hHeld ?_; apply Exists.intro; refine ⟨fun wq hq => ?_, ?_⟩; (focus ((try dsimp only at hq); go_simp; (first | done | with_reducible rfl | fail)))) | refine held_s (i := 3) hHeld ?_ | fail
  try simp only [Act.put, List.setIfInBounds_toArray, List.set_cons_zero, List.set_cons_succ]
  refine held_c 4 fun K hK => ?_
  go_simp
  (go_at_call 14; refine (HGD.out _ hHeld.2).mono ?_; rintro e u1 ⟨rfl, h1⟩; have HA := Lib.hid (Ext.trans' hHeld.2 h1); clear h1)
  refine hK.out _ _ (HC.out _ HA.out) (fun hHeld => ?_)
  clear hK K
  try simp only [Act.put, List.setIfInBounds_toArray, List.set_cons_zero, List.set_cons_succ]
  first | (refine held_t (i := 5) hHeld ?_; apply Exists.intro; refine ⟨fun wq hq => ?_, ?_⟩; (focus ((try dsimp only at hq); go_simp; (first | done | with_reducible rfl | fail)))) | refine held_s (i := 5) hHeld ?_ | fail
  first | (refine held_t (i := 6) hHeld ?_; apply Exists.intro; refine ⟨fun wq hq => ?_, ?_⟩; (focus ((try dsimp only at hq); go_simp; (first | done | with_reducible rfl | fail)))) | refine held_s (i := 6) hHeld ?_ | fail
  try simp only [Act.put, List.setIfInBounds_toArray, List.set_cons_zero, List.set_cons_succ]
  first | (refine held_t (i := 7) hHeld ?_; apply Exists.intro; refine ⟨fun wq hq => ?_, ?_⟩; (focus ((try dsimp only at hq); go_simp; (first | done | with_reducible rfl | fail)))) | refine held_s (i := 7) hHeld ?_ | fail
  first | (refine held_t (i := 8) hHeld ?_; apply Exists.intro; refine ⟨fun wq hq => ?_, ?_⟩; (focus ((try dsimp only at hq); go_simp; (first | done | with_reducible rfl | fail)))) | refine held_s (i := 8) hHeld ?_ | fail
  try simp only [Act.put, List.setIfInBounds_toArray, List.set_cons_zero, List.set_cons_succ]
  first | (refine held_t (i := 9) hHeld ?_; apply Exists.intro; refine ⟨fun wq hq => ?_, ?_⟩; (focus ((try dsimp only at hq); go_simp; (first | done | with_reducible rfl | fail)))) | refine held_s (i := 9) hHeld ?_ | fail
  first | (refine held_t (i := 10) hHeld ?_; apply Exists.intro; refine ⟨fun wq hq => ?_, ?_⟩; (focus ((try dsimp only at hq); go_simp; (first | done | with_reducible rfl | fail)))) | refine held_s (i := 10) hHeld ?_ | fail
  try simp only [Act.put, List.setIfInBounds_toArray, List.set_cons_zero, List.set_cons_succ]
  first | (refine held_t (i := 11) hHeld ?_; apply Exists.intro; refine ⟨fun wq hq => ?_, ?_⟩; (focus ((try dsimp only at hq); go_simp; (first | done | with_reducible rfl | fail)))) | refine held_s (i := 11) hHeld ?_ | fail
  first | (refine held_t (i := 13) hHeld ?_; apply Exists.intro; refine ⟨fun wq hq => ?_, ?_⟩; (focus ((try dsimp only at hq); go_simp; (first | done | with_reducible rfl | fail)))) | refine held_s (i := 13) hHeld ?_ | fail
  try simp only [Act.put, List.setIfInBounds_toArray, List.set_cons_zero, List.set_cons_succ]
  refine held_c 12 fun K hK => ?_
  go_simp
  (go_at_call_of 24 (#[Value.agg #[.int .i64 k7, .int .i64 n7, .string s7, .slice a7 m7 c7]]); refine (OX.out _ hHeld.2).mono ?_; rintro e ux ⟨vx', rfl, hox, hx1⟩; have HOX := Lib.hid hox; have HBX := Lib.hid (Ext.trans' hHeld.2 hx1); have HXX := Lib.hid hx1; clear hox hx1)
  refine hK.out _ _ (HC.out _ HBX.out) (fun hHeld => ?_)
  clear hK K
  try simp only [Act.put, List.setIfInBounds_toArray, List.set_cons_zero, List.set_cons_succ]
  refine held_c 14 fun K hK => ?_
  go_simp
  (go_at_call_of 24 (#[Value.agg #[.int .i64 2, .int .i64 n, .string s, .slice a m c]]); refine (OT.out _ hHeld.2).mono ?_; rintro e ut ⟨vt', rfl, hot, ht1⟩; have HOT := Lib.hid hot; have HBT := Lib.hid (Ext.trans' hHeld.2 ht1); have HTT := Lib.hid ht1; clear hot ht1)
  refine hK.out _ _ (HC.out _ HBT.out) (fun hHeld => ?_)
  clear hK K
  try simp only [Act.put, List.setIfInBounds_toArray, List.set_cons_zero, List.set_cons_succ]
  refine held_c 15 fun K hK => ?_
  go_simp
  (go_at_call 23; refine (Alike_yes (renT 0 (.mk 2 n s ts)) (.mk 2 n s ts) HAL.out.1 HPU.out.1 HAL.out.2 _ _ _ (TmV.ext HTT.out _ _ HOX.out.bare) (HOT.out.bare)).mono ?_; rintro e u3 ⟨rfl, h3⟩; have HB3_ := Lib.hid (Ext.trans' HBT.out h3); clear h3)
  refine hK.out _ _ (HC.out _ HB3_.out) (fun hHeld => ?_)
  clear hK K
  try simp only [Act.put, List.setIfInBounds_toArray, List.set_cons_zero, List.set_cons_succ]
  first | (refine held_t (i := 16) hHeld ?_; apply Exists.intro; refine ⟨fun wq hq => ?_, ?_⟩; (focus ((try dsimp only at hq); go_simp; (first | done | with_reducible rfl | fail)))) | refine held_s (i := 16) hHeld ?_ | fail
  first | (refine held_t (i := 17) hHeld ?_; apply Exists.intro; refine ⟨fun wq hq => ?_, ?_⟩; (focus ((try dsimp only at hq); go_simp; (first | done | with_reducible rfl | fail)))) | refine held_s (i := 17) hHeld ?_ | fail
  try simp only [Act.put, List.setIfInBounds_toArray, List.set_cons_zero, List.set_cons_succ]
  first | (refine held_t (i := 18) hHeld ?_; apply Exists.intro; refine ⟨fun wq hq => ?_, ?_⟩; (focus ((try dsimp only at hq); go_simp; (first | done | with_reducible rfl | fail)))) | refine held_s (i := 18) hHeld ?_ | fail
  first | (refine held_t (i := 19) hHeld ?_; apply Exists.intro; refine ⟨fun wq hq => ?_, ?_⟩; (focus ((try dsimp only at hq); go_simp; (first | done | with_reducible rfl | fail)))) | refine held_s (i := 19) hHeld ?_ | fail
  try simp only [Act.put, List.setIfInBounds_toArray, List.set_cons_zero, List.set_cons_succ]
  first | (refine held_t (i := 20) hHeld ?_; apply Exists.intro; refine ⟨fun wq hq => ?_, ?_⟩; (focus ((try dsimp only at hq); go_simp; (first | done | with_reducible rfl | fail)))) | refine held_s (i := 20) hHeld ?_ | fail
  try simp only [Act.put, List.setIfInBounds_toArray, List.set_cons_zero, List.set_cons_succ]
  refine held_c 21 fun K hK => ?_
  go_simp
  (go_at_call 25; refine (SZ.out _ hHeld.2).mono ?_; rintro e u4 ⟨rfl, h4⟩; have HB4_ := Lib.hid (Ext.trans' hHeld.2 h4); clear h4)
  refine hK.out _ _ (HC.out _ HB4_.out) (fun hHeld => ?_)
  clear hK K
  try simp only [Act.put, List.setIfInBounds_toArray, List.set_cons_zero, List.set_cons_succ]
  first | (refine held_t (i := 22) hHeld ?_; apply Exists.intro; refine ⟨fun wq hq => ?_, ?_⟩; (focus ((try dsimp only at hq); go_simp; (first | done | with_reducible rfl | fail)))) | refine held_s (i := 22) hHeld ?_ | fail
  first | (refine held_t (i := 23) hHeld ?_; apply Exists.intro; refine ⟨fun wq hq => ?_, ?_⟩; (focus ((try dsimp only at hq); go_simp; (first | done | with_reducible rfl | fail)))) | refine held_s (i := 23) hHeld ?_ | fail
  try simp only [Act.put, List.setIfInBounds_toArray, List.set_cons_zero, List.set_cons_succ]
  first | (refine held_t (i := 24) hHeld ?_; apply Exists.intro; refine ⟨fun wq hq => ?_, ?_⟩; (focus ((try dsimp only at hq); go_simp; (first | done | with_reducible rfl | fail)))) | refine held_s (i := 24) hHeld ?_ | fail
  first | (refine held_t (i := 25) hHeld ?_; apply Exists.intro; refine ⟨fun wq hq => ?_, ?_⟩; (focus ((try dsimp only at hq); go_simp; (first | done | with_reducible rfl | fail)))) | refine held_s (i := 25) hHeld ?_ | fail
  try simp only [Act.put, List.setIfInBounds_toArray, List.set_cons_zero, List.set_cons_succ]
  first | (refine held_t (i := 26) hHeld ?_; apply Exists.intro; refine ⟨fun wq hq => ?_, ?_⟩; (focus ((try dsimp only at hq); go_simp; (first | done | with_reducible rfl | fail)))) | refine held_s (i := 26) hHeld ?_ | fail
  first | (refine held_t (i := 27) hHeld ?_; apply Exists.intro; refine ⟨fun wq hq => ?_, ?_⟩; (focus ((try dsimp only at hq); go_simp; (first | done | with_reducible rfl | fail)))) | refine held_s (i := 27) hHeld ?_ | fail
  try simp only [Act.put, List.setIfInBounds_toArray, List.set_cons_zero, List.set_cons_succ]
  first | (refine held_t (i := 28) hHeld ?_; apply Exists.intro; refine ⟨fun wq hq => ?_, ?_⟩; (focus ((try dsimp only at hq); go_simp; (first | done | with_reducible rfl | fail)))) | refine held_s (i := 28) hHeld ?_ | fail
  try simp only [Act.put, List.setIfInBounds_toArray, List.set_cons_zero, List.set_cons_succ]
  refine held_c 29 fun K hK => ?_
  go_simp
  (go_at_call 26; refine (VR.out _ hHeld.2).mono ?_; rintro e u5 ⟨rv, rfl, hn5, h5⟩; obtain ⟨ra, rc, rfl, hrc1, hrc2⟩ := hn5.len; rw [HPU.out.2.2.2.1] at hrc1 ⊢; unfold maxLen at hrc2; have HB5_ := Lib.hid (Ext.trans' hHeld.2 h5); clear h5 hn5)
  refine hK.out _ _ (HC.out _ HB5_.out) (fun hHeld => ?_)
  clear hK K
  try simp only [Act.put, List.setIfInBounds_toArray, List.set_cons_zero, List.set_cons_succ]
  first | (refine held_t (i := 30) hHeld ?_; apply Exists.intro; refine ⟨fun wq hq => ?_, ?_⟩; (focus ((try dsimp only at hq); go_simp; (first | done | with_reducible rfl | fail)))) | refine held_s (i := 30) hHeld ?_ | fail
  first | (refine held_t (i := 31) hHeld ?_; apply Exists.intro; refine ⟨fun wq hq => ?_, ?_⟩; (focus ((try dsimp only at hq); go_simp; (first | done | with_reducible rfl | fail)))) | refine held_s (i := 31) hHeld ?_ | fail
  try simp only [Act.put, List.setIfInBounds_toArray, List.set_cons_zero, List.set_cons_succ]
  first | (refine held_t (i := 32) hHeld ?_; apply Exists.intro; refine ⟨fun wq hq => ?_, ?_⟩; (focus ((try dsimp only at hq); go_simp; (first | done | with_reducible rfl | fail)))) | refine held_s (i := 32) hHeld ?_ | fail
  first | (refine held_t (i := 33) hHeld ?_; apply Exists.intro; refine ⟨fun wq hq => ?_, ?_⟩; (focus ((try dsimp only at hq); go_simp; (first | done | with_reducible rfl | fail)))) | refine held_s (i := 33) hHeld ?_ | fail
  try simp only [Act.put, List.setIfInBounds_toArray, List.set_cons_zero, List.set_cons_succ]
  first | (refine held_t (i := 34) hHeld ?_; apply Exists.intro; refine ⟨fun wq hq => ?_, ?_⟩; (focus ((try dsimp only at hq); go_simp; (first | done | with_reducible rfl | fail)))) | refine held_s (i := 34) hHeld ?_ | fail
  first | (refine held_t (i := 35) hHeld ?_; apply Exists.intro; refine ⟨fun wq hq => ?_, ?_⟩; (focus ((try dsimp only at hq); go_simp; (first | done | with_reducible rfl | fail)))) | refine held_s (i := 35) hHeld ?_ | fail
  try simp only [Act.put, List.setIfInBounds_toArray, List.set_cons_zero, List.set_cons_succ]
  first | (refine held_t (i := 36) hHeld ?_; apply Exists.intro; refine ⟨fun wq hq => ?_, ?_⟩; (focus ((try dsimp only at hq); go_simp; (first | done | with_reducible rfl | fail)))) | refine held_s (i := 36) hHeld ?_ | fail
  first | (refine held_t (i := 37) hHeld ?_; apply Exists.intro; refine ⟨fun wq hq => ?_, ?_⟩; (focus ((try dsimp only at hq); go_simp; (first | done | with_reducible rfl | fail)))) | refine held_s (i := 37) hHeld ?_ | fail
  try simp only [Act.put, List.setIfInBounds_toArray, List.set_cons_zero, List.set_cons_succ]
  first | (refine held_t (i := 38) hHeld ?_; apply Exists.intro; refine ⟨fun wq hq => ?_, ?_⟩; (focus ((try dsimp only at hq); go_simp; (first | done | with_reducible rfl | fail)))) | refine held_s (i := 38) hHeld ?_ | fail
  first | (refine held_t (i := 39) hHeld ?_; apply Exists.intro; refine ⟨fun wq hq => ?_, ?_⟩; (focus ((try dsimp only at hq); go_simp; (first | done | with_reducible rfl | fail)))) | refine held_s (i := 39) hHeld ?_ | fail
  try simp only [Act.put, List.setIfInBounds_toArray, List.set_cons_zero, List.set_cons_succ]
  first | (refine held_t (i := 40) hHeld ?_; apply Exists.intro; refine ⟨fun wq hq => ?_, ?_⟩; (focus ((try dsimp only at hq); go_simp; (first | done | with_reducible rfl | fail)))) | refine held_s (i := 40) hHeld ?_ | fail
  first | (refine held_t (i := 41) hHeld ?_; apply Exists.intro; refine ⟨fun wq hq => ?_, ?_⟩; (focus ((try dsimp only at hq); go_simp; (first | done | with_reducible rfl | fail)))) | refine held_s (i := 41) hHeld ?_ | fail
  try simp only [Act.put, List.setIfInBounds_toArray, List.set_cons_zero, List.set_cons_succ]
  refine wpAnyH_done (by kernel_rfl) ?_ _
  clear hHeld
  go_wp2
  go_ret
  exact ⟨rfl, Ext.trans' HB8.out.1 HB5_.out⟩
end Go.Proofs.Ytannchfoldnhcaa
