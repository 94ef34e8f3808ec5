import Derived.Test.YtljgkfdnmikpfaaGreatDoorHavav
import Derived.Test.YtljgkfdnmikpfaaGreatDoorHavaw
import Derived.Test.YtljgkfdnmikpfaaGreatDoorHavax
import Derived.Test.YtljgkfdnmikpfaaGreatDoorHavag
import Derived.Deep.CutBlock
import Derived.Laws.StructEq
import Derived.Test.YtljgkfdnmikpfaaGreatDoorHavab
import Derived.Test.YtljgkfdnmikpfaaGreatDoorHavar
import Derived.Test.YtljgkfdnmikpfaaGreatDoorHavai
import Derived.Test.YtljgkfdnmikpfaaGreatDoorHavaj
import Derived.Lib.LaidTab
set_option linter.unusedVariables false
set_option linter.unusedSimpArgs false
/- Stage 9's laws: their own copy of a term. -/
namespace Go.Proofs.YtljgkfdnmikpfaaGreatDoor
open Go.Shelf Go.RowKit
set_option linter.unusedVariables false

set_option maxRecDepth 100000 in
set_option maxHeartbeats 8000000 in
theorem own9_step (N : Nat) (ih : ∀ t, sizeN t < N → ∀ (D : Nat → Bool) (w : World) (v : Value), Old D w → TmV w t v → Calls Tryz.prog 33 #[v] w fun e w' => ∃ v', e = .returned v' ∧ TmV (hide D w') t v' ∧ Below w.heap.size w w')
    (t : Tm) (ht : sizeN t < N + 1) (D : Nat → Bool) (w : World) (v : Value) (hD : Old D w) (hv : TmV w t v) :
    Calls Tryz.prog 33 #[v] w fun e w' => ∃ v', e = .returned v' ∧ TmV (hide D w') t v' ∧ Below w.heap.size w w' := by
  cases t with
  | mk k n s ts =>
  obtain ⟨u, rfl, hs, hk64, hn64, hu⟩ := tmV_iff.1 hv
  obtain ⟨au, cu, rfl, hu1, hu2, hu3⟩ := hu.len
  obtain ⟨m, hm⟩ : ∃ m, ts.length = m := ⟨_, rfl⟩
  rw [hm] at hu hu1 hu3
  rw [hm]
  unfold BIG at hu3
  unfold maxLen at hu2
  obtain ⟨w1, hw1, hb1, hz1, hx1⟩ := box_new w #[.int .i64 k, .int .i64 n, .string s, .slice au m cu] 27
  obtain ⟨w2, hw2, hb2, hz2, hx2⟩ := box_new w1 #[.int .i64 0, .int .i64 0, .string ⟨#[]⟩, .slice none 0 0] 66
  obtain ⟨w3, hw3, hb3, hz3, hx3⟩ := box_new w2 #[.int .i64 k, .int .i64 n, .string s, .slice none 0 0] 66
  have hB3 := Ext.trans' (Ext.trans' hb1 hb2) hb3
  have hBB := (hb1.size)
  have hRR : w.heap.size ≤ w2.heap.size := Nat.le_trans hb1.size hb2.size
  have HT3 := Lib.hid ((Turn.into (D := D) (M := noM) (Ext.trans' hb1 hb2) hBB).trans (Turn.into (M := noM) hb3 (Nat.le_refl _)))
  have HO3 := Lib.hid (((okd_no hD).box (Ext.trans' hb1 hb2).size hx2.lt).box hb3.size hx3.lt)
  obtain ⟨y0, y1, y2, y3, yf⟩ := (hx1.ext hb2).four
  have HX1 := Lib.hid ((hx1.ext hb2).ext hb3)
  have HX2 := Lib.hid (hx2.ext hb3)
  have HX3 := Lib.hid hx3
  have HU := Lib.hid hu
  have HM := Lib.hid hm
  have HD := Lib.hid hD
  have HSZ := Lib.hid (show ∀ x ∈ ts, sizeN x < N from fun x hx => by have := sizes_mem hx; rw [sizeN] at ht; omega)
  have HIH := Lib.hid ih
  have HK := Lib.hid (And.intro hs (And.intro hk64 hn64))
  obtain ⟨i0, hi0, hz0, hs0, hb0⟩ := info_parts infoTermR
  have h12 : w.heap.size ≠ w1.heap.size := by omega
  have h13 : w.heap.size ≠ w2.heap.size := by omega
  have h23 : w1.heap.size ≠ w2.heap.size := by omega
  have hR : w.heap.size ≤ w2.heap.size := hRR
  have h23w : w2.heap.size < w3.heap.size := by omega
  have h13w : w1.heap.size < w3.heap.size := by omega
  have hBq : w.heap.size ≤ w1.heap.size := hBB
  clear hb1 hb2 hb3 hx1 hx2 hx3 hz1 hz2 hz3 hv hu hD ih ht hm hB3 hs hk64 hn64 hBB hRR
  have HW3 := Lib.hid hw3
  clear hw3
  go_enter Tryz.func33, Tryz.ntmps33
  go_wp2_with fail
  (try rw [hw1])
  (try rw [hw2])
  clear hw1 hw2
  go_wp2_with fail
  (try rw [HW3.out])
  clear y0 y1 y2 y3 yf HW3
  go_loopw [4] (fun i wr => ∃ (D1 : Nat → Bool) (j c : Nat) (a : Option Addr) (ps : List TmP), j ≤ m ∧ i = .int .i64 j ∧ ps.length = j ∧ Hid (ps.map (·.1) = ts.take j) ∧ Hid (Box wr w2.heap.size [.int .i64 k, .int .i64 n, .string s, .slice a j c]) ∧ Hid (RowY D1 noM wr w3.heap.size (.slice a j c) ps) ∧ Hid (Turn D noM D1 noM w wr) ∧ Hid (Okd D1 noM wr) ∧ Hid (D1 w2.heap.size = true ∧ D1 w1.heap.size = true) ∧ Hid (w3.heap.size ≤ wr.heap.size) ∧ Hid (Box wr w.heap.size [.int .i64 k, .int .i64 n, .string s, .slice au m cu]) ∧ Hid (Box wr w1.heap.size [.int .i64 0, .int .i64 0, .string ⟨#[]⟩, .slice none 0 0]))
    (fun i _ => m - (intOf i).toNat)
  case atStart => exact ⟨plusB (plusB D w1.heap.size) w2.heap.size, 0, 0, none, [], Nat.zero_le _, rfl, rfl, Lib.hid rfl, HX3, Lib.hid (RowY.none _ _ _ _), HT3, HO3, Lib.hid ⟨plusB_self _ _, plusB_of (plusB_self _ _)⟩, Lib.hid (Nat.le_refl _), HX1, HX2⟩
  case round =>
    obtain ⟨D1, j, c, a, ps, hj, rfl, hpl, HPS, HXR, HRW, HT, HO, HDR, HZ, HX1, HX2⟩ := hrel
    have HPL := Lib.hid hpl
    obtain ⟨r0, r1, r2, r3, rf⟩ := HXR.out.four
    obtain ⟨t0, t1, t2, t3, tf⟩ := HX1.out.four
    have HBl := Lib.hid (HT.out.bel (Nat.le_refl _) (fun k _ => rfl))
    clear hpl
    by_cases hlt : j < m
    · obtain ⟨x, hx⟩ : ∃ x, ts[j]? = some x := ⟨_, List.getElem?_eq_getElem (by rw [HM.out]; exact hlt)⟩
      obtain ⟨b, off, xk, xn, xs', xu, rfl, hbb, ek, en, es, c0, c1, c2, c3, _, htx⟩ := (HU.out.ext HBl.out).get hx
      have HSX := Lib.hid (HSZ.out x (List.mem_of_getElem? hx))
      have HTX := Lib.hid htx
      have HTK := Lib.hid (take_next hx)
      have HC := Lib.hid (fun (wq : World) (hq : Below wr.heap.size wr wq) => HIH.out x HSX.out D1 wq _ (HO.out.2.mono hq.size) (TmV.ext hq _ _ HTX.out))
      have hbw0 : b < w.heap.size := by
        have := HU.out
        obtain ⟨a', c', e', _, _, _, h4⟩ := this
        cases e'
        rcases h4 with rfl | ⟨b', off', e2, h5, _⟩
        · simp at hx
        · cases e2; exact h5
      have hbR : b ≠ w2.heap.size := by omega
      clear hx htx ek en es
      have hjj : (j : Int) < m := by omega
      go_wp2_with fail
      refine wp_region_held_drew (S := fun w' => (w'.cell? ⟨w.heap.size, 3, none⟩ = some (.slice (some ⟨b, off, none⟩) m cu) ∧ w'.cell? ⟨b, off + j * 4, none⟩ = some (.int .i64 xk) ∧ w'.cell? ⟨b, off + j * 4 + 1, none⟩ = some (.int .i64 xn) ∧ w'.cell? ⟨b, off + j * 4 + 2, none⟩ = some (.string xs') ∧ w'.cell? ⟨b, off + j * 4 + 3, none⟩ = some xu)) (by kernel_rfl) ⟨t3, c0, c1, c2, c3⟩ (fun hHeld => ?_)
      have HROW := Lib.hid (fun (wq : World) (hq : Below wr.heap.size wr wq) (o : Obj) => (show (wq.alloc o).ownsRow w3.heap.size 66 4 (.slice a j c) j (ps.flatMap pCells) from by
        have h := (HRW.out.turn (M := noM) (Turn.below (Ext.trans' hq (bel1' wq o))) HO.out.1).1
        unfold RowP at h
        rw [HPL.out] at h
        exact h))
      have h2w : w2.heap.size < w3.heap.size := h23w
      have h1w : w1.heap.size < w3.heap.size := h13w
      have h0w : w.heap.size < w3.heap.size := by omega
      have hbw : b < w3.heap.size := by omega
      first | (refine held_t (i := 0) hHeld ?_; apply Exists.intro; refine ⟨fun wq hq => ?_, ?_⟩; (focus ((try dsimp only at hq); go_simp; (first | done | with_reducible rfl | fail)))) | refine held_s (i := 0) hHeld ?_ | fail
      first | (refine held_t (i := 2) hHeld ?_; apply Exists.intro; refine ⟨fun wq hq => ?_, ?_⟩; (focus ((try dsimp only at hq); go_simp; (first | done | with_reducible rfl | fail)))) | refine held_s (i := 2) hHeld ?_ | fail
      first | (refine held_t (i := 3) hHeld ?_; apply Exists.intro; refine ⟨fun wq hq => ?_, ?_⟩; (focus ((try dsimp only at hq); go_simp; (first | done | with_reducible rfl | fail)))) | refine held_s (i := 3) hHeld ?_ | fail
      first | (refine held_t (i := 4) hHeld ?_; apply Exists.intro; refine ⟨fun wq hq => ?_, ?_⟩; (focus ((try dsimp only at hq); go_simp; (first | done | with_reducible rfl | fail)))) | refine held_s (i := 4) hHeld ?_ | fail
      first | (refine held_t (i := 5) hHeld ?_; apply Exists.intro; refine ⟨fun wq hq => ?_, ?_⟩; (focus ((try dsimp only at hq); go_simp; (first | done | with_reducible rfl | fail)))) | refine held_s (i := 5) hHeld ?_ | fail
      first | (refine held_t (i := 6) hHeld ?_; apply Exists.intro; refine ⟨fun wq hq => ?_, ?_⟩; (focus ((try dsimp only at hq); go_simp; (first | done | with_reducible rfl | fail)))) | refine held_s (i := 6) hHeld ?_ | fail
      try simp only [Act.put, List.setIfInBounds_toArray, List.set_cons_zero, List.set_cons_succ]
      refine wpAnyH_ready (rs := [1, 7]) (by kernel_rfl) (by simp) ?_
      refine AllReadyH.cons (by simp only [List.getElem?_toArray, List.getElem?_cons_zero, List.getElem?_cons_succ]; rfl) (fun K hK => ?_) (AllReadyH.cons (by simp only [List.getElem?_toArray, List.getElem?_cons_zero, List.getElem?_cons_succ]; rfl) (fun K hK => ?_) AllReadyH.nil)
      · go_simp
        skip
        refine hK.out _ _ (hHeld) (fun hHeld => ?_)
        clear hK K
        try simp only [Act.put, List.setIfInBounds_toArray, List.set_cons_zero, List.set_cons_succ]
        refine held_c 7 fun K hK => ?_
        go_simp
        (go_at_call 33; refine (HC.out _ ((Below.refl _ _).drew)).mono ?_; rintro e w5 ⟨v5, rfl, hv5, hb5⟩; obtain ⟨k5, n5, s5, a5, m5, c5, rfl, ek, en, es, ep⟩ := four_of hv5; have HEP := Lib.hid ep; have HEK := Lib.hid (And.intro ek (And.intro en es)); have HV5 := Lib.hid hv5; have HB5 := Lib.hid (Ext.trans' (Below.refl wr.heap.size wr).drew hb5); obtain ⟨r0, r1, r2, r3, rf⟩ := (HXR.out.ext HB5.out).four; have r3' : ∀ o, (w5.alloc o).cell? ⟨w2.heap.size, 3, none⟩ = some (.slice a j c) := (fun o => Lib.cell?_alloc_some _ r3); clear ek en es ep hv5)
        refine hK.out _ _ (⟨cell_later HB5.out t3, cell_later HB5.out c0, cell_later HB5.out c1, cell_later HB5.out c2, cell_later HB5.out c3⟩) (fun hHeld => ?_)
        clear hK K
        try simp only [Act.put, List.setIfInBounds_toArray, List.set_cons_zero, List.set_cons_succ]
        refine held_c 8 fun K hK => ?_
        go_simp
        skip
        refine hK.out _ _ (⟨cell_later (bel1' _ _) hHeld.1, cell_later (bel1' _ _) hHeld.2.1, cell_later (bel1' _ _) hHeld.2.2.1, cell_later (bel1' _ _) hHeld.2.2.2.1, cell_later (bel1' _ _) hHeld.2.2.2.2⟩) (fun hHeld => ?_)
        clear hK K
        try simp only [Act.put, List.setIfInBounds_toArray, List.set_cons_zero, List.set_cons_succ]
        refine held_c 9 fun K hK => ?_
        (refine step_append_k (by rfl) _ _ _ (by rfl) w3.heap.size 66 i0 (.agg #[.int .i64 0, .int .i64 0, .string ⟨#[]⟩, .slice none 0 0]) 4 56 Tryz.underlying64 hi0 hz0 hs0 (by decide) hb0 rfl (.slice a j c) j (ps.flatMap pCells) (by rfl) (HROW.out w5 HB5.out _) (some ⟨w5.heap.size, 0, none⟩) 1 1 [.int .i64 k5, .int .i64 n5, .string s5, .slice a5 m5 c5] (by rfl) (by rfl) (Or.inr ⟨_, rfl, fun jj uu hu => cell_new w5 #[.int .i64 k5, .int .i64 n5, .string s5, .slice a5 m5 c5] _ jj uu hu⟩) (by simp [Value.oneCell']) (by unfold maxLen; omega) (by omega) (by have := HB5.out.size; have := HZ.out; simp; omega) (j + 1) (ps.flatMap pCells ++ [.int .i64 k5, .int .i64 n5, .string s5, .slice a5 m5 c5]) rfl rfl ?_; intro a7 c7 w7 hown7 hgrow7 hat7; have hkeep : ∀ g, g < w3.heap.size → w7.heap[g]? = w5.heap[g]? := (fun g hg => (hgrow7.block g (by have := HB5.out.size; have := HZ.out; simp; omega) (fun e => by have := (row_in HRW.out.1 e.symm).1; omega)).trans ((bel1' w5 _).block g (by have := HB5.out.size; have := HZ.out; omega))); have HKP := Lib.hid hkeep; have HGR := Lib.hid hgrow7; have HOW := Lib.hid hown7; have HAT := Lib.hid hat7; have r3 : w7.cell? ⟨w2.heap.size, 3, none⟩ = some (.slice a j c) := (by rw [World.cell?_of_block (hkeep _ h2w)]; exact r3); have rf : w7.frozen? ⟨w2.heap.size, 3, none⟩ = false := (by rw [World.frozen?_of_block (hkeep _ h2w)]; exact rf 3); clear hkeep hgrow7 hown7 hat7)
        refine hK.out _ _ (⟨by rw [World.cell?_of_block (HKP.out _ h0w)]; exact cell_later HB5.out t3, by rw [World.cell?_of_block (HKP.out _ hbw)]; exact cell_later HB5.out c0, by rw [World.cell?_of_block (HKP.out _ hbw)]; exact cell_later HB5.out c1, by rw [World.cell?_of_block (HKP.out _ hbw)]; exact cell_later HB5.out c2, by rw [World.cell?_of_block (HKP.out _ hbw)]; exact cell_later HB5.out c3⟩) (fun hHeld => ?_)
        clear hK K
        try simp only [Act.put, List.setIfInBounds_toArray, List.set_cons_zero, List.set_cons_succ]
        first | (refine held_t (i := 10) hHeld ?_; apply Exists.intro; refine ⟨fun wq hq => ?_, ?_⟩; (focus ((try dsimp only at hq); go_simp; (first | done | with_reducible rfl | fail)))) | refine held_s (i := 10) hHeld ?_ | fail
        try simp only [Act.put, List.setIfInBounds_toArray, List.set_cons_zero, List.set_cons_succ]
        refine held_c 11 fun K hK => ?_
        go_simp
        skip
        refine hK.out _ _ (⟨far_one hHeld.1 h13, far_one hHeld.2.1 hbR, far_one hHeld.2.2.1 hbR, far_one hHeld.2.2.2.1 hbR, far_one hHeld.2.2.2.2 hbR⟩) (fun hHeld => ?_)
        clear hK K
        try simp only [Act.put, List.setIfInBounds_toArray, List.set_cons_zero, List.set_cons_succ]
        refine wpAnyH_done (by kernel_rfl) ?_ _
        have hW5 : Below wr.heap.size wr (w5.alloc (.cells #[.int .i64 k5, .int .i64 n5, .string s5, .slice a5 m5 c5] 66)) := Ext.trans' HB5.out (bel1' w5 _)
        have hRW := HRW.out.turn (Turn.below hW5) HO.out.1
        have hpc : pCells (x, .slice a5 m5 c5) = [.int .i64 k5, .int .i64 n5, .string s5, .slice a5 m5 c5] := by unfold pCells; rw [← HEK.out.1, ← HEK.out.2.1, ← HEK.out.2.2]
        have htW : TmV (hide D1 (w5.alloc (.cells #[.int .i64 k5, .int .i64 n5, .string s5, .slice a5 m5 c5] 66))) x (pVal (x, .slice a5 m5 c5)) := by rw [← HEP.out]; exact TmV.later (bel1' w5 _) HV5.out
        have hR7 := hRW.more htW (HO.out.later hW5.size) HGR.out HAT.out (by rw [HPL.out, hpc]; exact HOW.out)
        have hown : ∀ g, (Value.slice a7 (j + 1) c7).ownBlock = some g → g ≠ w2.heap.size := fun g hg e => by have := (row_in HOW.out hg).1; omega
        have HR8 := Lib.hid (hR7.put ⟨w2.heap.size, 3, none⟩ (.slice a7 (j + 1) c7) (withB_of HDR.out.1) hown)
        have HT8 := Lib.hid (((HT.out.trans (Turn.below hW5)).grown HGR.out (fun g hg => by have := (row_in hRW.1 hg).1; omega) HAT.out).set ⟨w2.heap.size, 3, none⟩ (.slice a7 (j + 1) c7) (Or.inl hR))
        have HO8 := Lib.hid (show Okd (withB D1 (.slice a7 (j + 1) c7)) noM (w7.setCell ⟨w2.heap.size, 3, none⟩ (.slice a7 (j + 1) c7)) from ⟨fun k hk => absurd hk (by simp), fun k hk => by
          rw [withB_no (fun e => by have := (row_in HOW.out e).2; simp [World.setCell] at hk; omega)]
          exact HO.out.2 k (by have h1 := HGR.out.size; have h2 := hW5.size; simp [World.setCell] at hk; omega)⟩)
        have HB8 := Lib.hid (((HXR.out.ext HB5.out).block (HKP.out _ h2w) (by have h1 := HGR.out.size; have h2 := hW5.size; have h3 := HXR.out.lt; omega)).set (k := 3) (u := .slice a7 (j + 1) c7) (by simp))
        have HY1 := Lib.hid (((HX1.out.ext HB5.out).block (HKP.out _ h0w) (by have h1 := HGR.out.size; have h2 := hW5.size; have h3 := HX1.out.lt; omega)).far (c := w2.heap.size) (k := 3) (u := .slice a7 (j + 1) c7) h13)
        have HY2 := Lib.hid (((HX2.out.ext HB5.out).block (HKP.out _ h1w) (by have h1 := HGR.out.size; have h2 := hW5.size; have h3 := HX2.out.lt; omega)).far (c := w2.heap.size) (k := 3) (u := .slice a7 (j + 1) c7) h23)
        have HZ8 := Lib.hid (show w3.heap.size ≤ (w7.setCell ⟨w2.heap.size, 3, none⟩ (.slice a7 (j + 1) c7)).heap.size by have h1 := HGR.out.size; have h2 := hW5.size; have := HZ.out; simp [World.setCell]; omega)
        have HP8 := Lib.hid (show (ps ++ [(x, Value.slice a5 m5 c5)]).map (·.1) = ts.take (j + 1) by rw [List.map_append, HTK.out, HPS.out]; rfl)
        clear hRW hpc htW hR7 hown hW5 r0 r1 r2 r3 rf r3' t0 t1 t2 t3 tf c0 c1 c2 c3 hHeld
        go_wp2
        go_roundw
        case rel => exact ⟨_, j + 1, c7, a7, _, hlt, by go_num, by rw [List.length_append, HPL.out]; rfl, HP8, HB8, HR8, HT8, HO8, Lib.hid ⟨withB_of HDR.out.1, withB_of HDR.out.2⟩, HZ8, HY1, HY2⟩
        case measure => simp [intOf]; omega
      · go_simp
        (go_at_call 33; refine (HC.out _ ((Below.refl _ _).drew)).mono ?_; rintro e w5 ⟨v5, rfl, hv5, hb5⟩; obtain ⟨k5, n5, s5, a5, m5, c5, rfl, ek, en, es, ep⟩ := four_of hv5; have HEP := Lib.hid ep; have HEK := Lib.hid (And.intro ek (And.intro en es)); have HV5 := Lib.hid hv5; have HB5 := Lib.hid (Ext.trans' (Below.refl wr.heap.size wr).drew hb5); obtain ⟨r0, r1, r2, r3, rf⟩ := (HXR.out.ext HB5.out).four; have r3' : ∀ o, (w5.alloc o).cell? ⟨w2.heap.size, 3, none⟩ = some (.slice a j c) := (fun o => Lib.cell?_alloc_some _ r3); clear ek en es ep hv5)
        refine hK.out _ _ (⟨cell_later HB5.out t3, cell_later HB5.out c0, cell_later HB5.out c1, cell_later HB5.out c2, cell_later HB5.out c3⟩) (fun hHeld => ?_)
        clear hK K
        try simp only [Act.put, List.setIfInBounds_toArray, List.set_cons_zero, List.set_cons_succ]
        refine wpAnyH_ready (rs := [1, 8]) (by kernel_rfl) (by simp) ?_
        refine AllReadyH.cons (by simp only [List.getElem?_toArray, List.getElem?_cons_zero, List.getElem?_cons_succ]; rfl) (fun K hK => ?_) (AllReadyH.cons (by simp only [List.getElem?_toArray, List.getElem?_cons_zero, List.getElem?_cons_succ]; rfl) (fun K hK => ?_) AllReadyH.nil)
        · go_simp
          skip
          refine hK.out _ _ (hHeld) (fun hHeld => ?_)
          clear hK K
          try simp only [Act.put, List.setIfInBounds_toArray, List.set_cons_zero, List.set_cons_succ]
          refine held_c 8 fun K hK => ?_
          go_simp
          skip
          refine hK.out _ _ (⟨cell_later (bel1' _ _) hHeld.1, cell_later (bel1' _ _) hHeld.2.1, cell_later (bel1' _ _) hHeld.2.2.1, cell_later (bel1' _ _) hHeld.2.2.2.1, cell_later (bel1' _ _) hHeld.2.2.2.2⟩) (fun hHeld => ?_)
          clear hK K
          try simp only [Act.put, List.setIfInBounds_toArray, List.set_cons_zero, List.set_cons_succ]
          refine held_c 9 fun K hK => ?_
          (refine step_append_k (by rfl) _ _ _ (by rfl) w3.heap.size 66 i0 (.agg #[.int .i64 0, .int .i64 0, .string ⟨#[]⟩, .slice none 0 0]) 4 56 Tryz.underlying64 hi0 hz0 hs0 (by decide) hb0 rfl (.slice a j c) j (ps.flatMap pCells) (by rfl) (HROW.out w5 HB5.out _) (some ⟨w5.heap.size, 0, none⟩) 1 1 [.int .i64 k5, .int .i64 n5, .string s5, .slice a5 m5 c5] (by rfl) (by rfl) (Or.inr ⟨_, rfl, fun jj uu hu => cell_new w5 #[.int .i64 k5, .int .i64 n5, .string s5, .slice a5 m5 c5] _ jj uu hu⟩) (by simp [Value.oneCell']) (by unfold maxLen; omega) (by omega) (by have := HB5.out.size; have := HZ.out; simp; omega) (j + 1) (ps.flatMap pCells ++ [.int .i64 k5, .int .i64 n5, .string s5, .slice a5 m5 c5]) rfl rfl ?_; intro a7 c7 w7 hown7 hgrow7 hat7; have hkeep : ∀ g, g < w3.heap.size → w7.heap[g]? = w5.heap[g]? := (fun g hg => (hgrow7.block g (by have := HB5.out.size; have := HZ.out; simp; omega) (fun e => by have := (row_in HRW.out.1 e.symm).1; omega)).trans ((bel1' w5 _).block g (by have := HB5.out.size; have := HZ.out; omega))); have HKP := Lib.hid hkeep; have HGR := Lib.hid hgrow7; have HOW := Lib.hid hown7; have HAT := Lib.hid hat7; have r3 : w7.cell? ⟨w2.heap.size, 3, none⟩ = some (.slice a j c) := (by rw [World.cell?_of_block (hkeep _ h2w)]; exact r3); have rf : w7.frozen? ⟨w2.heap.size, 3, none⟩ = false := (by rw [World.frozen?_of_block (hkeep _ h2w)]; exact rf 3); clear hkeep hgrow7 hown7 hat7)
          refine hK.out _ _ (⟨by rw [World.cell?_of_block (HKP.out _ h0w)]; exact cell_later HB5.out t3, by rw [World.cell?_of_block (HKP.out _ hbw)]; exact cell_later HB5.out c0, by rw [World.cell?_of_block (HKP.out _ hbw)]; exact cell_later HB5.out c1, by rw [World.cell?_of_block (HKP.out _ hbw)]; exact cell_later HB5.out c2, by rw [World.cell?_of_block (HKP.out _ hbw)]; exact cell_later HB5.out c3⟩) (fun hHeld => ?_)
          clear hK K
          try simp only [Act.put, List.setIfInBounds_toArray, List.set_cons_zero, List.set_cons_succ]
          first | (refine held_t (i := 10) hHeld ?_; apply Exists.intro; refine ⟨fun wq hq => ?_, ?_⟩; (focus ((try dsimp only at hq); go_simp; (first | done | with_reducible rfl | fail)))) | refine held_s (i := 10) hHeld ?_ | fail
          try simp only [Act.put, List.setIfInBounds_toArray, List.set_cons_zero, List.set_cons_succ]
          refine held_c 11 fun K hK => ?_
          go_simp
          skip
          refine hK.out _ _ (⟨far_one hHeld.1 h13, far_one hHeld.2.1 hbR, far_one hHeld.2.2.1 hbR, far_one hHeld.2.2.2.1 hbR, far_one hHeld.2.2.2.2 hbR⟩) (fun hHeld => ?_)
          clear hK K
          try simp only [Act.put, List.setIfInBounds_toArray, List.set_cons_zero, List.set_cons_succ]
          refine wpAnyH_done (by kernel_rfl) ?_ _
          have hW5 : Below wr.heap.size wr (w5.alloc (.cells #[.int .i64 k5, .int .i64 n5, .string s5, .slice a5 m5 c5] 66)) := Ext.trans' HB5.out (bel1' w5 _)
          have hRW := HRW.out.turn (Turn.below hW5) HO.out.1
          have hpc : pCells (x, .slice a5 m5 c5) = [.int .i64 k5, .int .i64 n5, .string s5, .slice a5 m5 c5] := by unfold pCells; rw [← HEK.out.1, ← HEK.out.2.1, ← HEK.out.2.2]
          have htW : TmV (hide D1 (w5.alloc (.cells #[.int .i64 k5, .int .i64 n5, .string s5, .slice a5 m5 c5] 66))) x (pVal (x, .slice a5 m5 c5)) := by rw [← HEP.out]; exact TmV.later (bel1' w5 _) HV5.out
          have hR7 := hRW.more htW (HO.out.later hW5.size) HGR.out HAT.out (by rw [HPL.out, hpc]; exact HOW.out)
          have hown : ∀ g, (Value.slice a7 (j + 1) c7).ownBlock = some g → g ≠ w2.heap.size := fun g hg e => by have := (row_in HOW.out hg).1; omega
          have HR8 := Lib.hid (hR7.put ⟨w2.heap.size, 3, none⟩ (.slice a7 (j + 1) c7) (withB_of HDR.out.1) hown)
          have HT8 := Lib.hid (((HT.out.trans (Turn.below hW5)).grown HGR.out (fun g hg => by have := (row_in hRW.1 hg).1; omega) HAT.out).set ⟨w2.heap.size, 3, none⟩ (.slice a7 (j + 1) c7) (Or.inl hR))
          have HO8 := Lib.hid (show Okd (withB D1 (.slice a7 (j + 1) c7)) noM (w7.setCell ⟨w2.heap.size, 3, none⟩ (.slice a7 (j + 1) c7)) from ⟨fun k hk => absurd hk (by simp), fun k hk => by
            rw [withB_no (fun e => by have := (row_in HOW.out e).2; simp [World.setCell] at hk; omega)]
            exact HO.out.2 k (by have h1 := HGR.out.size; have h2 := hW5.size; simp [World.setCell] at hk; omega)⟩)
          have HB8 := Lib.hid (((HXR.out.ext HB5.out).block (HKP.out _ h2w) (by have h1 := HGR.out.size; have h2 := hW5.size; have h3 := HXR.out.lt; omega)).set (k := 3) (u := .slice a7 (j + 1) c7) (by simp))
          have HY1 := Lib.hid (((HX1.out.ext HB5.out).block (HKP.out _ h0w) (by have h1 := HGR.out.size; have h2 := hW5.size; have h3 := HX1.out.lt; omega)).far (c := w2.heap.size) (k := 3) (u := .slice a7 (j + 1) c7) h13)
          have HY2 := Lib.hid (((HX2.out.ext HB5.out).block (HKP.out _ h1w) (by have h1 := HGR.out.size; have h2 := hW5.size; have h3 := HX2.out.lt; omega)).far (c := w2.heap.size) (k := 3) (u := .slice a7 (j + 1) c7) h23)
          have HZ8 := Lib.hid (show w3.heap.size ≤ (w7.setCell ⟨w2.heap.size, 3, none⟩ (.slice a7 (j + 1) c7)).heap.size by have h1 := HGR.out.size; have h2 := hW5.size; have := HZ.out; simp [World.setCell]; omega)
          have HP8 := Lib.hid (show (ps ++ [(x, Value.slice a5 m5 c5)]).map (·.1) = ts.take (j + 1) by rw [List.map_append, HTK.out, HPS.out]; rfl)
          clear hRW hpc htW hR7 hown hW5 r0 r1 r2 r3 rf r3' t0 t1 t2 t3 tf c0 c1 c2 c3 hHeld
          go_wp2
          go_roundw
          case rel => exact ⟨_, j + 1, c7, a7, _, hlt, by go_num, by rw [List.length_append, HPL.out]; rfl, HP8, HB8, HR8, HT8, HO8, Lib.hid ⟨withB_of HDR.out.1, withB_of HDR.out.2⟩, HZ8, HY1, HY2⟩
          case measure => simp [intOf]; omega
        · go_simp
          skip
          refine hK.out _ _ (⟨cell_later (bel1' _ _) hHeld.1, cell_later (bel1' _ _) hHeld.2.1, cell_later (bel1' _ _) hHeld.2.2.1, cell_later (bel1' _ _) hHeld.2.2.2.1, cell_later (bel1' _ _) hHeld.2.2.2.2⟩) (fun hHeld => ?_)
          clear hK K
          try simp only [Act.put, List.setIfInBounds_toArray, List.set_cons_zero, List.set_cons_succ]
          refine held_c 1 fun K hK => ?_
          go_simp
          skip
          refine hK.out _ _ (hHeld) (fun hHeld => ?_)
          clear hK K
          try simp only [Act.put, List.setIfInBounds_toArray, List.set_cons_zero, List.set_cons_succ]
          refine held_c 9 fun K hK => ?_
          (refine step_append_k (by rfl) _ _ _ (by rfl) w3.heap.size 66 i0 (.agg #[.int .i64 0, .int .i64 0, .string ⟨#[]⟩, .slice none 0 0]) 4 56 Tryz.underlying64 hi0 hz0 hs0 (by decide) hb0 rfl (.slice a j c) j (ps.flatMap pCells) (by rfl) (HROW.out w5 HB5.out _) (some ⟨w5.heap.size, 0, none⟩) 1 1 [.int .i64 k5, .int .i64 n5, .string s5, .slice a5 m5 c5] (by rfl) (by rfl) (Or.inr ⟨_, rfl, fun jj uu hu => cell_new w5 #[.int .i64 k5, .int .i64 n5, .string s5, .slice a5 m5 c5] _ jj uu hu⟩) (by simp [Value.oneCell']) (by unfold maxLen; omega) (by omega) (by have := HB5.out.size; have := HZ.out; simp; omega) (j + 1) (ps.flatMap pCells ++ [.int .i64 k5, .int .i64 n5, .string s5, .slice a5 m5 c5]) rfl rfl ?_; intro a7 c7 w7 hown7 hgrow7 hat7; have hkeep : ∀ g, g < w3.heap.size → w7.heap[g]? = w5.heap[g]? := (fun g hg => (hgrow7.block g (by have := HB5.out.size; have := HZ.out; simp; omega) (fun e => by have := (row_in HRW.out.1 e.symm).1; omega)).trans ((bel1' w5 _).block g (by have := HB5.out.size; have := HZ.out; omega))); have HKP := Lib.hid hkeep; have HGR := Lib.hid hgrow7; have HOW := Lib.hid hown7; have HAT := Lib.hid hat7; have r3 : w7.cell? ⟨w2.heap.size, 3, none⟩ = some (.slice a j c) := (by rw [World.cell?_of_block (hkeep _ h2w)]; exact r3); have rf : w7.frozen? ⟨w2.heap.size, 3, none⟩ = false := (by rw [World.frozen?_of_block (hkeep _ h2w)]; exact rf 3); clear hkeep hgrow7 hown7 hat7)
          refine hK.out _ _ (⟨by rw [World.cell?_of_block (HKP.out _ h0w)]; exact cell_later HB5.out t3, by rw [World.cell?_of_block (HKP.out _ hbw)]; exact cell_later HB5.out c0, by rw [World.cell?_of_block (HKP.out _ hbw)]; exact cell_later HB5.out c1, by rw [World.cell?_of_block (HKP.out _ hbw)]; exact cell_later HB5.out c2, by rw [World.cell?_of_block (HKP.out _ hbw)]; exact cell_later HB5.out c3⟩) (fun hHeld => ?_)
          clear hK K
          try simp only [Act.put, List.setIfInBounds_toArray, List.set_cons_zero, List.set_cons_succ]
          first | (refine held_t (i := 10) hHeld ?_; apply Exists.intro; refine ⟨fun wq hq => ?_, ?_⟩; (focus ((try dsimp only at hq); go_simp; (first | done | with_reducible rfl | fail)))) | refine held_s (i := 10) hHeld ?_ | fail
          try simp only [Act.put, List.setIfInBounds_toArray, List.set_cons_zero, List.set_cons_succ]
          refine held_c 11 fun K hK => ?_
          go_simp
          skip
          refine hK.out _ _ (⟨far_one hHeld.1 h13, far_one hHeld.2.1 hbR, far_one hHeld.2.2.1 hbR, far_one hHeld.2.2.2.1 hbR, far_one hHeld.2.2.2.2 hbR⟩) (fun hHeld => ?_)
          clear hK K
          try simp only [Act.put, List.setIfInBounds_toArray, List.set_cons_zero, List.set_cons_succ]
          refine wpAnyH_done (by kernel_rfl) ?_ _
          have hW5 : Below wr.heap.size wr (w5.alloc (.cells #[.int .i64 k5, .int .i64 n5, .string s5, .slice a5 m5 c5] 66)) := Ext.trans' HB5.out (bel1' w5 _)
          have hRW := HRW.out.turn (Turn.below hW5) HO.out.1
          have hpc : pCells (x, .slice a5 m5 c5) = [.int .i64 k5, .int .i64 n5, .string s5, .slice a5 m5 c5] := by unfold pCells; rw [← HEK.out.1, ← HEK.out.2.1, ← HEK.out.2.2]
          have htW : TmV (hide D1 (w5.alloc (.cells #[.int .i64 k5, .int .i64 n5, .string s5, .slice a5 m5 c5] 66))) x (pVal (x, .slice a5 m5 c5)) := by rw [← HEP.out]; exact TmV.later (bel1' w5 _) HV5.out
          have hR7 := hRW.more htW (HO.out.later hW5.size) HGR.out HAT.out (by rw [HPL.out, hpc]; exact HOW.out)
          have hown : ∀ g, (Value.slice a7 (j + 1) c7).ownBlock = some g → g ≠ w2.heap.size := fun g hg e => by have := (row_in HOW.out hg).1; omega
          have HR8 := Lib.hid (hR7.put ⟨w2.heap.size, 3, none⟩ (.slice a7 (j + 1) c7) (withB_of HDR.out.1) hown)
          have HT8 := Lib.hid (((HT.out.trans (Turn.below hW5)).grown HGR.out (fun g hg => by have := (row_in hRW.1 hg).1; omega) HAT.out).set ⟨w2.heap.size, 3, none⟩ (.slice a7 (j + 1) c7) (Or.inl hR))
          have HO8 := Lib.hid (show Okd (withB D1 (.slice a7 (j + 1) c7)) noM (w7.setCell ⟨w2.heap.size, 3, none⟩ (.slice a7 (j + 1) c7)) from ⟨fun k hk => absurd hk (by simp), fun k hk => by
            rw [withB_no (fun e => by have := (row_in HOW.out e).2; simp [World.setCell] at hk; omega)]
            exact HO.out.2 k (by have h1 := HGR.out.size; have h2 := hW5.size; simp [World.setCell] at hk; omega)⟩)
          have HB8 := Lib.hid (((HXR.out.ext HB5.out).block (HKP.out _ h2w) (by have h1 := HGR.out.size; have h2 := hW5.size; have h3 := HXR.out.lt; omega)).set (k := 3) (u := .slice a7 (j + 1) c7) (by simp))
          have HY1 := Lib.hid (((HX1.out.ext HB5.out).block (HKP.out _ h0w) (by have h1 := HGR.out.size; have h2 := hW5.size; have h3 := HX1.out.lt; omega)).far (c := w2.heap.size) (k := 3) (u := .slice a7 (j + 1) c7) h13)
          have HY2 := Lib.hid (((HX2.out.ext HB5.out).block (HKP.out _ h1w) (by have h1 := HGR.out.size; have h2 := hW5.size; have h3 := HX2.out.lt; omega)).far (c := w2.heap.size) (k := 3) (u := .slice a7 (j + 1) c7) h23)
          have HZ8 := Lib.hid (show w3.heap.size ≤ (w7.setCell ⟨w2.heap.size, 3, none⟩ (.slice a7 (j + 1) c7)).heap.size by have h1 := HGR.out.size; have h2 := hW5.size; have := HZ.out; simp [World.setCell]; omega)
          have HP8 := Lib.hid (show (ps ++ [(x, Value.slice a5 m5 c5)]).map (·.1) = ts.take (j + 1) by rw [List.map_append, HTK.out, HPS.out]; rfl)
          clear hRW hpc htW hR7 hown hW5 r0 r1 r2 r3 rf r3' t0 t1 t2 t3 tf c0 c1 c2 c3 hHeld
          go_wp2
          go_roundw
          case rel => exact ⟨_, j + 1, c7, a7, _, hlt, by go_num, by rw [List.length_append, HPL.out]; rfl, HP8, HB8, HR8, HT8, HO8, Lib.hid ⟨withB_of HDR.out.1, withB_of HDR.out.2⟩, HZ8, HY1, HY2⟩
          case measure => simp [intOf]; omega
    · have hjm : j = m := by omega
      subst hjm
      obtain ⟨q0, q1, q2, q3, qf⟩ := HX2.out.four
      go_wp2
      refine bodyPost_ret (v := .agg #[.int .i64 k, .int .i64 n, .string s, .slice a j c]) (by rw [results_cell1 rfl]; go_simp) rfl ⟨_, rfl, ?_, ?_⟩
      · have hT := HT.out.set4 (b := w1.heap.size) (Or.inl hBq) (.int .i64 k) (.int .i64 n) (.string s) (.slice a j c)
        have hT4 := HRW.out
        have hRp : RowY D1 noM (set4 wr w1.heap.size (.int .i64 k) (.int .i64 n) (.string s) (.slice a j c)) w3.heap.size (.slice a j c) ps := by
          have hn : ∀ g, (Value.slice a j c).ownBlock = some g → g ≠ w1.heap.size := fun g hg e => by have := (row_in hT4.1 hg).1; omega
          exact (((hT4.put ⟨w1.heap.size, 0, none⟩ _ HDR.out.2 hn).put ⟨w1.heap.size, 1, none⟩ _ HDR.out.2 hn).put ⟨w1.heap.size, 2, none⟩ _ HDR.out.2 hn).put ⟨w1.heap.size, 3, none⟩ _ HDR.out.2 hn
        have hF := RowY.fin (Nat.le_trans hR (Nat.le_of_lt h23w)) hRp hT (HO.out.put4 _ _ _ _ _) (by rw [HPL.out]; unfold BIG; omega)
        rw [fin_no HD.out, HPS.out, List.take_of_length_le (by rw [HM.out]; exact Nat.le_refl _)] at hF
        exact tmV_iff.2 ⟨_, rfl, HK.out.1, HK.out.2.1, HK.out.2.2, hF⟩
      · exact Below.set4 HBl.out hBq _ _ _ _
theorem own9_at (t : Tm) (D : Nat → Bool) (w : World) (v : Value) (hD : Old D w) (hv : TmV w t v) : Calls Tryz.prog 33 #[v] w fun e w' => ∃ v', e = .returned v' ∧ TmV (hide D w') t v' ∧ Below w.heap.size w w' := by
  suffices h : ∀ N (t : Tm), sizeN t < N → ∀ (D : Nat → Bool) (w : World) (v : Value), Old D w → TmV w t v → Calls Tryz.prog 33 #[v] w fun e w' => ∃ v', e = .returned v' ∧ TmV (hide D w') t v' ∧ Below w.heap.size w w' from
    h _ t (Nat.lt_succ_self _) D w v hD hv
  intro N
  induction N with
  | zero => intro t ht; omega
  | succ N ih => intro t ht D w v hD hv; exact own9_step N ih t ht D w v hD hv
end Go.Proofs.YtljgkfdnmikpfaaGreatDoor
/- The document's own writing without operators: plain. -/
namespace Go.Proofs.YtljgkfdnmikpfaaGreatDoor
open Go.Shelf Go.RowKit
set_option linter.unusedVariables false

section
variable (q : ByteArray → List UInt8) (nm : Int → List UInt8) (vs : List Int)
end
theorem bl_cat (a b : ByteArray) : bl (a ++ b) = bl a ++ bl b := by simp [bl]
theorem size_bl (a : ByteArray) : a.size = (bl a).length := (bl_len a).symm
end Go.Proofs.YtljgkfdnmikpfaaGreatDoor
/- What is written is read as it was: the law's walk. -/
namespace Go.Proofs.YtljgkfdnmikpfaaGreatDoor
open Go.Shelf Go.RowKit
set_option linter.unusedVariables false
set_option maxRecDepth 100000

mutual
theorem tm_nums {w : World} : ∀ (x : Tm) (v : Value), TmV w x v → numsT x
  | .mk k n s ts, v, h => by
    rw [TmV] at h
    obtain ⟨a, c, h1, h2, h3, h4, h5, h6, h7, h8⟩ := h
    rw [numsT]
    refine ⟨fun _ => by unfold I64 at h7; omega, ?_⟩
    rcases h8 with rfl | ⟨b, off, _, _, e3⟩
    · rw [numsL]; trivial
    · exact row_nums ts b off e3
theorem row_nums {w : World} : ∀ (l : List Tm) (b off : Nat), TmRow w l b off → numsL l
  | [], b, off, _ => by rw [numsL]; trivial
  | x :: r, b, off, h => by
    rw [TmRow] at h
    obtain ⟨⟨c0, c1, c2, c3, _, _, _, _, h4⟩, h5⟩ := h
    rw [numsL]
    exact ⟨tm_nums x _ h4, row_nums r b (off + 4) h5⟩
end
abbrev spdot : ByteArray := ⟨#[32, 46]⟩
theorem bl_spdot (t : List UInt8) : bl ((⟨t.toArray⟩ : ByteArray) ++ spdot) = t ++ [32, 46] := bl_cat _ _
theorem size_spdot {t : List UInt8} (h : t.length ≤ 4096) : ((⟨t.toArray⟩ : ByteArray) ++ spdot).size ≤ 140737488351232 := by
  rw [size_bl, bl_spdot, List.length_append]; simp only [List.length_cons, List.length_nil]; omega
theorem textX_ok {t : List UInt8} (h : t.length ≤ 4096) : textX true t = .tuple #[.string ⟨t.toArray⟩, .int .i64 0] := by
  unfold textX
  rw [if_pos rfl, if_neg (by omega), if_neg (by omega)]
theorem textX_far {t : List UInt8} (h : 4096 < t.length) : textX true t = .tuple #[.string ⟨#[]⟩, .int .i64 3] := by
  unfold textX
  rw [if_pos rfl, if_pos h, if_pos h]
theorem both_true {a b : Bool} (h : (a && b) = true) : a = true ∧ b = true := by simpa using h
theorem oneP_okx {xs : List O} {s : ByteArray} {t : Tm} {nm : List NmP} (hX : readB oneR xs (bl s) = .ok (t, nm)) (hs : s.size ≤ 140737488351232) {w : World} (he : Err w) {v : Value} (ho : Ops w v xs) :
    Calls Tryz.prog 15 #[.agg #[v], .string s] w fun e w' => (∃ k n b a m c vn, e = .returned (.tuple #[.agg #[.int .i64 k, .int .i64 n, .string b, .slice a m c], vn, .int .i64 0]) ∧ TmV w' t (.agg #[.int .i64 k, .int .i64 n, .string b, .slice a m c]) ∧ Nms w' vn nm) ∧ Below w.heap.size w w' :=
  (term8_at ho s he hs).mono fun e w' (h : TermX w (readB oneR xs (bl s)) e w') => by
    rw [hX] at h
    obtain ⟨⟨v, vn, h1, h2, h3⟩, h4⟩ := h
    obtain ⟨k, n, b, a, m, c, rfl⟩ := h2.full
    exact ⟨⟨k, n, b, a, m, c, vn, h1, h2, h3⟩, h4⟩
set_option maxHeartbeats 8000000 in
theorem back_at {w : World} (hc : Con w) {xs : List O} {vl : Value} (ho : Ops w vl xs) {x : Tm} {v : Value} (hv : TmV w x v) :
    Calls Tryz.prog 9 #[vl, v] w fun e w' => e = .returned (.bool true) ∧ Below w.heap.size w w' := by
  obtain ⟨k, n, s, a, m, c, rfl⟩ := hv.full
  obtain ⟨ao, co, rfl, hl1, hl2⟩ := ho.form
  obtain ⟨nl, hnl⟩ : ∃ q, xs.length = q := ⟨_, rfl⟩
  rw [hnl] at ho hl1 ⊢
  have HNL := Lib.hid hnl
  obtain ⟨w1, hw1, hb1, hz1, hx1⟩ := box_new w #[.int .i64 k, .int .i64 n, .string s, .slice a m c] 27
  have HC := Lib.hid hc
  have HO := Lib.hid ho
  have HV := Lib.hid hv
  have HB1 := Lib.hid hb1
  have HX1 := Lib.hid hx1
  have HAW := Lib.hid (awake9_at (hc.ext hb1))
  clear hc ho hv hb1 hx1 hz1 hnl
  go_enter Tryz.func9, Tryz.ntmps9
  go_wp2_with fail
  (try rw [hw1])
  clear hw1
  (go_wp2_with fail; go_fit (HAW.out); rintro e w2 ⟨rfl, hb2⟩)
  have HB2 := Lib.hid (Ext.trans' HB1.out hb2)
  have HX2 := Lib.hid (HX1.out.ext hb2)
  clear hb2 HAW HX1
  by_cases hbig : 60 < nl
  · have hd : decide ((60 : Int) < (nl : Int)) = true := decide_eq_true (by omega)
    go_wp2
    go_ret
    exact ⟨rfl, HB2.out⟩
  have hda : decide ((60 : Int) < (nl : Int)) = false := decide_eq_false (by omega)
  have hdp := deep9_at _ x (Nat.le_refl _) 70 (by unfold I64; omega) w2 _ (TmV.ext HB2.out _ _ HV.out)
  obtain ⟨b0, b1, b2, b3, bf⟩ := HX2.out.four
  cases hdeep : deepT x 70
  case true =>
    rw [hdeep] at hdp
    clear hdeep
    (go_wp2_with fail; go_fit (hdp); rintro e w3 ⟨rfl, hb3⟩)
    have HB3 := Lib.hid (Ext.trans' HB2.out hb3)
    clear hb3 hdp
    go_wp2
    go_ret
    exact ⟨rfl, HB3.out⟩
  rw [hdeep] at hdp
  clear hdeep
  (go_wp2_with fail; go_fit (hdp); rintro e w3 ⟨rfl, hb3⟩)
  have HB3 := Lib.hid (Ext.trans' HB2.out hb3)
  have HX3 := Lib.hid (HX2.out.ext hb3)
  clear hb3 hdp b0 b1 b2 b3 bf HX2
  obtain ⟨w4, hw4, hb4, hz4, hx4⟩ := box_new w3 #[.slice none 0 0] 36
  obtain ⟨w4s, hw4s⟩ : ∃ q, w4.setCell ⟨w3.heap.size, 0, none⟩ (.slice ao nl co) = q := ⟨_, rfl⟩
  have hb4s : Below w3.heap.size w3 w4s := hw4s ▸ hb4.setCell (Nat.le_refl _) _
  have HB4 := Lib.hid (Ext.trans' HB3.out hb4s)
  have HX4 := Lib.hid (HX3.out.ext hb4s)
  have HT4 := Lib.hid (show Box w4s w3.heap.size [.slice ao nl co] from hw4s ▸ hx4.set (k := 0) (u := .slice ao nl co) (by simp))
  have hW := Lib.hid (wterm_at (HC.out.ext HB4.out) (HO.out.ext HB4.out) (TmV.ext HB4.out _ _ HV.out))
  obtain ⟨b0, b1, b2, b3, bf⟩ := HX4.out.four
  have c0 := HT4.out.cells 0 _ rfl
  have q0 := hx4.cells 0 _ rfl
  have qf := hx4.fz
  clear hb4 hz4 hx4 hb4s
  go_wp2_with fail
  (try rw [hw4])
  (try rw [hw4s])
  clear hw4 hw4s q0 qf
  have HX4b := Lib.hid HX4.out
  cases hgood : (goodB xs && goodT x)
  case false =>
    have hWW := hW.out
    rw [show termTx xs x = .tuple #[.string ⟨#[]⟩, .int .i64 1] from by unfold termTx; rw [hgood]; rfl] at hWW
    clear hgood hW
    (go_wp2_with fail; go_fit (hWW); rintro e w5 ⟨rfl, hb5⟩)
    have HB5 := Lib.hid (Ext.trans' HB4.out hb5)
    clear hb5 hWW b0 b1 b2 b3 bf c0
    go_wp2
    go_ret
    exact ⟨rfl, HB5.out⟩
  obtain ⟨hgb, hgt⟩ := both_true hgood
  by_cases hlen : 4096 < (writeT xs x).length
  · have hWW := hW.out
    rw [show termTx xs x = .tuple #[.string ⟨#[]⟩, .int .i64 3] from by unfold termTx; rw [hgood]; exact textX_far hlen] at hWW
    clear hgood hW hgb hgt
    (go_wp2_with fail; go_fit (hWW); rintro e w5 ⟨rfl, hb5⟩)
    have HB5 := Lib.hid (Ext.trans' HB4.out hb5)
    clear hb5 hWW b0 b1 b2 b3 bf c0
    go_wp2
    go_ret
    exact ⟨rfl, HB5.out⟩
  have hWW := hW.out
  rw [show termTx xs x = .tuple #[.string ⟨(writeT xs x).toArray⟩, .int .i64 0] from by unfold termTx; rw [hgood]; exact textX_ok (by omega)] at hWW
  have HGB := Lib.hid hgb
  have HGT := Lib.hid hgt
  have hrt := write_read hgb hgt (tm_nums x _ HV.out)
  rw [← bl_spdot] at hrt
  have HSZ := Lib.hid (size_spdot (t := writeT xs x) (by omega))
  obtain ⟨st, hst⟩ : ∃ q : ByteArray, (⟨(writeT xs x).toArray⟩ : ByteArray) = q := ⟨_, rfl⟩
  rw [hst] at hWW hrt HSZ
  have hsz : st.size = (writeT xs x).length := by rw [← hst]; simp [ByteArray.size]
  have hss : ¬ 9223372036854775807 < 2 + st.size := by omega
  have hss2 : ¬ 9223372036854775807 < st.size + 2 := by omega
  have HRT := Lib.hid hrt
  clear hgood hW hgb hgt hrt hst hlen hsz
  (go_wp2_with fail; go_fit (hWW); rintro e w5 ⟨rfl, hb5⟩)
  have HB5 := Lib.hid (Ext.trans' HB4.out hb5)
  have HX5 := Lib.hid (HX4.out.ext hb5)
  have HT5 := Lib.hid (HT4.out.ext hb5)
  clear hb5 hWW b0 b1 b2 b3 bf c0 HX4b
  rcases HRT.out with ⟨l, hcut, hread⟩ | ⟨q, hcut⟩
  case inr =>
    have hC := cut_bad (w := w5) (HC.out.err.ext HB5.out) HSZ.out hcut
    clear hcut HRT
    (go_wp2_with fail; go_fit (hC); rintro e w6 ⟨rfl, hb6⟩)
    have HB6 := Lib.hid (Ext.trans' HB5.out hb6)
    clear hb6 hC
    go_wp2
    go_ret
    exact ⟨rfl, HB6.out⟩
  have hC := cut_ok (w := w5) (HC.out.err.ext HB5.out) HSZ.out hcut
  have HRD := Lib.hid hread
  obtain ⟨nl2, hnl2⟩ : ∃ q, l.length = q := ⟨_, rfl⟩
  rw [hnl2] at hC
  clear hcut HRT hread hnl2
  (go_wp2_with fail; go_fit (hC); rintro e w6 ⟨ao6, co6, rfl, htk, hb6⟩)
  have HB6 := Lib.hid (Ext.trans' HB5.out hb6)
  have HX6 := Lib.hid (HX5.out.ext hb6)
  have HT6 := Lib.hid (HT5.out.ext hb6)
  have hOK := oneP_okx HRD.out HSZ.out (HC.out.err.ext HB6.out) (HO.out.ext HB6.out)
  have c0 := HT6.out.cells 0 _ rfl
  clear hb6 hC htk HT5 HX5
  (go_wp2_with fail; go_fit (hOK); rintro e w7 ⟨⟨k7, n7, s7, a7, m7, c7, vn, rfl, htv, hnm⟩, hb7⟩)
  obtain ⟨w8, hw8, hb8, hz8, hx8⟩ := box_new w7 #[.int .i64 0, .int .i64 0, .string ⟨#[]⟩, .slice none 0 0] 27
  obtain ⟨w9, hw9⟩ : ∃ q, set4 w8 w7.heap.size (.int .i64 k7) (.int .i64 n7) (.string s7) (.slice a7 m7 c7) = q := ⟨_, rfl⟩
  have hb9 : Below w7.heap.size w7 w9 := hw9 ▸ Below.set4 hb8 (Nat.le_refl _) _ _ _ _
  have HB7 := Lib.hid (Ext.trans' HB6.out hb7)
  have HB9 := Lib.hid (Ext.trans' HB7.out hb9)
  have HX9 := Lib.hid ((HX6.out.ext hb7).ext hb9)
  have HY9 := Lib.hid (show Box w9 w7.heap.size [.int .i64 k7, .int .i64 n7, .string s7, .slice a7 m7 c7] from hw9 ▸ hx8.all4 _ _ _ _)
  have HTV := Lib.hid (TmV.ext hb9 _ _ htv)
  have HXV := Lib.hid (TmV.ext HB9.out _ _ HV.out)
  obtain ⟨q0, q1, q2, q3, qf⟩ := hx8.four
  obtain ⟨b0, b1, b2, b3, bf⟩ := HX9.out.four
  obtain ⟨d0, d1, d2, d3, df⟩ := HY9.out.four
  have HOW := Lib.hid (fun (wq : World) (hq : Below w9.heap.size w9 wq) => own9_at (renT (varsT x []) x) noM wq _ (fun _ _ => rfl) (TmV.ext hq _ _ HTV.out))
  have HOX := Lib.hid (fun (wq : World) (hq : Below w9.heap.size w9 wq) => own9_at x noM wq _ (fun _ _ => rfl) (TmV.ext hq _ _ HXV.out))
  clear hb7 hb8 hz8 hx8 hb9 htv hnm c0 hOK
  go_wp2_with fail
  (try rw [hw8])
  (try rw [hw9])
  clear q0 q1 q2 q3 qf hw8 hw9
  refine wp_region_held_drew (S := fun w' => (w'.cell? ⟨w.heap.size, 0, none⟩ = some (.int .i64 k) ∧ w'.cell? ⟨w.heap.size, 1, none⟩ = some (.int .i64 n) ∧ w'.cell? ⟨w.heap.size, 2, none⟩ = some (.string s) ∧ w'.cell? ⟨w.heap.size, 3, none⟩ = some (.slice a m c)) ∧ (w'.cell? ⟨w7.heap.size, 0, none⟩ = some (.int .i64 k7) ∧ w'.cell? ⟨w7.heap.size, 1, none⟩ = some (.int .i64 n7) ∧ w'.cell? ⟨w7.heap.size, 2, none⟩ = some (.string s7) ∧ w'.cell? ⟨w7.heap.size, 3, none⟩ = some (.slice a7 m7 c7))) (by kernel_rfl) ⟨⟨b0, b1, b2, b3⟩, ⟨d0, d1, d2, d3⟩⟩ (fun hHeld => ?_)
  first | (refine held_t (i := 0) hHeld ?_; apply Exists.intro; refine ⟨fun wq hq => ?_, ?_⟩; (focus ((try dsimp only at hq); go_simp; (first | done | with_reducible rfl | fail)))) | refine held_s (i := 0) hHeld ?_ | fail
  first | (refine held_t (i := 1) hHeld ?_; apply Exists.intro; refine ⟨fun wq hq => ?_, ?_⟩; (focus ((try dsimp only at hq); go_simp; (first | done | with_reducible rfl | fail)))) | refine held_s (i := 1) hHeld ?_ | fail
  first | (refine held_t (i := 2) hHeld ?_; apply Exists.intro; refine ⟨fun wq hq => ?_, ?_⟩; (focus ((try dsimp only at hq); go_simp; (first | done | with_reducible rfl | fail)))) | refine held_s (i := 2) hHeld ?_ | fail
  first | (refine held_t (i := 3) hHeld ?_; apply Exists.intro; refine ⟨fun wq hq => ?_, ?_⟩; (focus ((try dsimp only at hq); go_simp; (first | done | with_reducible rfl | fail)))) | refine held_s (i := 3) hHeld ?_ | fail
  first | (refine held_t (i := 5) hHeld ?_; apply Exists.intro; refine ⟨fun wq hq => ?_, ?_⟩; (focus ((try dsimp only at hq); go_simp; (first | done | with_reducible rfl | fail)))) | refine held_s (i := 5) hHeld ?_ | fail
  try simp only [Act.put, List.setIfInBounds_toArray, List.set_cons_zero, List.set_cons_succ]
  refine held_c 4 fun K hK => ?_
  go_simp
  (go_at_call 33; refine (HOW.out _ ((Below.refl _ _).drew)).mono ?_; rintro e w10 ⟨v10, rfl, hv10, hb10⟩; have HV10 := Lib.hid hv10.bare; have HB10 := Lib.hid (Ext.trans' (Below.refl w9.heap.size w9).drew hb10); clear hv10 hb10)
  refine hK.out _ _ (⟨⟨cell_later HB10.out hHeld.1.1, cell_later HB10.out hHeld.1.2.1, cell_later HB10.out hHeld.1.2.2.1, cell_later HB10.out hHeld.1.2.2.2⟩, ⟨cell_later HB10.out hHeld.2.1, cell_later HB10.out hHeld.2.2.1, cell_later HB10.out hHeld.2.2.2.1, cell_later HB10.out hHeld.2.2.2.2⟩⟩) (fun hHeld => ?_)
  clear hK K
  try simp only [Act.put, List.setIfInBounds_toArray, List.set_cons_zero, List.set_cons_succ]
  refine held_c 6 fun K hK => ?_
  go_simp
  (go_at_call 33; refine (HOX.out _ HB10.out).mono ?_; rintro e w11 ⟨v11, rfl, hv11, hb11⟩; have HV11 := Lib.hid hv11.bare; have HB11 := Lib.hid hb11; clear hv11 hb11)
  refine hK.out _ _ (⟨⟨cell_later HB11.out hHeld.1.1, cell_later HB11.out hHeld.1.2.1, cell_later HB11.out hHeld.1.2.2.1, cell_later HB11.out hHeld.1.2.2.2⟩, ⟨cell_later HB11.out hHeld.2.1, cell_later HB11.out hHeld.2.2.1, cell_later HB11.out hHeld.2.2.2.1, cell_later HB11.out hHeld.2.2.2.2⟩⟩) (fun hHeld => ?_)
  clear hK K
  try simp only [Act.put, List.setIfInBounds_toArray, List.set_cons_zero, List.set_cons_succ]
  refine held_c 7 fun K hK => ?_
  go_simp
  (go_at_call 35; refine (Alike_at _ _ _ _ _ (ren_good HGT.out) HGT.out (TmV.ext HB11.out _ _ HV10.out) HV11.out).mono ?_; rintro e w12 ⟨rfl, hb12⟩; have HB12 := Lib.hid hb12; clear hb12; have hsame : sameT (renT (varsT (renT (varsT x []) x) []) (renT (varsT x []) x)) (renT (varsT x []) x) = true := (same_iff _ _).2 (ren_twice HGT.out).1; rw [hsame])
  refine hK.out _ _ (⟨⟨cell_later HB12.out hHeld.1.1, cell_later HB12.out hHeld.1.2.1, cell_later HB12.out hHeld.1.2.2.1, cell_later HB12.out hHeld.1.2.2.2⟩, ⟨cell_later HB12.out hHeld.2.1, cell_later HB12.out hHeld.2.2.1, cell_later HB12.out hHeld.2.2.2.1, cell_later HB12.out hHeld.2.2.2.2⟩⟩) (fun hHeld => ?_)
  clear hK K
  try simp only [Act.put, List.setIfInBounds_toArray, List.set_cons_zero, List.set_cons_succ]
  first | (refine held_t (i := 8) hHeld ?_; apply Exists.intro; refine ⟨fun wq hq => ?_, ?_⟩; (focus ((try dsimp only at hq); go_simp; (first | done | with_reducible rfl | fail)))) | refine held_s (i := 8) hHeld ?_ | fail
  first | (refine held_t (i := 9) hHeld ?_; apply Exists.intro; refine ⟨fun wq hq => ?_, ?_⟩; (focus ((try dsimp only at hq); go_simp; (first | done | with_reducible rfl | fail)))) | refine held_s (i := 9) hHeld ?_ | fail
  try simp only [Act.put, List.setIfInBounds_toArray, List.set_cons_zero, List.set_cons_succ]
  refine wpAnyH_done (by kernel_rfl) ?_ _
  clear hHeld b0 b1 b2 b3 bf d0 d1 d2 d3 df
  go_wp2
  go_ret
  exact ⟨rfl, Ext.trans' HB9.out (Ext.trans' (Ext.trans' HB10.out HB11.out) HB12.out)⟩
end Go.Proofs.YtljgkfdnmikpfaaGreatDoor
/- WritePlain: the law's walk. -/
namespace Go.Proofs.YtljgkfdnmikpfaaGreatDoor
open Go.Shelf Go.RowKit
set_option linter.unusedVariables false
set_option maxRecDepth 100000

set_option maxHeartbeats 4000000 in
theorem wplain9_at {w : World} (hc : Con w) {x : Tm} {v : Value} (hv : TmV w x v) :
    Calls Tryz.prog 10 #[v] w fun e w' => e = .returned (.bool true) ∧ Below w.heap.size w w' := by
  obtain ⟨k, n, s, a, m, c, rfl⟩ := hv.full
  obtain ⟨w1, hw1, hb1, hz1, hx1⟩ := box_new w #[.int .i64 k, .int .i64 n, .string s, .slice a m c] 27
  have HC := Lib.hid hc
  have HV := Lib.hid (TmV.ext hb1 _ _ hv)
  have HB1 := Lib.hid hb1
  have HCC := Lib.hid (hc.ext hb1)
  obtain ⟨b0, b1, b2, b3, bf⟩ := hx1.four
  have HP := Lib.hid (fun wq => plain_walk wq)
  clear hc hv hb1 hx1 hz1
  go_enter Tryz.func10, Tryz.ntmps10
  go_wp2_with fail
  (try rw [hw1])
  clear hw1
  refine wp_region_held_drew (S := fun w' => (w'.cell? ⟨w.heap.size, 0, none⟩ = some (.int .i64 k) ∧ w'.cell? ⟨w.heap.size, 1, none⟩ = some (.int .i64 n) ∧ w'.cell? ⟨w.heap.size, 2, none⟩ = some (.string s) ∧ w'.cell? ⟨w.heap.size, 3, none⟩ = some (.slice a m c))) (by kernel_rfl) ⟨b0, b1, b2, b3⟩ (fun hHeld => ?_)
  first | (refine held_t (i := 2) hHeld ?_; apply Exists.intro; refine ⟨fun wq hq => ?_, ?_⟩; (focus ((try dsimp only at hq); go_simp; (first | done | with_reducible rfl | fail)))) | refine held_s (i := 2) hHeld ?_ | fail
  try simp only [Act.put, List.setIfInBounds_toArray, List.set_cons_zero, List.set_cons_succ]
  refine held_c 0 fun K hK => ?_
  go_simp
  (go_at_call 17; refine (HP.out _).mono ?_; rintro e w2 ⟨v2, rfl, o2, hb2⟩; obtain ⟨ao2, co2, rfl, _, _⟩ := o2.form; have hfd : ∀ wq : World, (Instr.field 36 (.agg #[.slice ao2 opsB.length co2]) 0).run Tryz.prog wq = .ok (.slice ao2 opsB.length co2) wq := (fun _ => by kernel_rfl); have O2 := Lib.hid o2; have HB2 := Lib.hid (Ext.trans' (Below.refl w1.heap.size w1).drew hb2); clear o2 hb2)
  refine hK.out _ _ (⟨cell_later HB2.out hHeld.1, cell_later HB2.out hHeld.2.1, cell_later HB2.out hHeld.2.2.1, cell_later HB2.out hHeld.2.2.2⟩) (fun hHeld => ?_)
  clear hK K
  try simp only [Act.put, List.setIfInBounds_toArray, List.set_cons_zero, List.set_cons_succ]
  first | (refine held_t (i := 1) hHeld ?_; apply Exists.intro; refine ⟨fun wq hq => ?_, ?_⟩; (focus ((try dsimp only at hq); go_simp; (first | done | with_reducible rfl | fail)))) | refine held_s (i := 1) hHeld ?_ | fail
  try simp only [Act.put, List.setIfInBounds_toArray, List.set_cons_zero, List.set_cons_succ]
  refine held_c 3 fun K hK => ?_
  go_simp
  (go_at_call 9; refine (back_at (HCC.out.ext HB2.out) O2.out (TmV.ext HB2.out _ _ HV.out)).mono ?_; rintro e w3 ⟨rfl, hb3⟩; have HB3 := Lib.hid hb3; clear hb3)
  refine hK.out _ _ (⟨cell_later HB3.out hHeld.1, cell_later HB3.out hHeld.2.1, cell_later HB3.out hHeld.2.2.1, cell_later HB3.out hHeld.2.2.2⟩) (fun hHeld => ?_)
  clear hK K
  try simp only [Act.put, List.setIfInBounds_toArray, List.set_cons_zero, List.set_cons_succ]
  first | (refine held_t (i := 4) hHeld ?_; apply Exists.intro; refine ⟨fun wq hq => ?_, ?_⟩; (focus ((try dsimp only at hq); go_simp; (first | done | with_reducible rfl | fail)))) | refine held_s (i := 4) hHeld ?_ | fail
  try simp only [Act.put, List.setIfInBounds_toArray, List.set_cons_zero, List.set_cons_succ]
  refine wpAnyH_done (by kernel_rfl) ?_ _
  clear hHeld b0 b1 b2 b3 bf
  go_wp2
  go_ret
  exact ⟨rfl, Ext.trans' HB1.out (Ext.trans' HB2.out HB3.out)⟩
end Go.Proofs.YtljgkfdnmikpfaaGreatDoor
/- What the cards of this seat share: the package variables of the standard library. -/
namespace Go.Proofs.YtljgkfdnmikpfaaGreatDoor
open Go.Shelf Go.RowKit
set_option linter.unusedVariables false

theorem con_of {l : List (String × DataW Unit)} {w : World} (hl : (l.all fun x => x.2.handleName?.isNone) = true) (hf : l.filter (fun x => x.1 == "internal/strconv.uint64pow10") = [("internal/strconv.uint64pow10", Lib.tabData .u64 Lib.pow10Tab)]) (h : laidMetH Tryz.prog l w) (he : Err w) : Con w := by
  rw [MakeChecks.laidMetH_plain _ _ _ hl] at h
  have h1 := h.filter (fun x => x.1 == "internal/strconv.uint64pow10")
  rw [hf] at h1
  exact ⟨Lib.tabIs_of_head gPow (by kernel_rfl) (t := 227) (e := 207) (n := 20) Tryz.underlying227 Tryz.underlying207 (by kernel_rfl) (by kernel_rfl) h1, he⟩
end Go.Proofs.YtljgkfdnmikpfaaGreatDoor
/- WritePlain, handed in: at every term the law answers true. The card ties the package variables of the standard library that its row lists. -/
namespace Go.Proofs.YtljgkfdnmikpfaaGreatDoor
open Go.Shelf Go.RowKit
set_option linter.unusedVariables false

theorem wplain9_law {w : World} {v : Value} {x : Tm} (hx : IsTm w v x) (hc : Con w) : Calls Tryz.prog 10 #[v] w fun e w' => e = .returned (.bool true) ∧ Below w.heap.size w w' := wplain9_at hc hx
theorem ctxWp {w : World} (h : laidMetH Tryz.prog Rows.writePlainRow.laid w) : Con w := con_of (by kernel_rfl) (by kernel_rfl) h (err_of (text := [118, 97, 108, 117, 101, 32, 111, 117, 116, 32, 111, 102, 32, 114, 97, 110, 103, 101]) (by kernel_rfl) (by kernel_rfl) rfl h)
namespace writePlain
open Go.ChangeShapes Go.WideShapes Go.ChangeAt Go.RowKit
theorem own : ownKnob Tryz.prog.godebug = none := by kernel_rfl
theorem laidOut : laidOutB Tryz.prog = true := by kernel_rfl
set_option linter.unusedVariables false
set_option maxRecDepth 100000 in
theorem lifted (os : Os) (started : os.Started) (H : Type) (enc : TypeId × Value → H) :
    ReturnsInHanded {} Tryz.checked os 10 .any (fun w args => (Rows.writePlainSpec.pre enc Tryz.prog Tryz.f10 [] false w args ∧ laidMetH Tryz.prog Rows.writePlainRow.laid w) ∧ sizedMet enc Tryz.prog Tryz.f10 (OpenSpec.ofChange Rows.writePlainSpec) false w args)
      (Rows.writePlainSpec.post enc Tryz.prog Tryz.f10 false true false false) := by
  refine returnsInHanded_of_change_and (C := Tryz.checked) (X := fun w _ => laidMetH Tryz.prog Rows.writePlainRow.laid w) (fun _ _ _ hh h => h.of_heap hh) own started (by kernel_rfl) Tryz.func10
    (ChangeSpec.witness_shaped (enc := enc) (C := Tryz.checked) (os := os) (X := fun w _ => laidMetH Tryz.prog Rows.writePlainRow.laid w) false (World.laidAll Tryz.prog os Rows.writePlainRow.laid) #[.agg #[.int .i64 0,.int .i64 0,.string ⟨#[]⟩,.slice none 0 0]] 8 (World.laidAll_os _ _ _)
      (World.shaped_of_ZipB (by kernel_rfl) (by kernel_rfl)) (by kernel_rfl) (by kernel_rfl) (by kernel_rfl)
      (by rw [MakeChecks.laidMetH_plain _ _ _ (by kernel_rfl)]; exact laidMet_laidAll _ (by kernel_rfl) (by kernel_rfl))) ?_
  intro W base args ds gs before hval0 hW hcnd hsz0 hL _
  have hval : ∀ (j : Nat) t v, Tryz.f10.params[j]? = some t → args[j]? = some v → Value.okWide Tryz.prog W .any base t v := hval0
  have hW' := hW
  obtain ⟨p, q, hA0, hV, rfl, hfz, hnd⟩ := hW
  have hA : DataW.TrodAll enc Tryz.prog W 0 (fun _ => true) true Tryz.f10.params.toList args.toList ds p := hA0
  have hsz : (DataW.weightsEach Tryz.prog (Tryz.f10.params.toList ++ []) (ds ++ gs)).all (· ≤ reachBytes) = true := hsz0
  rw [Tryz.params10] at hA hval hsz
  obtain ⟨v0, vs0, d0, ds0, p0, q0, hargs, rfl, rfl, h0, r0⟩ := trodAll_cons hA
  obtain ⟨rfl, rfl, rfl⟩ := trodAll_nil r0
  obtain rfl : args = #[v0] := by cases args; simp_all
  obtain ⟨rfl, rfl⟩ := trodVars_none hV
  clear hA0 hval0 hsz0
  have k0 := h0
  have lt0 := lt_of_trod h0
  obtain ⟨a0, w0⟩ := term_of_trod h0 (hval 0 27 v0 rfl rfl) (weights_ok hsz (j := 0) (t := 27) (d := d0) rfl rfl)
  refine (wplain9_law w0 (ctxWp hL)).mono fun e W' ⟨he, bel⟩ => ?_
  subst he
  exact ⟨_, rfl, _, _, _, [], _, [], hW', trodAll_mk1 (shut_bool Tryz.underlying4 _), (trodAll_cons_mk (Below.trod laidOut (by kernel_rfl) (of_decide_eq_true (by kernel_rfl)) k0 bel lt0) trodAll_mk0), rfl, bel.frame _, fun h => by cases h⟩
theorem proved : Rows.WritePlainSaid :=
  OpenClaim.holds_of_wide 10 Tryz.f10 rfl rfl rfl rfl rfl rfl rfl ⟨rfl, rfl, rfl, rfl, rfl⟩ rfl rfl rfl rfl rfl (by kernel_rfl) Tryz.func10 (by kernel_rfl)
    (of_decide_eq_true (by kernel_rfl)) (by unfold Func.isWrapper; first | (rw [if_pos (by decide +kernel)]; kernel_rfl) | (rw [if_neg (by decide +kernel)]; exact ⟨rfl, rfl⟩))
    (fun os started H enc _ => lifted os started H enc)
theorem carded : Rows.WritePlainCardSaid :=
  Claim7.holds_tied_plain_at .later [] [.data, .data, .data, .sentinel, .sentinel] true (true, "f00b49542ba4a8c92a7fc946f6030d37583e9e6c28cfd70f94577bd756c544ac") true
    proved (fun _ h => by cases h) (by kernel_rfl) (fun _ h => by cases h) writePlain_row_tie rfl ⟨rfl, rfl⟩ (by kernel_rfl) rfl
    (fun f fn hf hfn => by
      obtain rfl : f = 10 := Option.some.inj ((show Tryz.prog.funcNamed "sizar/sizarlaw9.WritePlain" = some 10 by kernel_rfl).symm.trans hf) |>.symm
      obtain rfl : fn = Tryz.f10 := (Option.some.inj (Tryz.func10.symm.trans hfn)).symm
      exact ⟨by kernel_rfl, fun j t ht => by
        rw [Tryz.params10] at ht
        have hm : t ∈ [27] := by simpa using Array.mem_of_getElem? ht
        have hall : ([27].all fun u => !Tryz.prog.wantsStandIn u) = true := by kernel_rfl
        exact (show Tryz.prog.wantsStandIn t = false by simpa using List.all_eq_true.1 hall t hm)⟩)
    (by kernel_rfl)
#print axioms carded
end writePlain

end Go.Proofs.YtljgkfdnmikpfaaGreatDoor
