import Derived.Test.YtchbbaehdcmcfaaHsozz
import Derived.Test.YtchbbaehdcmcfaaHsoae
import Derived.Test.YtchbbaehdcmcfaaHsoaq
import Derived.Test.YtchbbaehdcmcfaaHsoam
import Derived.Test.YtchbbaehdcmcfaaHsoai
set_option linter.unusedVariables false
set_option linter.unusedSimpArgs false
/- Stage 10's laws: their own copy of a term. -/
namespace Go.Proofs.Ytchbbaehdcmcfaa
open Go.RowKit
set_option linter.unusedVariables false
set_option maxRecDepth 100000 in
set_option maxHeartbeats 8000000 in
theorem own15_step (N : Nat) (ih : ∀ t, sizeN t < N → ∀ (D : Nat → Bool) (w : World) (v : Value), Old D w → TmV w t v → Calls Try.prog 29 #[v] w fun e w' => ∃ v', e = .returned v' ∧ TmV (hide D w') t v' ∧ Below w.heap.size w w')
  (t : Tm) (ht : sizeN t < N + 1) (D : Nat → Bool) (w : World) (v : Value) (hD : Old D w) (hv : TmV w t v) :
  Calls Try.prog 29 #[v] w fun e w' => ∃ v', e = .returned v' ∧ TmV (hide D w') t v' ∧ Below w.heap.size w w' := by
 cases t with
 | mk k n s ts =>
 obtain ⟨u, rfl, hs, hk64, hn64, hu⟩ := tmV_iff.1 hv
 obtain ⟨au, cu, rfl, hu1, hu2, hu3⟩ := hu.len
 obtain ⟨m, hm⟩ : ∃ m, ts.length = m := ⟨_, rfl⟩
 rw [hm] at hu hu1 hu3
 rw [hm]
 unfold BIG at hu3
 unfold maxLen at hu2
 obtain ⟨w1, hw1, hb1, hz1, hx1⟩ := box_new w #[.int .i64 k, .int .i64 n, .string s, .slice au m cu] 31
 obtain ⟨w2, hw2, hb2, hz2, hx2⟩ := box_new w1 #[.int .i64 0, .int .i64 0, .string ⟨#[]⟩, .slice none 0 0] 54
 obtain ⟨w3, hw3, hb3, hz3, hx3⟩ := box_new w2 #[.int .i64 k, .int .i64 n, .string s, .slice none 0 0] 54
 have hB3 := Ext.trans' (Ext.trans' hb1 hb2) hb3
 have hBB := (hb1.size)
 have hRR : w.heap.size ≤ w2.heap.size := Nat.le_trans hb1.size hb2.size
 have HT3 := Lib.hid ((Turn.into (D := D) (M := noM) (Ext.trans' hb1 hb2) hBB).trans (Turn.into (M := noM) hb3 (Nat.le_refl _)))
 have HO3 := Lib.hid (((okd_no hD).box (Ext.trans' hb1 hb2).size hx2.lt).box hb3.size hx3.lt)
 obtain ⟨y0, y1, y2, y3, yf⟩ := (hx1.ext hb2).four
 have HX1 := Lib.hid ((hx1.ext hb2).ext hb3)
 have HX2 := Lib.hid (hx2.ext hb3)
 have HX3 := Lib.hid hx3
 have HU := Lib.hid hu
 have HM := Lib.hid hm
 have HD := Lib.hid hD
 have HSZ := Lib.hid (show ∀ x ∈ ts, sizeN x < N from fun x hx => by have := sizes_mem hx; rw [sizeN] at ht; omega)
 have HIH := Lib.hid ih
 have HK := Lib.hid (And.intro hs (And.intro hk64 hn64))
 obtain ⟨i0, hi0, hz0, hs0, hb0⟩ := info_parts infoTermR
 have h12 : w.heap.size ≠ w1.heap.size := by omega
 have h13 : w.heap.size ≠ w2.heap.size := by omega
 have h23 : w1.heap.size ≠ w2.heap.size := by omega
 have hR : w.heap.size ≤ w2.heap.size := hRR
 have h23w : w2.heap.size < w3.heap.size := by omega
 have h13w : w1.heap.size < w3.heap.size := by omega
 have hBq : w.heap.size ≤ w1.heap.size := hBB
 clear hb1 hb2 hb3 hx1 hx2 hx3 hz1 hz2 hz3 hv hu hD ih ht hm hB3 hs hk64 hn64 hBB hRR
 have HW3 := Lib.hid hw3
 clear hw3
 go_enter Try.func29, Try.ntmps29
 go_wp2_with fail
 (try rw [hw1])
 (try rw [hw2])
 clear hw1 hw2
 go_wp2_with fail
 (try rw [HW3.out])
 clear y0 y1 y2 y3 yf HW3
 go_loopw [4] (fun i wr => ∃ (D1 : Nat → Bool) (j c : Nat) (a : Option Addr) (ps : List TmP), j ≤ m ∧ i = .int .i64 j ∧ ps.length = j ∧ Hid (ps.map (·.1) = ts.take j) ∧ Hid (Box wr w2.heap.size [.int .i64 k, .int .i64 n, .string s, .slice a j c]) ∧ Hid (RowY D1 noM wr w3.heap.size (.slice a j c) ps) ∧ Hid (Turn D noM D1 noM w wr) ∧ Hid (Okd D1 noM wr) ∧ Hid (D1 w2.heap.size = true ∧ D1 w1.heap.size = true) ∧ Hid (w3.heap.size ≤ wr.heap.size) ∧ Hid (Box wr w.heap.size [.int .i64 k, .int .i64 n, .string s, .slice au m cu]) ∧ Hid (Box wr w1.heap.size [.int .i64 0, .int .i64 0, .string ⟨#[]⟩, .slice none 0 0]))
  (fun i _ => m - (RowKit.intOf i).toNat)
 case atStart => exact ⟨plusB (plusB D w1.heap.size) w2.heap.size, 0, 0, none, [], Nat.zero_le _, rfl, rfl, Lib.hid rfl, HX3, Lib.hid (RowY.none _ _ _ _), HT3, HO3, Lib.hid ⟨plusB_self _ _, plusB_of (plusB_self _ _)⟩, Lib.hid (Nat.le_refl _), HX1, HX2⟩
 case round =>
  obtain ⟨D1, j, c, a, ps, hj, rfl, hpl, HPS, HXR, HRW, HT, HO, HDR, HZ, HX1, HX2⟩ := hrel
  have HPL := Lib.hid hpl
  obtain ⟨r0, r1, r2, r3, rf⟩ := HXR.out.four
  obtain ⟨t0, t1, t2, t3, tf⟩ := HX1.out.four
  have HBl := Lib.hid (HT.out.bel (Nat.le_refl _) (fun k _ => rfl))
  clear hpl
  by_cases hlt : j < m
  ·obtain ⟨x, hx⟩ : ∃ x, ts[j]? = some x := ⟨_, List.getElem?_eq_getElem (by rw [HM.out]; exact hlt)⟩
   obtain ⟨b, off, xk, xn, xs', xu, rfl, hbb, ek, en, es, c0, c1, c2, c3, _, htx⟩ := (HU.out.ext HBl.out).get hx
   have HSX := Lib.hid (HSZ.out x (List.mem_of_getElem? hx))
   have HTX := Lib.hid htx
   have HTK := Lib.hid (take_next hx)
   have HC := Lib.hid (fun (wq : World) (hq : Below wr.heap.size wr wq) => HIH.out x HSX.out D1 wq _ (HO.out.2.mono hq.size) (TmV.ext hq _ _ HTX.out))
   have hbw0 : b < w.heap.size := by
    have := HU.out
    obtain ⟨a', c', e', _, _, _, h4⟩ := this
    cases e'
    rcases h4 with rfl | ⟨b', off', e2, h5, _⟩
    ·simp at hx
    ·cases e2; exact h5
   have hbR : b ≠ w2.heap.size := by omega
   clear hx htx ek en es
   have hjj : (j : Int) < m := by omega
   go_wp2_with fail
   refine wp_region_held_drew (S := fun w' => (w'.cell? ⟨w.heap.size, 3, none⟩ = some (.slice (some ⟨b, off, none⟩) m cu) ∧ w'.cell? ⟨b, off + j * 4, none⟩ = some (.int .i64 xk) ∧ w'.cell? ⟨b, off + j * 4 + 1, none⟩ = some (.int .i64 xn) ∧ w'.cell? ⟨b, off + j * 4 + 2, none⟩ = some (.string xs') ∧ w'.cell? ⟨b, off + j * 4 + 3, none⟩ = some xu)) (by kernel_rfl) ⟨t3, c0, c1, c2, c3⟩ (fun hHeld => ?_)
   have HROW := Lib.hid (fun (wq : World) (hq : Below wr.heap.size wr wq) (o : Obj) => (show (wq.alloc o).ownsRow w3.heap.size 54 4 (.slice a j c) j (ps.flatMap pCells) from by
    have h := (HRW.out.turn (M := noM) (Turn.below (Ext.trans' hq (bel1' wq o))) HO.out.1).1
    unfold RowP at h
    rw [HPL.out] at h
    exact h))
   have h2w : w2.heap.size < w3.heap.size := h23w
   have h1w : w1.heap.size < w3.heap.size := h13w
   have h0w : w.heap.size < w3.heap.size := by omega
   have hbw : b < w3.heap.size := by omega
   first | (refine held_t (i := 0) hHeld ?_; constructor; constructor; intro wq hq; focus ((try dsimp only at hq); go_simp; first | done | with_reducible rfl | fail)) | refine held_s (i := 0) hHeld ?_ | fail
   first | (refine held_t (i := 2) hHeld ?_; constructor; constructor; intro wq hq; focus ((try dsimp only at hq); go_simp; first | done | with_reducible rfl | fail)) | refine held_s (i := 2) hHeld ?_ | fail
   first | (refine held_t (i := 3) hHeld ?_; constructor; constructor; intro wq hq; focus ((try dsimp only at hq); go_simp; first | done | with_reducible rfl | fail)) | refine held_s (i := 3) hHeld ?_ | fail
   first | (refine held_t (i := 4) hHeld ?_; constructor; constructor; intro wq hq; focus ((try dsimp only at hq); go_simp; first | done | with_reducible rfl | fail)) | refine held_s (i := 4) hHeld ?_ | fail
   first | (refine held_t (i := 5) hHeld ?_; constructor; constructor; intro wq hq; focus ((try dsimp only at hq); go_simp; first | done | with_reducible rfl | fail)) | refine held_s (i := 5) hHeld ?_ | fail
   first | (refine held_t (i := 6) hHeld ?_; constructor; constructor; intro wq hq; focus ((try dsimp only at hq); go_simp; first | done | with_reducible rfl | fail)) | refine held_s (i := 6) hHeld ?_ | fail
   try simp only [Act.put, lay4]
   refine wpAnyH_ready (rs := [1, 7]) (by kernel_rfl) (by simp) ?_
   refine AllReadyH.cons (by simp only [ops3]; rfl) (fun K hK => ?_) (AllReadyH.cons (by simp only [ops3]; rfl) (fun K hK => ?_) AllReadyH.nil)
   ·go_simp
    skip
    refine hK.out _ _ (hHeld) (fun hHeld => ?_)
    clear hK K
    try simp only [Act.put, lay4]
    refine held_c 7 fun K hK => ?_
    go_simp
    (go_at_call 29; refine (HC.out _ ((Below.refl _ _).drew)).mono ?_; rintro e w5 ⟨v5, rfl, hv5, hb5⟩; obtain ⟨k5, n5, s5, a5, m5, c5, rfl, ek, en, es, ep⟩ := four_of hv5; have HEP := Lib.hid ep; have HEK := Lib.hid (And.intro ek (And.intro en es)); have HV5 := Lib.hid hv5; have HB5 := Lib.hid (Ext.trans' (Below.refl wr.heap.size wr).drew hb5); obtain ⟨r0, r1, r2, r3, rf⟩ := (HXR.out.ext HB5.out).four; have r3' : ∀ o, (w5.alloc o).cell? ⟨w2.heap.size, 3, none⟩ = some (.slice a j c) := (fun o => Lib.cell?_alloc_some _ r3); clear ek en es ep hv5)
    refine hK.out _ _ (⟨cell_later HB5.out t3, cell_later HB5.out c0, cell_later HB5.out c1, cell_later HB5.out c2, cell_later HB5.out c3⟩) (fun hHeld => ?_)
    clear hK K
    try simp only [Act.put, lay4]
    refine held_c 8 fun K hK => ?_
    go_simp
    skip
    refine hK.out _ _ (⟨cell_later (bel1' _ _) hHeld.1, cell_later (bel1' _ _) hHeld.2.1, cell_later (bel1' _ _) hHeld.2.2.1, cell_later (bel1' _ _) hHeld.2.2.2.1, cell_later (bel1' _ _) hHeld.2.2.2.2⟩) (fun hHeld => ?_)
    clear hK K
    try simp only [Act.put, lay4]
    refine held_c 9 fun K hK => ?_
    (refine step_append_k (by rfl) _ _ _ (by rfl) w3.heap.size 54 i0 (.agg #[.int .i64 0, .int .i64 0, .string ⟨#[]⟩, .slice none 0 0]) 4 56 Try.underlying52 hi0 hz0 hs0 (by decide) hb0 rfl (.slice a j c) j (ps.flatMap pCells) (by rfl) (HROW.out w5 HB5.out _) (some ⟨w5.heap.size, 0, none⟩) 1 1 [.int .i64 k5, .int .i64 n5, .string s5, .slice a5 m5 c5] (by rfl) (by rfl) (Or.inr ⟨_, rfl, fun jj uu hu => cell_new w5 #[.int .i64 k5, .int .i64 n5, .string s5, .slice a5 m5 c5] _ jj uu hu⟩) (by simp [Value.oneCell']) (by unfold maxLen; omega) (by omega) (by have := HB5.out.size; have := HZ.out; simp; omega) (j + 1) (ps.flatMap pCells ++ [.int .i64 k5, .int .i64 n5, .string s5, .slice a5 m5 c5]) rfl rfl ?_; intro a7 c7 w7 hown7 hgrow7 hat7; have hkeep : ∀ g, g < w3.heap.size → w7.heap[g]? = w5.heap[g]? := (fun g hg => (hgrow7.block g (by have := HB5.out.size; have := HZ.out; simp; omega) (fun e => by have := (row_in HRW.out.1 e.symm).1; omega)).trans ((bel1' w5 _).block g (by have := HB5.out.size; have := HZ.out; omega))); have HKP := Lib.hid hkeep; have HGR := Lib.hid hgrow7; have HOW := Lib.hid hown7; have HAT := Lib.hid hat7; have r3 : w7.cell? ⟨w2.heap.size, 3, none⟩ = some (.slice a j c) := (by rw [World.cell?_of_block (hkeep _ h2w)]; exact r3); have rf : w7.frozen? ⟨w2.heap.size, 3, none⟩ = false := (by rw [World.frozen?_of_block (hkeep _ h2w)]; exact rf 3); clear hkeep hgrow7 hown7 hat7)
    refine hK.out _ _ (⟨by rw [World.cell?_of_block (HKP.out _ h0w)]; exact cell_later HB5.out t3, by rw [World.cell?_of_block (HKP.out _ hbw)]; exact cell_later HB5.out c0, by rw [World.cell?_of_block (HKP.out _ hbw)]; exact cell_later HB5.out c1, by rw [World.cell?_of_block (HKP.out _ hbw)]; exact cell_later HB5.out c2, by rw [World.cell?_of_block (HKP.out _ hbw)]; exact cell_later HB5.out c3⟩) (fun hHeld => ?_)
    clear hK K
    try simp only [Act.put, lay4]
    first | (refine held_t (i := 10) hHeld ?_; constructor; constructor; intro wq hq; focus ((try dsimp only at hq); go_simp; first | done | with_reducible rfl | fail)) | refine held_s (i := 10) hHeld ?_ | fail
    try simp only [Act.put, lay4]
    refine held_c 11 fun K hK => ?_
    go_simp
    skip
    refine hK.out _ _ (⟨far_one hHeld.1 h13, far_one hHeld.2.1 hbR, far_one hHeld.2.2.1 hbR, far_one hHeld.2.2.2.1 hbR, far_one hHeld.2.2.2.2 hbR⟩) (fun hHeld => ?_)
    clear hK K
    try simp only [Act.put, lay4]
    refine wpAnyH_done (by kernel_rfl) ?_ _
    have hW5 : Below wr.heap.size wr (w5.alloc (.cells #[.int .i64 k5, .int .i64 n5, .string s5, .slice a5 m5 c5] 54)) := Ext.trans' HB5.out (bel1' w5 _)
    have hRW := HRW.out.turn (Turn.below hW5) HO.out.1
    have hpc : pCells (x, .slice a5 m5 c5) = [.int .i64 k5, .int .i64 n5, .string s5, .slice a5 m5 c5] := by unfold pCells; rw [← HEK.out.1, ← HEK.out.2.1, ← HEK.out.2.2]
    have htW : TmV (hide D1 (w5.alloc (.cells #[.int .i64 k5, .int .i64 n5, .string s5, .slice a5 m5 c5] 54))) x (pVal (x, .slice a5 m5 c5)) := by rw [← HEP.out]; exact TmV.later (bel1' w5 _) HV5.out
    have hR7 := hRW.more htW (HO.out.later hW5.size) HGR.out HAT.out (by rw [HPL.out, hpc]; exact HOW.out)
    have hown : ∀ g, (Value.slice a7 (j + 1) c7).ownBlock = some g → g ≠ w2.heap.size := fun g hg e => by have := (row_in HOW.out hg).1; omega
    have HR8 := Lib.hid (hR7.put ⟨w2.heap.size, 3, none⟩ (.slice a7 (j + 1) c7) (withB_of HDR.out.1) hown)
    have HT8 := Lib.hid (((HT.out.trans (Turn.below hW5)).grown HGR.out (fun g hg => by have := (row_in hRW.1 hg).1; omega) HAT.out).set ⟨w2.heap.size, 3, none⟩ (.slice a7 (j + 1) c7) (Or.inl hR))
    have HO8 := Lib.hid (show Okd (withB D1 (.slice a7 (j + 1) c7)) noM (w7.setCell ⟨w2.heap.size, 3, none⟩ (.slice a7 (j + 1) c7)) from ⟨fun k hk => absurd hk (by simp), fun k hk => by
     rw [withB_no (fun e => by have := (row_in HOW.out e).2; simp [World.setCell] at hk; omega)]
     exact HO.out.2 k (by have h1 := HGR.out.size; have h2 := hW5.size; simp [World.setCell] at hk; omega)⟩)
    have HB8 := Lib.hid (((HXR.out.ext HB5.out).block (HKP.out _ h2w) (by have h1 := HGR.out.size; have h2 := hW5.size; have h3 := HXR.out.lt; omega)).set (k := 3) (u := .slice a7 (j + 1) c7) (by simp))
    have HY1 := Lib.hid (((HX1.out.ext HB5.out).block (HKP.out _ h0w) (by have h1 := HGR.out.size; have h2 := hW5.size; have h3 := HX1.out.lt; omega)).far (c := w2.heap.size) (k := 3) (u := .slice a7 (j + 1) c7) h13)
    have HY2 := Lib.hid (((HX2.out.ext HB5.out).block (HKP.out _ h1w) (by have h1 := HGR.out.size; have h2 := hW5.size; have h3 := HX2.out.lt; omega)).far (c := w2.heap.size) (k := 3) (u := .slice a7 (j + 1) c7) h23)
    have HZ8 := Lib.hid (show w3.heap.size ≤ (w7.setCell ⟨w2.heap.size, 3, none⟩ (.slice a7 (j + 1) c7)).heap.size by have h1 := HGR.out.size; have h2 := hW5.size; have := HZ.out; simp [World.setCell]; omega)
    have HP8 := Lib.hid (show (ps ++ [(x, Value.slice a5 m5 c5)]).map (·.1) = ts.take (j + 1) by rw [List.map_append, HTK.out, HPS.out]; rfl)
    clear hRW hpc htW hR7 hown hW5 r0 r1 r2 r3 rf r3' t0 t1 t2 t3 tf c0 c1 c2 c3 hHeld
    go_wp2
    go_roundw
    case rel => exact ⟨_, j + 1, c7, a7, _, hlt, by go_num, by rw [List.length_append, HPL.out]; rfl, HP8, HB8, HR8, HT8, HO8, Lib.hid ⟨withB_of HDR.out.1, withB_of HDR.out.2⟩, HZ8, HY1, HY2⟩
    case measure => simp [RowKit.intOf]; omega
   ·go_simp
    (go_at_call 29; refine (HC.out _ ((Below.refl _ _).drew)).mono ?_; rintro e w5 ⟨v5, rfl, hv5, hb5⟩; obtain ⟨k5, n5, s5, a5, m5, c5, rfl, ek, en, es, ep⟩ := four_of hv5; have HEP := Lib.hid ep; have HEK := Lib.hid (And.intro ek (And.intro en es)); have HV5 := Lib.hid hv5; have HB5 := Lib.hid (Ext.trans' (Below.refl wr.heap.size wr).drew hb5); obtain ⟨r0, r1, r2, r3, rf⟩ := (HXR.out.ext HB5.out).four; have r3' : ∀ o, (w5.alloc o).cell? ⟨w2.heap.size, 3, none⟩ = some (.slice a j c) := (fun o => Lib.cell?_alloc_some _ r3); clear ek en es ep hv5)
    refine hK.out _ _ (⟨cell_later HB5.out t3, cell_later HB5.out c0, cell_later HB5.out c1, cell_later HB5.out c2, cell_later HB5.out c3⟩) (fun hHeld => ?_)
    clear hK K
    try simp only [Act.put, lay4]
    refine wpAnyH_ready (rs := [1, 8]) (by kernel_rfl) (by simp) ?_
    refine AllReadyH.cons (by simp only [ops3]; rfl) (fun K hK => ?_) (AllReadyH.cons (by simp only [ops3]; rfl) (fun K hK => ?_) AllReadyH.nil)
    ·go_simp
     skip
     refine hK.out _ _ (hHeld) (fun hHeld => ?_)
     clear hK K
     try simp only [Act.put, lay4]
     refine held_c 8 fun K hK => ?_
     go_simp
     skip
     refine hK.out _ _ (⟨cell_later (bel1' _ _) hHeld.1, cell_later (bel1' _ _) hHeld.2.1, cell_later (bel1' _ _) hHeld.2.2.1, cell_later (bel1' _ _) hHeld.2.2.2.1, cell_later (bel1' _ _) hHeld.2.2.2.2⟩) (fun hHeld => ?_)
     clear hK K
     try simp only [Act.put, lay4]
     refine held_c 9 fun K hK => ?_
     (refine step_append_k (by rfl) _ _ _ (by rfl) w3.heap.size 54 i0 (.agg #[.int .i64 0, .int .i64 0, .string ⟨#[]⟩, .slice none 0 0]) 4 56 Try.underlying52 hi0 hz0 hs0 (by decide) hb0 rfl (.slice a j c) j (ps.flatMap pCells) (by rfl) (HROW.out w5 HB5.out _) (some ⟨w5.heap.size, 0, none⟩) 1 1 [.int .i64 k5, .int .i64 n5, .string s5, .slice a5 m5 c5] (by rfl) (by rfl) (Or.inr ⟨_, rfl, fun jj uu hu => cell_new w5 #[.int .i64 k5, .int .i64 n5, .string s5, .slice a5 m5 c5] _ jj uu hu⟩) (by simp [Value.oneCell']) (by unfold maxLen; omega) (by omega) (by have := HB5.out.size; have := HZ.out; simp; omega) (j + 1) (ps.flatMap pCells ++ [.int .i64 k5, .int .i64 n5, .string s5, .slice a5 m5 c5]) rfl rfl ?_; intro a7 c7 w7 hown7 hgrow7 hat7; have hkeep : ∀ g, g < w3.heap.size → w7.heap[g]? = w5.heap[g]? := (fun g hg => (hgrow7.block g (by have := HB5.out.size; have := HZ.out; simp; omega) (fun e => by have := (row_in HRW.out.1 e.symm).1; omega)).trans ((bel1' w5 _).block g (by have := HB5.out.size; have := HZ.out; omega))); have HKP := Lib.hid hkeep; have HGR := Lib.hid hgrow7; have HOW := Lib.hid hown7; have HAT := Lib.hid hat7; have r3 : w7.cell? ⟨w2.heap.size, 3, none⟩ = some (.slice a j c) := (by rw [World.cell?_of_block (hkeep _ h2w)]; exact r3); have rf : w7.frozen? ⟨w2.heap.size, 3, none⟩ = false := (by rw [World.frozen?_of_block (hkeep _ h2w)]; exact rf 3); clear hkeep hgrow7 hown7 hat7)
     refine hK.out _ _ (⟨by rw [World.cell?_of_block (HKP.out _ h0w)]; exact cell_later HB5.out t3, by rw [World.cell?_of_block (HKP.out _ hbw)]; exact cell_later HB5.out c0, by rw [World.cell?_of_block (HKP.out _ hbw)]; exact cell_later HB5.out c1, by rw [World.cell?_of_block (HKP.out _ hbw)]; exact cell_later HB5.out c2, by rw [World.cell?_of_block (HKP.out _ hbw)]; exact cell_later HB5.out c3⟩) (fun hHeld => ?_)
     clear hK K
     try simp only [Act.put, lay4]
     first | (refine held_t (i := 10) hHeld ?_; constructor; constructor; intro wq hq; focus ((try dsimp only at hq); go_simp; first | done | with_reducible rfl | fail)) | refine held_s (i := 10) hHeld ?_ | fail
     try simp only [Act.put, lay4]
     refine held_c 11 fun K hK => ?_
     go_simp
     skip
     refine hK.out _ _ (⟨far_one hHeld.1 h13, far_one hHeld.2.1 hbR, far_one hHeld.2.2.1 hbR, far_one hHeld.2.2.2.1 hbR, far_one hHeld.2.2.2.2 hbR⟩) (fun hHeld => ?_)
     clear hK K
     try simp only [Act.put, lay4]
     refine wpAnyH_done (by kernel_rfl) ?_ _
     have hW5 : Below wr.heap.size wr (w5.alloc (.cells #[.int .i64 k5, .int .i64 n5, .string s5, .slice a5 m5 c5] 54)) := Ext.trans' HB5.out (bel1' w5 _)
     have hRW := HRW.out.turn (Turn.below hW5) HO.out.1
     have hpc : pCells (x, .slice a5 m5 c5) = [.int .i64 k5, .int .i64 n5, .string s5, .slice a5 m5 c5] := by unfold pCells; rw [← HEK.out.1, ← HEK.out.2.1, ← HEK.out.2.2]
     have htW : TmV (hide D1 (w5.alloc (.cells #[.int .i64 k5, .int .i64 n5, .string s5, .slice a5 m5 c5] 54))) x (pVal (x, .slice a5 m5 c5)) := by rw [← HEP.out]; exact TmV.later (bel1' w5 _) HV5.out
     have hR7 := hRW.more htW (HO.out.later hW5.size) HGR.out HAT.out (by rw [HPL.out, hpc]; exact HOW.out)
     have hown : ∀ g, (Value.slice a7 (j + 1) c7).ownBlock = some g → g ≠ w2.heap.size := fun g hg e => by have := (row_in HOW.out hg).1; omega
     have HR8 := Lib.hid (hR7.put ⟨w2.heap.size, 3, none⟩ (.slice a7 (j + 1) c7) (withB_of HDR.out.1) hown)
     have HT8 := Lib.hid (((HT.out.trans (Turn.below hW5)).grown HGR.out (fun g hg => by have := (row_in hRW.1 hg).1; omega) HAT.out).set ⟨w2.heap.size, 3, none⟩ (.slice a7 (j + 1) c7) (Or.inl hR))
     have HO8 := Lib.hid (show Okd (withB D1 (.slice a7 (j + 1) c7)) noM (w7.setCell ⟨w2.heap.size, 3, none⟩ (.slice a7 (j + 1) c7)) from ⟨fun k hk => absurd hk (by simp), fun k hk => by
      rw [withB_no (fun e => by have := (row_in HOW.out e).2; simp [World.setCell] at hk; omega)]
      exact HO.out.2 k (by have h1 := HGR.out.size; have h2 := hW5.size; simp [World.setCell] at hk; omega)⟩)
     have HB8 := Lib.hid (((HXR.out.ext HB5.out).block (HKP.out _ h2w) (by have h1 := HGR.out.size; have h2 := hW5.size; have h3 := HXR.out.lt; omega)).set (k := 3) (u := .slice a7 (j + 1) c7) (by simp))
     have HY1 := Lib.hid (((HX1.out.ext HB5.out).block (HKP.out _ h0w) (by have h1 := HGR.out.size; have h2 := hW5.size; have h3 := HX1.out.lt; omega)).far (c := w2.heap.size) (k := 3) (u := .slice a7 (j + 1) c7) h13)
     have HY2 := Lib.hid (((HX2.out.ext HB5.out).block (HKP.out _ h1w) (by have h1 := HGR.out.size; have h2 := hW5.size; have h3 := HX2.out.lt; omega)).far (c := w2.heap.size) (k := 3) (u := .slice a7 (j + 1) c7) h23)
     have HZ8 := Lib.hid (show w3.heap.size ≤ (w7.setCell ⟨w2.heap.size, 3, none⟩ (.slice a7 (j + 1) c7)).heap.size by have h1 := HGR.out.size; have h2 := hW5.size; have := HZ.out; simp [World.setCell]; omega)
     have HP8 := Lib.hid (show (ps ++ [(x, Value.slice a5 m5 c5)]).map (·.1) = ts.take (j + 1) by rw [List.map_append, HTK.out, HPS.out]; rfl)
     clear hRW hpc htW hR7 hown hW5 r0 r1 r2 r3 rf r3' t0 t1 t2 t3 tf c0 c1 c2 c3 hHeld
     go_wp2
     go_roundw
     case rel => exact ⟨_, j + 1, c7, a7, _, hlt, by go_num, by rw [List.length_append, HPL.out]; rfl, HP8, HB8, HR8, HT8, HO8, Lib.hid ⟨withB_of HDR.out.1, withB_of HDR.out.2⟩, HZ8, HY1, HY2⟩
     case measure => simp [RowKit.intOf]; omega
    ·go_simp
     skip
     refine hK.out _ _ (⟨cell_later (bel1' _ _) hHeld.1, cell_later (bel1' _ _) hHeld.2.1, cell_later (bel1' _ _) hHeld.2.2.1, cell_later (bel1' _ _) hHeld.2.2.2.1, cell_later (bel1' _ _) hHeld.2.2.2.2⟩) (fun hHeld => ?_)
     clear hK K
     try simp only [Act.put, lay4]
     refine held_c 1 fun K hK => ?_
     go_simp
     skip
     refine hK.out _ _ (hHeld) (fun hHeld => ?_)
     clear hK K
     try simp only [Act.put, lay4]
     refine held_c 9 fun K hK => ?_
     (refine step_append_k (by rfl) _ _ _ (by rfl) w3.heap.size 54 i0 (.agg #[.int .i64 0, .int .i64 0, .string ⟨#[]⟩, .slice none 0 0]) 4 56 Try.underlying52 hi0 hz0 hs0 (by decide) hb0 rfl (.slice a j c) j (ps.flatMap pCells) (by rfl) (HROW.out w5 HB5.out _) (some ⟨w5.heap.size, 0, none⟩) 1 1 [.int .i64 k5, .int .i64 n5, .string s5, .slice a5 m5 c5] (by rfl) (by rfl) (Or.inr ⟨_, rfl, fun jj uu hu => cell_new w5 #[.int .i64 k5, .int .i64 n5, .string s5, .slice a5 m5 c5] _ jj uu hu⟩) (by simp [Value.oneCell']) (by unfold maxLen; omega) (by omega) (by have := HB5.out.size; have := HZ.out; simp; omega) (j + 1) (ps.flatMap pCells ++ [.int .i64 k5, .int .i64 n5, .string s5, .slice a5 m5 c5]) rfl rfl ?_; intro a7 c7 w7 hown7 hgrow7 hat7; have hkeep : ∀ g, g < w3.heap.size → w7.heap[g]? = w5.heap[g]? := (fun g hg => (hgrow7.block g (by have := HB5.out.size; have := HZ.out; simp; omega) (fun e => by have := (row_in HRW.out.1 e.symm).1; omega)).trans ((bel1' w5 _).block g (by have := HB5.out.size; have := HZ.out; omega))); have HKP := Lib.hid hkeep; have HGR := Lib.hid hgrow7; have HOW := Lib.hid hown7; have HAT := Lib.hid hat7; have r3 : w7.cell? ⟨w2.heap.size, 3, none⟩ = some (.slice a j c) := (by rw [World.cell?_of_block (hkeep _ h2w)]; exact r3); have rf : w7.frozen? ⟨w2.heap.size, 3, none⟩ = false := (by rw [World.frozen?_of_block (hkeep _ h2w)]; exact rf 3); clear hkeep hgrow7 hown7 hat7)
     refine hK.out _ _ (⟨by rw [World.cell?_of_block (HKP.out _ h0w)]; exact cell_later HB5.out t3, by rw [World.cell?_of_block (HKP.out _ hbw)]; exact cell_later HB5.out c0, by rw [World.cell?_of_block (HKP.out _ hbw)]; exact cell_later HB5.out c1, by rw [World.cell?_of_block (HKP.out _ hbw)]; exact cell_later HB5.out c2, by rw [World.cell?_of_block (HKP.out _ hbw)]; exact cell_later HB5.out c3⟩) (fun hHeld => ?_)
     clear hK K
     try simp only [Act.put, lay4]
     first | (refine held_t (i := 10) hHeld ?_; constructor; constructor; intro wq hq; focus ((try dsimp only at hq); go_simp; first | done | with_reducible rfl | fail)) | refine held_s (i := 10) hHeld ?_ | fail
     try simp only [Act.put, lay4]
     refine held_c 11 fun K hK => ?_
     go_simp
     skip
     refine hK.out _ _ (⟨far_one hHeld.1 h13, far_one hHeld.2.1 hbR, far_one hHeld.2.2.1 hbR, far_one hHeld.2.2.2.1 hbR, far_one hHeld.2.2.2.2 hbR⟩) (fun hHeld => ?_)
     clear hK K
     try simp only [Act.put, lay4]
     refine wpAnyH_done (by kernel_rfl) ?_ _
     have hW5 : Below wr.heap.size wr (w5.alloc (.cells #[.int .i64 k5, .int .i64 n5, .string s5, .slice a5 m5 c5] 54)) := Ext.trans' HB5.out (bel1' w5 _)
     have hRW := HRW.out.turn (Turn.below hW5) HO.out.1
     have hpc : pCells (x, .slice a5 m5 c5) = [.int .i64 k5, .int .i64 n5, .string s5, .slice a5 m5 c5] := by unfold pCells; rw [← HEK.out.1, ← HEK.out.2.1, ← HEK.out.2.2]
     have htW : TmV (hide D1 (w5.alloc (.cells #[.int .i64 k5, .int .i64 n5, .string s5, .slice a5 m5 c5] 54))) x (pVal (x, .slice a5 m5 c5)) := by rw [← HEP.out]; exact TmV.later (bel1' w5 _) HV5.out
     have hR7 := hRW.more htW (HO.out.later hW5.size) HGR.out HAT.out (by rw [HPL.out, hpc]; exact HOW.out)
     have hown : ∀ g, (Value.slice a7 (j + 1) c7).ownBlock = some g → g ≠ w2.heap.size := fun g hg e => by have := (row_in HOW.out hg).1; omega
     have HR8 := Lib.hid (hR7.put ⟨w2.heap.size, 3, none⟩ (.slice a7 (j + 1) c7) (withB_of HDR.out.1) hown)
     have HT8 := Lib.hid (((HT.out.trans (Turn.below hW5)).grown HGR.out (fun g hg => by have := (row_in hRW.1 hg).1; omega) HAT.out).set ⟨w2.heap.size, 3, none⟩ (.slice a7 (j + 1) c7) (Or.inl hR))
     have HO8 := Lib.hid (show Okd (withB D1 (.slice a7 (j + 1) c7)) noM (w7.setCell ⟨w2.heap.size, 3, none⟩ (.slice a7 (j + 1) c7)) from ⟨fun k hk => absurd hk (by simp), fun k hk => by
      rw [withB_no (fun e => by have := (row_in HOW.out e).2; simp [World.setCell] at hk; omega)]
      exact HO.out.2 k (by have h1 := HGR.out.size; have h2 := hW5.size; simp [World.setCell] at hk; omega)⟩)
     have HB8 := Lib.hid (((HXR.out.ext HB5.out).block (HKP.out _ h2w) (by have h1 := HGR.out.size; have h2 := hW5.size; have h3 := HXR.out.lt; omega)).set (k := 3) (u := .slice a7 (j + 1) c7) (by simp))
     have HY1 := Lib.hid (((HX1.out.ext HB5.out).block (HKP.out _ h0w) (by have h1 := HGR.out.size; have h2 := hW5.size; have h3 := HX1.out.lt; omega)).far (c := w2.heap.size) (k := 3) (u := .slice a7 (j + 1) c7) h13)
     have HY2 := Lib.hid (((HX2.out.ext HB5.out).block (HKP.out _ h1w) (by have h1 := HGR.out.size; have h2 := hW5.size; have h3 := HX2.out.lt; omega)).far (c := w2.heap.size) (k := 3) (u := .slice a7 (j + 1) c7) h23)
     have HZ8 := Lib.hid (show w3.heap.size ≤ (w7.setCell ⟨w2.heap.size, 3, none⟩ (.slice a7 (j + 1) c7)).heap.size by have h1 := HGR.out.size; have h2 := hW5.size; have := HZ.out; simp [World.setCell]; omega)
     have HP8 := Lib.hid (show (ps ++ [(x, Value.slice a5 m5 c5)]).map (·.1) = ts.take (j + 1) by rw [List.map_append, HTK.out, HPS.out]; rfl)
     clear hRW hpc htW hR7 hown hW5 r0 r1 r2 r3 rf r3' t0 t1 t2 t3 tf c0 c1 c2 c3 hHeld
     go_wp2
     go_roundw
     case rel => exact ⟨_, j + 1, c7, a7, _, hlt, by go_num, by rw [List.length_append, HPL.out]; rfl, HP8, HB8, HR8, HT8, HO8, Lib.hid ⟨withB_of HDR.out.1, withB_of HDR.out.2⟩, HZ8, HY1, HY2⟩
     case measure => simp [RowKit.intOf]; omega
  ·have hjm : j = m := by omega
   subst hjm
   obtain ⟨q0, q1, q2, q3, qf⟩ := HX2.out.four
   go_wp2
   refine bodyPost_ret (v := .agg #[.int .i64 k, .int .i64 n, .string s, .slice a j c]) (by rw [results_cell1 rfl]; go_simp) rfl ⟨_, rfl, ?_, ?_⟩
   ·have hT := HT.out.set4 (b := w1.heap.size) (Or.inl hBq) (.int .i64 k) (.int .i64 n) (.string s) (.slice a j c)
    have hT4 := HRW.out
    have hRp : RowY D1 noM (set4 wr w1.heap.size (.int .i64 k) (.int .i64 n) (.string s) (.slice a j c)) w3.heap.size (.slice a j c) ps := by
     have hn : ∀ g, (Value.slice a j c).ownBlock = some g → g ≠ w1.heap.size := fun g hg e => by have := (row_in hT4.1 hg).1; omega
     exact (((hT4.put ⟨w1.heap.size, 0, none⟩ _ HDR.out.2 hn).put ⟨w1.heap.size, 1, none⟩ _ HDR.out.2 hn).put ⟨w1.heap.size, 2, none⟩ _ HDR.out.2 hn).put ⟨w1.heap.size, 3, none⟩ _ HDR.out.2 hn
    have hF := RowY.fin (Nat.le_trans hR (Nat.le_of_lt h23w)) hRp hT (HO.out.put4 _ _ _ _ _) (by rw [HPL.out]; unfold BIG; omega)
    rw [fin_no HD.out, HPS.out, List.take_of_length_le (by rw [HM.out]; exact Nat.le_refl _)] at hF
    exact tmV_iff.2 ⟨_, rfl, HK.out.1, HK.out.2.1, HK.out.2.2, hF⟩
   ·exact Below.set4 HBl.out hBq _ _ _ _
theorem own15_at (t : Tm) (D : Nat → Bool) (w : World) (v : Value) (hD : Old D w) (hv : TmV w t v) : Calls Try.prog 29 #[v] w fun e w' => ∃ v', e = .returned v' ∧ TmV (hide D w') t v' ∧ Below w.heap.size w w' := by
 suffices h : ∀ N (t : Tm), sizeN t < N → ∀ (D : Nat → Bool) (w : World) (v : Value), Old D w → TmV w t v → Calls Try.prog 29 #[v] w fun e w' => ∃ v', e = .returned v' ∧ TmV (hide D w') t v' ∧ Below w.heap.size w w' from
  h _ t (Nat.lt_succ_self _) D w v hD hv
 intro N
 induction N with
 | zero => intro t ht; omega
 | succ N ih => intro t ht D w v hD hv; exact own15_step N ih t ht D w v hD hv
end Go.Proofs.Ytchbbaehdcmcfaa
/- The document's side of chapter 11: one is let stand for something, in memory. -/
namespace Go.Proofs.Ytchbbaehdcmcfaa
open Go.RowKit
set_option linter.unusedVariables false
theorem terms_set (ts : List TmP) (i : Nat) (hi : i < ts.length) (p : TmP) (a0 a1 a2 a3 : Value) (hp : pCells p = [a0, a1, a2, a3]) (q : Nat) :
  ((ts.set i p).flatMap pCells)[q]? = if i * 4 ≤ q ∧ q < i * 4 + 4 then [a0, a1, a2, a3][q - i * 4]? else (ts.flatMap pCells)[q]? := by
 rw [flat_cell (S := 4) (cells := pCells) (fun _ => rfl) (by omega), flat_cell (S := 4) (cells := pCells) (fun _ => rfl) (by omega)]
 by_cases h : i * 4 ≤ q ∧ q < i * 4 + 4
 ·rw [if_pos h]
  have e : q / 4 = i := by omega
  rw [e, List.getElem?_set_self hi]
  show (pCells p)[q % 4]? = _
  rw [hp]
  congr 1
  omega
 ·rw [if_neg h]
  have e : q / 4 ≠ i := by omega
  rw [List.getElem?_set_ne (Ne.symm e)]
theorem put4_row {w : World} {g c N i : Nat} {e : TypeId} {ts : List TmP} {p : TmP} {a0 a1 a2 a3 : Value} (h : w.ownsRow 0 e 4 (.slice (some ⟨g, 0, none⟩) N c) N (ts.flatMap pCells)) (hN : ts.length = N) (hi : i < N) (hp : pCells p = [a0, a1, a2, a3]) :
  (setAt w g (i * 4) a0 a1 a2 a3).ownsRow 0 e 4 (.slice (some ⟨g, 0, none⟩) N c) N ((ts.set i p).flatMap pCells) := by
 obtain ⟨h0, h1⟩ := h
 have hfl : ((ts.set i p).flatMap pCells).length = N * 4 := by rw [flat_len (cells := pCells) (S := 4) (fun _ => rfl), List.length_set, hN]
 have hfl0 : (ts.flatMap pCells).length = N * 4 := by rw [flat_len (cells := pCells) (S := 4) (fun _ => rfl), hN]
 refine ⟨hfl, ?_⟩
 rcases h1 with ⟨e, _⟩ | ⟨g', cap, cur, e, hg, hh, q1, q2, q3, q4⟩
 ·cases e
 ·cases e
  refine Or.inr ⟨g, c, _, rfl, Nat.zero_le _, blk_setc (blk_setc (blk_setc (blk_setc hh _ _) _ _) _ _) _ _, q1, q2, by simpa using q3, ?_⟩
  apply List.ext_getElem?
  intro q
  rw [terms_set ts i (by omega) p a0 a1 a2 a3 hp q, ← q4]
  rw [List.getElem?_take, List.getElem?_take]
  by_cases hq : q < N * 4
  ·rw [if_pos hq, if_pos hq]
   simp only [Array.getElem?_toList, Array.getElem?_setIfInBounds, Array.size_setIfInBounds]
   have hsz : cur.size = c * 4 := by rw [q3]
   by_cases hb : i * 4 ≤ q ∧ q < i * 4 + 4
   ·rw [if_pos hb]
    obtain ⟨j, hj⟩ : ∃ j, q = i * 4 + j := ⟨q - i * 4, by omega⟩
    have hj5 : j < 4 := by omega
    subst hj
    have hin : i * 4 + j < cur.size := by rw [hsz]; omega
    rw [Nat.add_sub_cancel_left]
    match j, hj5 with
    | 0, _ => simp; omega
    | 1, _ => simp; omega
    | 2, _ => simp; omega
    | 3, _ => simp; omega
   ·rw [if_neg hb, if_neg (by omega), if_neg (by omega), if_neg (by omega), if_neg (by omega)]
  ·rw [if_neg hq, if_neg hq]
   have hb : ¬ (i * 4 ≤ q ∧ q < i * 4 + 4) := by omega
   rw [if_neg hb]
theorem RefOK.set {V : World} {N : Nat} {R : List (Int × Tm)} {ts : List TmP} {bs : List Bool} (h : RefOK V N R ts bs) {i : Nat} (hi : i < N) (hts : ts.length = N) (hbs : bs.length = N) {y : Tm} {u : Value} (hy : TmV V y (pVal (y, u))) : RefOK V N (((i : Int), y) :: R) (ts.set i (y, u)) (bs.set i true) := by
 refine ⟨fun j hj => ?_, fun j t ht => ?_⟩
 ·rw [get_cons]
  by_cases e : (i : Int) = j
  ·rw [if_pos e]
   have : i = j := by omega
   subst this
   rw [List.getElem?_set_self (by omega)]; rfl
  ·rw [if_neg e, List.getElem?_set_ne (by omega)]
   exact h.is j hj
 ·rw [get_cons] at ht
  by_cases e : (i : Int) = j
  ·rw [if_pos e] at ht
   cases ht
   have : i = j := by omega
   subst this
   exact ⟨u, by rw [List.getElem?_set_self (by omega)], hy⟩
  ·rw [if_neg e] at ht
   obtain ⟨u', e1, e2⟩ := h.held j t ht
   exact ⟨u', by rw [List.getElem?_set_ne (by omega)]; exact e1, e2⟩
abbrev putR (w : World) (g1 g2 n : Nat) (u0 u1 u2 u3 : Value) : World := (setAt w g1 (n * 4) u0 u1 u2 u3).setCell ⟨g2, n, none⟩ (.bool true)
section
variable {V w : World} {F : List Nat} {p : Value} {N : Nat} {R : List (Int × Tm)}
set_option maxHeartbeats 4000000 in
theorem IsR.store (h : IsR V F w p N R) {n : Nat} (hn : n < N) {x : Tm} {k m : Int} {s : ByteArray} {a : Option Addr} {l c : Nat} (hx : TmV V x (.agg #[.int .i64 k, .int .i64 m, .string s, .slice a l c])) (hT : Tri N (((n : Int), x) :: R)) :
  ∃ bt g1 c1 g2 c2 a3 c3, p = .pointer (some ⟨bt, 0, none⟩) ∧ (bt < w.heap.size ∧ g1 < w.heap.size ∧ g2 < w.heap.size) ∧ (bt ≠ g1 ∧ bt ≠ g2 ∧ g1 ≠ g2) ∧ (bt ∈ F ∧ g1 ∈ F ∧ g2 ∈ F) ∧
   (w.cell? ⟨bt, 0, none⟩ = some (.slice (some ⟨g1, 0, none⟩) N c1) ∧ w.cell? ⟨bt, 1, none⟩ = some (.slice (some ⟨g2, 0, none⟩) N c2) ∧ w.cell? ⟨bt, 2, none⟩ = some (.slice a3 R.length c3)) ∧
   (∀ j, j < 4 → ∃ u, w.cell? ⟨g1, n * 4 + j, none⟩ = some u) ∧ (∃ u, w.cell? ⟨g2, n, none⟩ = some u) ∧ (∀ q, w.frozen? ⟨g1, q, none⟩ = false) ∧ (∀ q, w.frozen? ⟨g2, q, none⟩ = false) ∧ (R.length ≤ c3 ∧ c3 ≤ maxLen) ∧
   ∀ wS, wS = putR w g1 g2 n (.int .i64 k) (.int .i64 m) (.string s) (.slice a l c) →
    Touch F w wS ∧ wS.ownsRow 0 2 1 (.slice a3 R.length c3) R.length (trailV R) ∧ (∀ j, wS.cell? ⟨bt, j, none⟩ = w.cell? ⟨bt, j, none⟩) ∧ (∀ j, wS.frozen? ⟨bt, j, none⟩ = false) ∧
    ∀ (x1 wA : World) (v : Value), Below wS.heap.size wS x1 → x1.grownBy wA (Value.slice a3 R.length c3).ownBlock → (v.ownBlock = (Value.slice a3 R.length c3).ownBlock ∨ v.ownBlock = some x1.heap.size) → wA.ownsRow 0 2 1 v (R.length + 1) (trailV R ++ [.int .i64 n]) →
     (∀ j, wA.cell? ⟨bt, j, none⟩ = w.cell? ⟨bt, j, none⟩) ∧ (∀ j, wA.frozen? ⟨bt, j, none⟩ = false) ∧
     ∃ F', IsR V F' (wA.setCell ⟨bt, 2, none⟩ v) p N (((n : Int), x) :: R) ∧ Touch F w (wA.setCell ⟨bt, 2, none⟩ v) ∧ ∀ k ∈ F', k ∈ F ∨ w.heap.size ≤ k := by
 have hF := h.lt
 obtain ⟨bt, v1, v2, v3, ts, bs, rfl, rfl, hnd, h1, hl1, hl2, h4, h5, h6, h7, h8, h9, h10, h11⟩ := h
 rcases h4.2 with ⟨e, hz⟩ | ⟨g1, c1, cur1, rfl, _, hh1, p1, p2, p3, p4⟩
 ·omega
 rcases h5.2 with ⟨e, hz⟩ | ⟨g2, c2, cur2, rfl, _, hh2, r1, r2, r3, r4⟩
 ·omega
 obtain ⟨a3, c3, hv3, hc3a, hc3b⟩ : ∃ a3 c3, v3 = .slice a3 R.length c3 ∧ R.length ≤ c3 ∧ c3 ≤ maxLen := by
  rcases h6.2 with ⟨e, hz⟩ | ⟨g, cap, cur, e, _, _, s1, s2, _⟩
  ·exact ⟨none, 0, by rw [e, hz], by omega, Nat.zero_le _⟩
  ·exact ⟨_, _, e, s1, s2⟩
 subst hv3
 obtain ⟨e1, e2⟩ := List.nodup_cons.1 hnd
 have nb1 : bt ≠ g1 := fun e => e1 (by simp [Value.ownBlock, e])
 have nb2 : bt ≠ g2 := fun e => e1 (by simp [Value.ownBlock, e])
 have nb3 : (Value.slice a3 R.length c3).ownBlock ≠ some bt := fun e => e1 (by simp [e])
 have n12 : g1 ≠ g2 := fun e => (List.nodup_append.1 e2).2.2 g1 (by simp [Value.ownBlock]) g2 (by simp [Value.ownBlock]) e
 have n13 : (Value.slice a3 R.length c3).ownBlock ≠ some g1 := fun e => (List.nodup_append.1 e2).2.2 g1 (by simp [Value.ownBlock]) g1 (by simp [e]) rfl
 have n23 : (Value.slice a3 R.length c3).ownBlock ≠ some g2 := fun e => (List.nodup_append.1 (List.nodup_append.1 e2).2.1).2.2 g2 (by simp [Value.ownBlock]) g2 (by simp [e]) rfl
 have ho3 : ∀ k, (Value.slice a3 R.length c3).ownBlock = some k → k < w.heap.size := fun k e => hF k (by simp [e])
 have hb0 : bt < w.heap.size := hF bt (by simp)
 have hg1 : g1 < w.heap.size := hF g1 (by simp [Value.ownBlock])
 have hg2 : g2 < w.heap.size := hF g2 (by simp [Value.ownBlock])
 obtain ⟨u, hu⟩ := hx.pair
 have hu' := hu
 simp only [pVal, Value.agg.injEq] at hu'
 have hu2 := congrArg Array.toList hu'
 simp only [List.cons.injEq, and_true] at hu2
 obtain ⟨q0, q1, q2, rfl⟩ := hu2
 have hpc : pCells (x, .slice a l c) = [.int .i64 k, .int .i64 m, .string s, .slice a l c] := by simp only [pCells, q0, q1, q2]
 refine ⟨bt, g1, c1, g2, c2, a3, c3, rfl, ⟨hb0, hg1, hg2⟩, ⟨nb1, nb2, n12⟩, ⟨by simp, by simp [Value.ownBlock], by simp [Value.ownBlock]⟩, ⟨by simp [blk_cell h1], by simp [blk_cell h1], by simp [blk_cell h1]⟩, fun j hj => ?_, ?_, fun q => by simp [World.frozen?, hh1], fun q => by simp [World.frozen?, hh2], ⟨hc3a, hc3b⟩, fun wS hS => ?_⟩
 ·rw [blk_cell hh1]
  have hlt : n * 4 + j < cur1.size := by rw [p3]; omega
  exact ⟨_, Array.getElem?_eq_getElem hlt⟩
 ·rw [blk_cell hh2]
  have hlt : n < cur2.size := by rw [r3]; omega
  exact ⟨_, Array.getElem?_eq_getElem hlt⟩
 ·have hother : ∀ j, j ≠ g1 → j ≠ g2 → wS.heap[j]? = w.heap[j]? := fun j j1 j2 => by
   rw [hS]
   unfold putR setAt
   rw [Below.heap_setCell _ _ _ j j2, Below.heap_setCell _ _ _ j j1, Below.heap_setCell _ _ _ j j1, Below.heap_setCell _ _ _ j j1, Below.heap_setCell _ _ _ j j1]
  have hsz : wS.heap.size = w.heap.size := by rw [hS]; simp [World.setCell]
  have tS : Touch (bt :: ((Value.slice (some ⟨g1, 0, none⟩) N c1).ownBlock.toList ++ ((Value.slice (some ⟨g2, 0, none⟩) N c2).ownBlock.toList ++ (Value.slice a3 R.length c3).ownBlock.toList))) w wS := by
   refine ⟨by rw [hS]; rfl, by rw [hS]; rfl, by rw [hS]; rfl, Nat.le_of_eq hsz.symm, fun j hj hm => hother j (fun e => hm (by simp [e, Value.ownBlock])) (fun e => hm (by simp [e, Value.ownBlock]))⟩
  have hbS : wS.heap[bt]? = w.heap[bt]? := hother bt nb1 nb2
  have h6S : wS.ownsRow 0 2 1 (.slice a3 R.length c3) R.length (trailV R) := row_at h6 (fun g hg => hother g (fun e => n13 (by rw [← e]; exact hg)) (fun e => n23 (by rw [← e]; exact hg)))
  have r1S : wS.ownsRow 0 54 4 (.slice (some ⟨g1, 0, none⟩) N c1) N ((ts.set n (x, .slice a l c)).flatMap pCells) := by
   rw [hS]
   exact row_at (put4_row h4 hl1 hn hpc) (fun g hg => Below.heap_setCell _ _ _ g (fun e => n12 (by simp [Value.ownBlock] at hg; rw [hg, e])))
  have r2S : wS.ownsRow 0 4 1 (.slice (some ⟨g2, 0, none⟩) N c2) N ((bs.set n true).map Value.bool) := by
   rw [hS, List.map_set]
   exact put1_row (row_at h5 (fun g hg => by
    have hne : g ≠ g1 := fun e => n12 (by simp [Value.ownBlock] at hg; rw [hg, ← e])
    unfold setAt
    rw [Below.heap_setCell _ _ _ g hne, Below.heap_setCell _ _ _ g hne, Below.heap_setCell _ _ _ g hne, Below.heap_setCell _ _ _ g hne])) hn
  refine ⟨tS, h6S, fun j => World.cell?_of_block hbS, fun j => by simp [World.frozen?, hbS, h1], fun x1 wA v b1 gA hat rA => ?_⟩
  have s1 := b1.size
  have s2 := gA.size
  have key : ∀ j, j < wS.heap.size → (Value.slice a3 R.length c3).ownBlock ≠ some j → wA.heap[j]? = wS.heap[j]? := fun j hj hne => by
   rw [gA.block j (by omega) (fun e => hne e.symm), b1.block j hj]
  have hbA : wA.heap[bt]? = w.heap[bt]? := (key bt (by omega) nb3).trans hbS
  have bA := hbA.trans h1
  have hv : ∀ k, v.ownBlock = some k → (Value.slice a3 R.length c3).ownBlock = some k ∨ k = x1.heap.size := fun k hk => by
   rcases hat with e | e <;> rw [hk] at e
   ·exact Or.inl e.symm
   ·injection e with e; exact Or.inr e
  have nbv : v.ownBlock ≠ some bt := fun e => by rcases hv _ e with h | h; exact nb3 h; omega
  have n1v : v.ownBlock ≠ some g1 := fun e => by rcases hv _ e with h | h; exact n13 h; omega
  have n2v : v.ownBlock ≠ some g2 := fun e => by rcases hv _ e with h | h; exact n23 h; omega
  have hset : ∀ j, j ≠ bt → (wA.setCell ⟨bt, 2, none⟩ v).heap[j]? = wA.heap[j]? := fun j hj => Below.heap_setCell _ _ _ j hj
  have tw : Touch (bt :: ((Value.slice (some ⟨g1, 0, none⟩) N c1).ownBlock.toList ++ ((Value.slice (some ⟨g2, 0, none⟩) N c2).ownBlock.toList ++ (Value.slice a3 R.length c3).ownBlock.toList))) w (wA.setCell ⟨bt, 2, none⟩ v) := by
   refine ⟨gA.os.trans (b1.os.trans tS.os), gA.tape.trans (b1.tape.trans tS.tape), gA.output.trans (b1.output.trans tS.output), by simp [World.setCell]; omega, fun j hj hm => ?_⟩
   have hm' := hm
   simp only [List.mem_cons, List.mem_append, Option.mem_toList, not_or] at hm'
   rw [hset j hm'.1, key j (by omega) hm'.2.2.2]
   exact tS.block j hj hm
  have hin : ∀ k ∈ bt :: ((Value.slice (some ⟨g1, 0, none⟩) N c1).ownBlock.toList ++ ((Value.slice (some ⟨g2, 0, none⟩) N c2).ownBlock.toList ++ v.ownBlock.toList)), k ∈ bt :: ((Value.slice (some ⟨g1, 0, none⟩) N c1).ownBlock.toList ++ ((Value.slice (some ⟨g2, 0, none⟩) N c2).ownBlock.toList ++ (Value.slice a3 R.length c3).ownBlock.toList)) ∨ w.heap.size ≤ k := fun k hk => by
   simp only [List.mem_cons, List.mem_append, Option.mem_toList] at hk ⊢
   rcases hk with hk | hk | hk | hk
   ·exact Or.inl (Or.inl hk)
   ·exact Or.inl (Or.inr (Or.inl hk))
   ·exact Or.inl (Or.inr (Or.inr (Or.inl hk)))
   ·rcases hv k hk with h | h
    ·exact Or.inl (Or.inr (Or.inr (Or.inr h)))
    ·exact Or.inr (by omega)
  have hok : RefOK V N (((n : Int), x) :: R) (ts.set n (x, .slice a l c)) (bs.set n true) := h7.set hn hl1 hl2 (by rw [← hu]; exact hx)
  refine ⟨fun j => World.cell?_of_block hbA, fun j => by simp [World.frozen?, bA], _, ⟨bt, _, _, v, ts.set n (x, .slice a l c), bs.set n true, rfl, rfl, ?_, ?_, by simpa using hl1, by simpa using hl2, ?_, ?_, ?_, hok, hT, h9, h10.touch h11 tw, Blind.some h11 h10 hin⟩, tw, hin⟩
  ·obtain ⟨ob, hob⟩ : ∃ ob, v.ownBlock = ob := ⟨_, rfl⟩
   rw [hob] at nbv n1v n2v ⊢
   simp only [Value.ownBlock, Option.toList_some]
   refine List.nodup_cons.2 ⟨fun hm => ?_, ?_⟩
   ·simp only [List.cons_append, List.nil_append, List.mem_cons, Option.mem_toList] at hm
    rcases hm with hm | hm | hm
    ·exact nb1 hm
    ·exact nb2 hm
    ·exact nbv hm
   ·simp only [List.cons_append, List.nil_append]
    refine List.nodup_cons.2 ⟨fun hm => ?_, List.nodup_cons.2 ⟨fun hm => ?_, ?_⟩⟩
    ·simp only [List.mem_cons, Option.mem_toList] at hm
     rcases hm with hm | hm
     ·exact n12 hm
     ·exact n1v hm
    ·exact n2v (by simpa using hm)
    ·cases ob <;> simp
  ·rw [blk_setc bA]; rfl
  ·exact row_at r1S (fun g hg => by
    simp [Value.ownBlock] at hg
    subst hg
    rw [hset _ nb1.symm]
    exact key _ (by omega) n13)
  ·exact row_at r2S (fun g hg => by
    simp [Value.ownBlock] at hg
    subst hg
    rw [hset _ nb2.symm]
    exact key _ (by omega) n23)
  ·rw [trail_cons]
   exact row_at rA (fun g hg => hset g (fun e => nbv (by rw [← e]; exact hg)))
end
end Go.Proofs.Ytchbbaehdcmcfaa
/- Both sides of chapter 11 in one memory. -/
namespace Go.Proofs.Ytchbbaehdcmcfaa
open Go.RowKit
set_option linter.unusedVariables false
def PairB (W V w : World) (F F2 : List Nat) (p q : Value) (N : Nat) (R : List (Int × Tm)) (N2 : Nat) (S : List (Int × Tm)) : Prop :=
 IsB V F w p N R ∧ IsR V F2 w q N2 S ∧ (∀ k ∈ F, W.heap.size ≤ k) ∧ (∀ k ∈ F2, W.heap.size ≤ k) ∧ (∀ k ∈ F, ¬ k ∈ F2) ∧ Below W.heap.size W w
section
variable {W V w : World} {F F2 : List Nat} {p q : Value} {N N2 : Nat} {R S : List (Int × Tm)}
theorem PairB.bel (h : PairB W V w F F2 p q N R N2 S) : Below W.heap.size W w := h.2.2.2.2.2
theorem PairB.ext {w' : World} (h : PairB W V w F F2 p q N R N2 S) (hb : Below w.heap.size w w') : PairB W V w' F F2 p q N R N2 S :=
 ⟨h.1.ext hb, h.2.1.ext hb, h.2.2.1, h.2.2.2.1, h.2.2.2.2.1, h.bel.trans (hb.mono h.bel.size)⟩
theorem PairB.left {w' : World} {F' : List Nat} {N' : Nat} {R' : List (Int × Tm)} (h : PairB W V w F F2 p q N R N2 S) (h1 : IsB V F' w' p N' R') (t : Touch F w w') (hin : ∀ k ∈ F', k ∈ F ∨ w.heap.size ≤ k) : PairB W V w' F' F2 p q N' R' N2 S := by
 obtain ⟨g1, g2, g3, g4, g5, g6⟩ := h
 exact ⟨h1, g2.touch t g5 g1.see.2, fun k hk => (hin k hk).elim (g3 k) (fun e => Nat.le_trans g6.size e), g4, fun k hk hm => (hin k hk).elim (fun e => g5 k e hm) (fun e => by have := g2.lt k hm; omega), g6.trans (t.below g6.size g3)⟩
theorem PairB.right {w' : World} {F' : List Nat} {N' : Nat} {S' : List (Int × Tm)} (h : PairB W V w F F2 p q N R N2 S) (h1 : IsR V F' w' q N' S') (t : Touch F2 w w') (hin : ∀ k ∈ F', k ∈ F2 ∨ w.heap.size ≤ k) : PairB W V w' F F' p q N R N' S' := by
 obtain ⟨g1, g2, g3, g4, g5, g6⟩ := h
 exact ⟨g1.touch t (fun k hk hm => g5 k hm hk) g2.see.2, h1, g3, fun k hk => (hin k hk).elim (g4 k) (fun e => Nat.le_trans g6.size e), fun k hk hm => (hin k hm).elim (g5 k hk) (fun e => by have := g1.lt k hk; omega), g6.trans (t.below g6.size g4)⟩
abbrev seenB (F F2 : List Nat) (w : World) : World := hide (awayB (F ++ F2)) w
theorem PairB.stays (h : PairB W V w F F2 p q N R N2 S) : Stays V (seenB F F2 w) := by
 obtain ⟨g1, g2, _⟩ := h
 refine ⟨by rw [hide_size]; exact g1.see.1.1, fun a v hv => ?_⟩
 have n1 : ¬ a.block ∈ F := fun hm => by rw [g1.see.2 a hm] at hv; cases hv
 have n2 : ¬ a.block ∈ F2 := fun hm => by rw [g2.see.2 a hm] at hv; cases hv
 rw [hide_cell _ _ _ (by simp [awayB, n1, n2])]
 exact g1.see.1.2 a v hv
theorem PairB.rebase (h : PairB W V w F F2 p q N R N2 S) : PairB W (seenB F F2 w) w F F2 p q N R N2 S :=
 ⟨h.1.from h.stays (Stays.unhide _ _) (fun a ha => hide_gone _ _ _ (by simp [awayB, ha])), h.2.1.from h.stays (Stays.unhide _ _) (fun a ha => hide_gone _ _ _ (by simp [awayB, ha])), h.2.2⟩
theorem PairB.old (h : PairB W V w F F2 p q N R N2 S) : Stays W (seenB F F2 w) := by
 obtain ⟨g1, g2, g3, g4, g5, g6⟩ := h
 refine ⟨by rw [hide_size]; exact g6.size, fun a v hv => ?_⟩
 have hl := World.block_lt_of_cell? _ _ hv
 have n1 : ¬ a.block ∈ F := fun hm => by have := g3 _ hm; omega
 have n2 : ¬ a.block ∈ F2 := fun hm => by have := g4 _ hm; omega
 rw [hide_cell _ _ _ (by simp [awayB, n1, n2])]
 exact cell_later g6 hv
theorem PairB.newer {w' : World} (h : PairB W V w F F2 p q N R N2 S) {b j : Nat} (hb : w.heap.size ≤ b) {v : Value} (hv : w'.cell? ⟨b, j, none⟩ = some v) : (seenB F F2 w').cell? ⟨b, j, none⟩ = some v := by
 have n1 : ¬ b ∈ F := fun hm => by have := h.1.lt _ hm; omega
 have n2 : ¬ b ∈ F2 := fun hm => by have := h.2.1.lt _ hm; omega
 rw [hide_cell _ _ _ (by simp [awayB, n1, n2])]
 exact hv
theorem PairB.oldD (h : PairB W V w F F2 p q N R N2 S) : Old (awayB (F ++ F2)) w := fun k hk => by
 have n1 : ¬ k ∈ F := fun hm => by have := h.1.lt _ hm; omega
 have n2 : ¬ k ∈ F2 := fun hm => by have := h.2.1.lt _ hm; omega
 simp [awayB, n1, n2]
end
end Go.Proofs.Ytchbbaehdcmcfaa
/- The document's side of chapter 12: bind, walked. -/
namespace Go.Proofs.Ytchbbaehdcmcfaa
open Go.RowKit
set_option linter.unusedVariables false
section
variable {V w : World} {F : List Nat} {p : Value} {N : Nat} {S : List (Int × Tm)}
set_option maxHeartbeats 8000000 in
set_option maxRecDepth 100000 in
theorem rbind_at (h : IsR V F w p N S) {u : Nat} (huN : u < N) {x : Tm} {v : Value} (hx : TmV V x v) (hT : Tri N (((u : Int), x) :: S)) :
  Calls Try.prog 105 #[p, .int .i64 u, v] w fun e w' => ∃ F', e = .returned (.tuple #[]) ∧ IsR V F' w' p N (((u : Int), x) :: S) ∧ Touch F w w' ∧ ∀ k ∈ F', k ∈ F ∨ w.heap.size ≤ k := by
 obtain ⟨xk, xm, xs, xa, xl, xc, rfl, f1', f2', f3', f4'⟩ := four_of hx
 obtain ⟨w1, e1, B1, z1, X1⟩ := box_new w #[.int .i64 xk, .int .i64 xm, .string xs, .slice xa xl xc] 54
 obtain ⟨wd, hwd⟩ : ∃ wd, w1.drew = wd := ⟨_, rfl⟩
 have hb1 : Below w.heap.size w wd := by rw [← hwd]; exact B1.drew
 have hPd := h.ext hb1
 have hlS : S.length ≤ 65536 := by have := dom_len h.tri.1; have := h.tri.2; omega
 obtain ⟨bq, g1, c1, g2, c2, a3, c3, hbq, ⟨l0, l1, l2⟩, ⟨n01, n02, n12⟩, ⟨f0, f1, f2⟩, ⟨q0, q1, q2⟩, hex1, ⟨z2, he2⟩, fz1, fz2, ⟨hc3, hc3m⟩, hfin⟩ := hPd.store huN hx hT
 subst hbq
 have huN2 : (u : Int) < N := by omega
 have hu0 : (0 : Int) ≤ u := by omega
 have hlt : ∀ g, g ∈ F → w.heap.size ≠ g := fun g hg e => by have := h.lt g hg; omega
 have nx1 := hlt _ f1
 have nx2 := hlt _ f2
 obtain ⟨y0, k0⟩ := hex1 0 (by omega)
 obtain ⟨y1, k1⟩ := hex1 1 (by omega)
 obtain ⟨y2, k2⟩ := hex1 2 (by omega)
 obtain ⟨y3, k3⟩ := hex1 3 (by omega)
 rw [Nat.add_zero] at k0
 have he2' : (setAt wd g1 (u * 4) (.int .i64 xk) (.int .i64 xm) (.string xs) (.slice xa xl xc)).cell? ⟨g2, u, none⟩ = some z2 := (setAt_far n12.symm).trans he2
 have X1d : Box wd w.heap.size [.int .i64 xk, .int .i64 xm, .string xs, .slice xa xl xc] := by rw [← hwd]; exact X1.ext (Below.refl _ _).drew
 obtain ⟨x0, x1, x2, x3, _⟩ := X1d.four
 have HE := Lib.hid e1
 have HFIN := Lib.hid hfin
 have HQ2 := Lib.hid (And.intro q2 (And.intro hc3 hc3m))
 have HLS := Lib.hid hlS
 have HWD := Lib.hid hwd
 have HB1 := Lib.hid hb1
 clear hfin hex1 hlt hT hc3 hc3m q2 hlS f0 f1 f2 l0 l1 l2 hwd X1 X1d B1 z1 h hPd f1' f2' f3' f4' e1 hb1 hx
 go_enter Try.func105, Try.ntmps105
 go_upto_region 1 with fail
 (try rw [HE.out])
 go_cut [] from 6 to 18 (fun wx => Hid (wx = putR wd g1 g2 u (.int .i64 xk) (.int .i64 xm) (.string xs) (.slice xa xl xc)))
 case first =>
  refine wp_region_held_drew (S := fun w' => w'.cell? ⟨bq, 0, none⟩ = some (.slice (some ⟨g1, 0, none⟩) N c1) ∧ w'.cell? ⟨bq, 1, none⟩ = some (.slice (some ⟨g2, 0, none⟩) N c2) ∧ w'.cell? ⟨w.heap.size, 0, none⟩ = some (.int .i64 xk) ∧ w'.cell? ⟨w.heap.size, 1, none⟩ = some (.int .i64 xm) ∧ w'.cell? ⟨w.heap.size, 2, none⟩ = some (.string xs) ∧ w'.cell? ⟨w.heap.size, 3, none⟩ = some (.slice xa xl xc)) (by kernel_rfl) (by rw [HWD.out]; exact ⟨q0, q1, x0, x1, x2, x3⟩) (fun hHeld => ?_)
  (try rw [HWD.out] at hHeld)
  (try rw [HWD.out])
  first | (refine held_t (i := 0) hHeld ?_; constructor; constructor; intro wq hq; focus ((try dsimp only at hq); go_simp; first | done | with_reducible rfl | fail)) | refine held_s (i := 0) hHeld ?_ | fail
  first | (refine held_t (i := 1) hHeld ?_; constructor; constructor; intro wq hq; focus ((try dsimp only at hq); go_simp; first | done | with_reducible rfl | fail)) | refine held_s (i := 1) hHeld ?_ | fail
  first | (refine held_t (i := 2) hHeld ?_; constructor; constructor; intro wq hq; focus ((try dsimp only at hq); go_simp; first | done | with_reducible rfl | fail)) | refine held_s (i := 2) hHeld ?_ | fail
  first | (refine held_t (i := 3) hHeld ?_; constructor; constructor; intro wq hq; focus ((try dsimp only at hq); go_simp; first | done | with_reducible rfl | fail)) | refine held_s (i := 3) hHeld ?_ | fail
  first | (refine held_t (i := 4) hHeld ?_; constructor; constructor; intro wq hq; focus ((try dsimp only at hq); go_simp; first | done | with_reducible rfl | fail)) | refine held_s (i := 4) hHeld ?_ | fail
  first | (refine held_t (i := 5) hHeld ?_; constructor; constructor; intro wq hq; focus ((try dsimp only at hq); go_simp; first | done | with_reducible rfl | fail)) | refine held_s (i := 5) hHeld ?_ | fail
  try simp only [Act.put, lay4]
  first | (refine held_t (i := 6) hHeld ?_; constructor; constructor; intro wq hq; focus ((try dsimp only at hq); go_simp; first | done | with_reducible rfl | fail)) | refine held_s (i := 6) hHeld ?_ | fail
  first | (refine held_t (i := 7) hHeld ?_; constructor; constructor; intro wq hq; focus ((try dsimp only at hq); go_simp; first | done | with_reducible rfl | fail)) | refine held_s (i := 7) hHeld ?_ | fail
  first | (refine held_t (i := 8) hHeld ?_; constructor; constructor; intro wq hq; focus ((try dsimp only at hq); go_simp; first | done | with_reducible rfl | fail)) | refine held_s (i := 8) hHeld ?_ | fail
  first | (refine held_t (i := 9) hHeld ?_; constructor; constructor; intro wq hq; focus ((try dsimp only at hq); go_simp; first | done | with_reducible rfl | fail)) | refine held_s (i := 9) hHeld ?_ | fail
  first | (refine held_t (i := 10) hHeld ?_; constructor; constructor; intro wq hq; focus ((try dsimp only at hq); go_simp; first | done | with_reducible rfl | fail)) | refine held_s (i := 10) hHeld ?_ | fail
  first | (refine held_t (i := 11) hHeld ?_; constructor; constructor; intro wq hq; focus ((try dsimp only at hq); go_simp; first | done | with_reducible rfl | fail)) | refine held_s (i := 11) hHeld ?_ | fail
  try simp only [Act.put, lay4]
  refine held_c 12 fun K hK => ?_
  go_simp
  skip
  refine hK.out _ _ (⟨(setAt_far n01).trans hHeld.1, (setAt_far n01).trans hHeld.2.1, (setAt_far nx1).trans hHeld.2.2.1, (setAt_far nx1).trans hHeld.2.2.2.1, (setAt_far nx1).trans hHeld.2.2.2.2.1, (setAt_far nx1).trans hHeld.2.2.2.2.2⟩) (fun hHeld => ?_)
  clear hK K
  try simp only [Act.put, lay4]
  first | (refine held_t (i := 13) hHeld ?_; constructor; constructor; intro wq hq; focus ((try dsimp only at hq); go_simp; first | done | with_reducible rfl | fail)) | refine held_s (i := 13) hHeld ?_ | fail
  try simp only [Act.put, lay4]
  refine held_c 14 fun K hK => ?_
  go_simp
  skip
  refine hK.out _ _ (⟨(far_cell n02).trans hHeld.1, (far_cell n02).trans hHeld.2.1, (far_cell nx2).trans hHeld.2.2.1, (far_cell nx2).trans hHeld.2.2.2.1, (far_cell nx2).trans hHeld.2.2.2.2.1, (far_cell nx2).trans hHeld.2.2.2.2.2⟩) (fun hHeld => ?_)
  clear hK K
  try simp only [Act.put, lay4]
  refine wpAnyH_done (by kernel_rfl) ?_ _
  go_wp2_with fail
  go_meet
  exact Lib.hid rfl
 case rest =>
  obtain ⟨tS, rS, cS, fS, hfin2⟩ := HFIN.out _ hcut.out
  clear x0 x1 x2 x3 k0 k1 k2 k3 he2 he2' q0 q1 fz1 fz2
  have q2 := (cS 2).trans HQ2.out.1
  generalize wc = w12 at *
  obtain ⟨L, hL⟩ : ∃ L, S.length = L := ⟨_, rfl⟩
  have hLS := HLS.out
  have hc3 := HQ2.out.2.1
  have hc3m := HQ2.out.2.2
  rw [hL] at q2 rS hfin2 hLS hc3 HQ2
  have q2' := fun o => Lib.cell?_alloc_some o q2
  obtain ⟨i0, hi0, hz0, hs0, hb0⟩ := info_parts infoI64
  have HROW := Lib.hid (fun (o : Obj) => (show (w12.alloc o).ownsRow 0 2 1 (.slice a3 L c3) L (trailV S) from rS.alloc o))
  have HPU := Lib.hid (fun (o : Obj) (w7 : World) (v' : Value) hg hat hr => hfin2 (w12.alloc o) w7 v' (bel1' w12 o) hg hat hr)
  unfold maxLen at hc3m
  clear hfin2 rS tS cS fS hL
  go_wp2_with (at_builtin; refine wpList_append_k rfl _ _ 57 rfl 0 2 i0 (.int .i64 0) 1 8 Try.underlying57 hi0 hz0 hs0 (by decide) hb0 rfl (.slice a3 L c3) L (trailV S) rfl (HROW.out _) (some ⟨w12.heap.size, 0, none⟩) 1 1 [.int .i64 u] rfl rfl (Or.inr ⟨_, rfl, fun j u' hu' => cell_new w12 #[.int .i64 u] 2 j u' hu'⟩) (by simp [Value.oneCell']) (by unfold maxLen; omega) (by omega) (Nat.zero_le _) (L + 1) (trailV S ++ [.int .i64 u]) rfl rfl ?_; intro a7 c7 w7 hown7 hgrow7 hat7; obtain ⟨r1, r2, F8, r3, r4, r5⟩ := HPU.out _ w7 (.slice a7 (L + 1) c7) hgrow7 hat7 hown7; have g4 : w7.cell? ⟨bq, 2, none⟩ = some (.slice a3 L c3) := (r1 2).trans HQ2.out.1; have f4 := r2 2; have HR7 := Lib.hid (And.intro r3 (And.intro r4 r5)); clear r1 r2 r3 r4 r5 hown7 hgrow7 hat7)
  all_goals
   go_end0
   exact ⟨F8, rfl, HR7.out.1, (Touch.of_below HB1.out F).trans HR7.out.2.1 (fun k hk => Or.inl hk), fun k hk => (HR7.out.2.2 k hk).imp id (fun h => Nat.le_trans HB1.out.size h)⟩
end
end Go.Proofs.Ytchbbaehdcmcfaa
