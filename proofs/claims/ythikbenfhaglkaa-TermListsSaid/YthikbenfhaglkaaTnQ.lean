/- TermLists: items and what ends them make the list again. No condition. -/
import Derived.Test.YthikbenfhaglkaaTnK
import Derived.Test.YthikbenfhaglkaaTnP
import Derived.Test.YthikbenfhaglkaaH
namespace Go.Proofs.Ythikbenfhaglkaa
open Go.RowKit
set_option linter.unusedVariables false

theorem good_item : ∀ (l : List Tm) (t : Tm), goodT (listT l t) = true → (∀ x ∈ l, goodT x = true) ∧ goodT t = true
  | [], t, h => ⟨fun x hx => by simp at hx, h⟩
  | x :: r, t, h => by
    rw [listT] at h
    have h1 : goodT x = true := good_arg h (by simp [consT, Tm.args])
    have h2 : goodT (listT r t) = true := good_arg h (by simp [consT, Tm.args])
    obtain ⟨h3, h4⟩ := good_item r t h2
    exact ⟨fun y hy => by
      rcases List.mem_cons.1 hy with rfl | hy
      · exact h1
      · exact h3 y hy, h4⟩
set_option maxHeartbeats 8000000 in
set_option maxRecDepth 100000 in
theorem lists_walk {W : World} {v0 v1 : Value} {l : List Tm} {x : Tm} (h : Tms W v0 l) (hx : TmV W x v1) : Calls Try.prog 5 #[v0, v1] W fun e w' => IsBool W true e w' := by
  obtain ⟨k, n, s, u, rfl⟩ := hx.four
  obtain ⟨a, c, rfl, h1, h2, h3⟩ := h.len
  unfold BIG at h3
  obtain ⟨m, hm⟩ : ∃ m, l.length = m := ⟨_, rfl⟩
  have HU := Lib.hid h
  have HX := Lib.hid hx
  have HM := Lib.hid hm
  rw [hm] at h1 h3 HU ⊢
  have DX := Lib.hid (fun (w : World) (hb : Below W.heap.size W w) => deep_at _ x (Nat.le_refl _) 30 (by unfold I64; omega) w _ (TmV.ext hb _ _ HX.out))
  have DL := Lib.hid (fun (w : World) (hb : Below W.heap.size W w) (y : Tm) (vy : Value) (hy : TmV w y vy) => deep_at _ y (Nat.le_refl _) 20 (by unfold I64; omega) w _ hy)
  clear h hx hm
  go_enter Try.func5, Try.ntmps5
  (go_wp2_with fail; go_fit (awake_at _); rintro e w1 ⟨rfl, b1⟩)
  have HB1 := Lib.hid b1
  have H1 := Lib.hid (Ext.trans' (bel1' W _) b1)
  obtain ⟨e0, e1, e2, e3⟩ := box_cells W 25 _ _ _ _ b1
  clear b1
  by_cases h20 : 20 < m
  · go_wp2
    go_ret
    exact ⟨rfl, H1.out⟩
  have hm20 : m ≤ 20 := by omega
  have d0 := DX.out _ H1.out
  cases hd : deepT x 30
  rotate_left
  · rw [hd] at d0
    (go_wp2_with fail; go_fit (d0); rintro e w2 ⟨rfl, b2⟩)
    have H2 := Lib.hid (Ext.trans' H1.out b2)
    clear b2
    go_wp2
    go_ret
    exact ⟨rfl, H2.out⟩
  rw [hd] at d0
  (go_wp2_with fail; go_fit (d0); rintro e w2 ⟨rfl, b2⟩)
  have HB2 := Lib.hid (Ext.trans' HB1.out b2)
  have H2 := Lib.hid (Ext.trans' H1.out b2)
  clear b2 d0 e0 e1 e2 e3 hd HB1 H1
  go_wp2_with fail
  go_loopw [5] (fun z wr => ∃ i : Nat, i ≤ m ∧ z = .int .i64 i ∧ Hid (Below (W.alloc (box4 k n s u 25)).heap.size (W.alloc (box4 k n s u 25)) wr)) (fun z _ => m - (intOf z).toNat)
  case atStart => exact ⟨0, Nat.zero_le _, rfl, HB2⟩
  case round =>
    obtain ⟨i, hi, rfl, HB3⟩ := hrel
    have H3 := Lib.hid (Ext.trans' (bel1' W (box4 k n s u 25)) HB3.out)
    by_cases hil : i < m
    · obtain ⟨y, hy⟩ : ∃ y, l[i]? = some y := ⟨_, List.getElem?_eq_getElem (by rw [HM.out]; exact hil)⟩
      obtain ⟨b, off, k', n', s', u', rfl, hbb, _, _, _, c0, c1, c2, c3, htu, hty⟩ := (HU.out.ext H3.out).get hy
      have d1 := DL.out _ H3.out y _ hty
      clear htu hty hy
      cases hd : deepT y 20
      · rw [hd] at d1
        (go_wp2_with fail; go_fit (d1); rintro e w4 ⟨rfl, b4⟩)
        have HB4 := Lib.hid (Ext.trans' HB3.out b4)
        clear b4
        go_wp2
        go_roundw
        case rel => exact ⟨i + 1, by omega, by go_num, HB4⟩
        case measure => simp [intOf]; omega
      · rw [hd] at d1
        (go_wp2_with fail; go_fit (d1); rintro e w4 ⟨rfl, b4⟩)
        have H4 := Lib.hid (Ext.trans' H3.out b4)
        clear b4
        go_wp2
        go_ret
        exact ⟨rfl, H4.out⟩
    · obtain ⟨e0, e1, e2, e3⟩ := box_cells W 25 _ _ _ _ HB3.out
      obtain rfl : m = i := by omega
      have LI := list_in (D := noB) (oldNo wr) (by rw [show hide noB wr = wr from hide_none wr]; exact HU.out.ext H3.out) (by rw [show hide noB wr = wr from hide_none wr]; exact TmV.ext H3.out _ _ HX.out)
      (go_wp2_with fail; go_fit (LI); rintro e w5 ⟨r, rfl, hT, b5⟩)
      obtain ⟨kT, nT, sT, aT, mT, cT, rfl⟩ := hT.full
      have HT := Lib.hid hT.bare
      have HB5 := Lib.hid (Ext.trans' HB3.out b5)
      have H5 := Lib.hid (Ext.trans' H3.out b5)
      clear hT b5 LI e0 e1 e2 e3 HB3 H3
      have G5 := Good_at _ _ _ (TmV.ext (bel1' w5 (box4 kT nT sT (.slice aT mT cT) 25)) _ _ HT.out)
      cases hg : goodT (listT l x)
      · rw [hg] at G5
        (go_wp2_with fail; go_fit (G5); rintro e w6 ⟨rfl, b6⟩)
        have H6 := Lib.hid (Ext.trans' H5.out (Ext.trans' (bel1' _ _) b6))
        clear b6
        go_wp2
        go_ret
        exact ⟨rfl, H6.out⟩
      rw [hg] at G5
      have HG := Lib.hid hg
      (go_wp2_with fail; go_fit (G5); rintro e w6 ⟨rfl, b6⟩)
      have HB6 := Lib.hid b6
      obtain ⟨t0, t1, t2, t3⟩ := box_cells w5 25 _ _ _ _ b6
      have HT6 := Lib.hid (TmV.ext (Ext.trans' (bel1' w5 (box4 kT nT sT (.slice aT mT cT) 25)) b6) _ _ HT.out)
      have IT := items_at _ _ _ HT6.out hg
      clear hg b6 G5
      (go_wp2_with fail; go_fit (IT); rintro e w7 ⟨lv, tv, rfl, h7l, h7t, b7⟩)
      obtain ⟨kE, nE, sE, aE, mE, cE, rfl⟩ := h7t.full
      rw [items_list] at h7l h7t
      obtain ⟨aI, cI, rfl, hI1, hI2, hI3⟩ := h7l.len
      obtain ⟨I, hI⟩ : ∃ I, l ++ (itemsT x).1 = I := ⟨_, rfl⟩
      simp only [hI] at h7l hI1 hI2 hI3
      obtain ⟨mI, hmI⟩ : ∃ mI, I.length = mI := ⟨_, rfl⟩
      have hmm : m ≤ mI := by rw [← hmI, ← hI, List.length_append, HM.out]; omega
      rw [hmI] at h7l hI1 hI3
      have HL7 := Lib.hid h7l
      have HE7 := Lib.hid h7t
      have HI := Lib.hid hI
      have HB7 := Lib.hid (Ext.trans' HB6.out b7)
      have H7 := Lib.hid (Ext.trans' H5.out (Ext.trans' (bel1' _ _) HB7.out))
      have HLB : Hid (listT I (itemsT x).2 = listT l x) := Lib.hid (by
        have := list_items _ (listT l x) (Nat.le_refl _) (good_parts HG.out).2.2
        rw [items_list] at this
        rw [← HI.out]; exact this)
      simp only [hI, hmI]
      clear h7l h7t b7 IT t0 t1 t2 t3 hI hmI
      have LI2 := Lib.hid (fun (wq : World) (hq : Below (w7.alloc (box4 kE nE sE (.slice aE mE cE) 25)).heap.size (w7.alloc (box4 kE nE sE (.slice aE mE cE) 25)) wq) => list_in (w := wq) (D := noB) (v := .slice aI mI cI) (l := I) (x := (itemsT x).2) (vt := .agg #[.int .i64 kE, .int .i64 nE, .string sE, .slice aE mE cE]) (oldNo wq) (by rw [show hide noB wq = wq from hide_none wq]; exact HL7.out.ext (Ext.trans' (bel1' _ _) hq)) (by rw [show hide noB wq = wq from hide_none wq]; exact TmV.ext (Ext.trans' (bel1' _ _) hq) _ _ HE7.out))
      have HT7 := Lib.hid (fun (wq : World) (hq : Below (w7.alloc (box4 kE nE sE (.slice aE mE cE) 25)).heap.size (w7.alloc (box4 kE nE sE (.slice aE mE cE) 25)) wq) => TmV.ext (Ext.trans' (bel1' w5 (box4 kT nT sT (.slice aT mT cT) 25)) (Ext.trans' HB7.out (Ext.trans' (bel1' _ _) hq))) _ _ HT.out)
      have SM := Lib.hid (fun (wq : World) (hq : Below (w7.alloc (box4 kE nE sE (.slice aE mE cE) 25)).heap.size (w7.alloc (box4 kE nE sE (.slice aE mE cE) 25)) wq) (r2 : Value) (h2 : TmV wq (listT I (itemsT x).2) r2) => by
        have q := Same_at h2 (HT7.out wq hq)
        rw [HLB.out, HG.out, same_self] at q
        simp only [Bool.and_self] at q
        exact q)
      have hmi : decide (mI < m) = false := decide_eq_false (by omega)
      go_wp2_with fail
      have q0 := (Below.refl (w7.alloc (box4 kE nE sE (.slice aE mE cE) 25)).heap.size (w7.alloc (box4 kE nE sE (.slice aE mE cE) 25)))
      obtain ⟨t0, t1, t2, t3⟩ := box_cells w5 25 _ _ _ _ (Ext.trans' HB7.out (bel1' w7 (box4 kE nE sE (.slice aE mE cE) 25)))
      obtain ⟨f0, f1, f2, f3⟩ := box_cells w7 25 _ _ _ _ q0
      refine wp_region_held_drew (S := fun w' => (w'.cell? ⟨w5.heap.size, 0, none⟩ = some (.int .i64 kT) ∧ w'.cell? ⟨w5.heap.size, 1, none⟩ = some (.int .i64 nT) ∧ w'.cell? ⟨w5.heap.size, 2, none⟩ = some (.string sT) ∧ w'.cell? ⟨w5.heap.size, 3, none⟩ = some (.slice aT mT cT) ∧ w'.cell? ⟨w7.heap.size, 0, none⟩ = some (.int .i64 kE) ∧ w'.cell? ⟨w7.heap.size, 1, none⟩ = some (.int .i64 nE) ∧ w'.cell? ⟨w7.heap.size, 2, none⟩ = some (.string sE) ∧ w'.cell? ⟨w7.heap.size, 3, none⟩ = some (.slice aE mE cE)) ∧ Below (w7.alloc (box4 kE nE sE (.slice aE mE cE) 25)).heap.size (w7.alloc (box4 kE nE sE (.slice aE mE cE) 25)) w') (by kernel_rfl) (⟨⟨t0, t1, t2, t3, f0, f1, f2, f3⟩, q0.drew⟩) (fun hHeld => ?_)
      first | (refine held_take (i := 0) (by simp only [List.getElem?_toArray, List.getElem?_cons_zero, List.getElem?_cons_succ]; rfl) (by kernel_rfl) (by kernel_rfl) (by kernel_rfl) (by rfl) hHeld ?_; apply Exists.intro; refine ⟨fun wq hq => ?_, fun _ _ _ h => h, ?_⟩; (focus ((try dsimp only at hq); go_simp; (first | done | with_reducible rfl | fail))); try simp only [Act.put, List.setIfInBounds_toArray, List.set_cons_zero, List.set_cons_succ]) | (refine held_skip (i := 0) (by simp only [List.getElem?_toArray, List.getElem?_cons_zero, List.getElem?_cons_succ]; rfl) (by kernel_rfl) (by kernel_rfl) (by kernel_rfl) (by rfl) hHeld (by exact fun _ _ _ h => h) ?_; try simp only [Act.put, List.setIfInBounds_toArray, List.set_cons_zero, List.set_cons_succ]) | fail
      first | (refine held_take (i := 1) (by simp only [List.getElem?_toArray, List.getElem?_cons_zero, List.getElem?_cons_succ]; rfl) (by kernel_rfl) (by kernel_rfl) (by kernel_rfl) (by rfl) hHeld ?_; apply Exists.intro; refine ⟨fun wq hq => ?_, fun _ _ _ h => h, ?_⟩; (focus ((try dsimp only at hq); go_simp; (first | done | with_reducible rfl | fail))); try simp only [Act.put, List.setIfInBounds_toArray, List.set_cons_zero, List.set_cons_succ]) | (refine held_skip (i := 1) (by simp only [List.getElem?_toArray, List.getElem?_cons_zero, List.getElem?_cons_succ]; rfl) (by kernel_rfl) (by kernel_rfl) (by kernel_rfl) (by rfl) hHeld (by exact fun _ _ _ h => h) ?_; try simp only [Act.put, List.setIfInBounds_toArray, List.set_cons_zero, List.set_cons_succ]) | fail
      first | (refine held_take (i := 2) (by simp only [List.getElem?_toArray, List.getElem?_cons_zero, List.getElem?_cons_succ]; rfl) (by kernel_rfl) (by kernel_rfl) (by kernel_rfl) (by rfl) hHeld ?_; apply Exists.intro; refine ⟨fun wq hq => ?_, fun _ _ _ h => h, ?_⟩; (focus ((try dsimp only at hq); go_simp; (first | done | with_reducible rfl | fail))); try simp only [Act.put, List.setIfInBounds_toArray, List.set_cons_zero, List.set_cons_succ]) | (refine held_skip (i := 2) (by simp only [List.getElem?_toArray, List.getElem?_cons_zero, List.getElem?_cons_succ]; rfl) (by kernel_rfl) (by kernel_rfl) (by kernel_rfl) (by rfl) hHeld (by exact fun _ _ _ h => h) ?_; try simp only [Act.put, List.setIfInBounds_toArray, List.set_cons_zero, List.set_cons_succ]) | fail
      first | (refine held_take (i := 3) (by simp only [List.getElem?_toArray, List.getElem?_cons_zero, List.getElem?_cons_succ]; rfl) (by kernel_rfl) (by kernel_rfl) (by kernel_rfl) (by rfl) hHeld ?_; apply Exists.intro; refine ⟨fun wq hq => ?_, fun _ _ _ h => h, ?_⟩; (focus ((try dsimp only at hq); go_simp; (first | done | with_reducible rfl | fail))); try simp only [Act.put, List.setIfInBounds_toArray, List.set_cons_zero, List.set_cons_succ]) | (refine held_skip (i := 3) (by simp only [List.getElem?_toArray, List.getElem?_cons_zero, List.getElem?_cons_succ]; rfl) (by kernel_rfl) (by kernel_rfl) (by kernel_rfl) (by rfl) hHeld (by exact fun _ _ _ h => h) ?_; try simp only [Act.put, List.setIfInBounds_toArray, List.set_cons_zero, List.set_cons_succ]) | fail
      first | (refine held_take (i := 4) (by simp only [List.getElem?_toArray, List.getElem?_cons_zero, List.getElem?_cons_succ]; rfl) (by kernel_rfl) (by kernel_rfl) (by kernel_rfl) (by rfl) hHeld ?_; apply Exists.intro; refine ⟨fun wq hq => ?_, fun _ _ _ h => h, ?_⟩; (focus ((try dsimp only at hq); go_simp; (first | done | with_reducible rfl | fail))); try simp only [Act.put, List.setIfInBounds_toArray, List.set_cons_zero, List.set_cons_succ]) | (refine held_skip (i := 4) (by simp only [List.getElem?_toArray, List.getElem?_cons_zero, List.getElem?_cons_succ]; rfl) (by kernel_rfl) (by kernel_rfl) (by kernel_rfl) (by rfl) hHeld (by exact fun _ _ _ h => h) ?_; try simp only [Act.put, List.setIfInBounds_toArray, List.set_cons_zero, List.set_cons_succ]) | fail
      first | (refine held_take (i := 5) (by simp only [List.getElem?_toArray, List.getElem?_cons_zero, List.getElem?_cons_succ]; rfl) (by kernel_rfl) (by kernel_rfl) (by kernel_rfl) (by rfl) hHeld ?_; apply Exists.intro; refine ⟨fun wq hq => ?_, fun _ _ _ h => h, ?_⟩; (focus ((try dsimp only at hq); go_simp; (first | done | with_reducible rfl | fail))); try simp only [Act.put, List.setIfInBounds_toArray, List.set_cons_zero, List.set_cons_succ]) | (refine held_skip (i := 5) (by simp only [List.getElem?_toArray, List.getElem?_cons_zero, List.getElem?_cons_succ]; rfl) (by kernel_rfl) (by kernel_rfl) (by kernel_rfl) (by rfl) hHeld (by exact fun _ _ _ h => h) ?_; try simp only [Act.put, List.setIfInBounds_toArray, List.set_cons_zero, List.set_cons_succ]) | fail
      first | (refine held_take (i := 6) (by simp only [List.getElem?_toArray, List.getElem?_cons_zero, List.getElem?_cons_succ]; rfl) (by kernel_rfl) (by kernel_rfl) (by kernel_rfl) (by rfl) hHeld ?_; apply Exists.intro; refine ⟨fun wq hq => ?_, fun _ _ _ h => h, ?_⟩; (focus ((try dsimp only at hq); go_simp; (first | done | with_reducible rfl | fail))); try simp only [Act.put, List.setIfInBounds_toArray, List.set_cons_zero, List.set_cons_succ]) | (refine held_skip (i := 6) (by simp only [List.getElem?_toArray, List.getElem?_cons_zero, List.getElem?_cons_succ]; rfl) (by kernel_rfl) (by kernel_rfl) (by kernel_rfl) (by rfl) hHeld (by exact fun _ _ _ h => h) ?_; try simp only [Act.put, List.setIfInBounds_toArray, List.set_cons_zero, List.set_cons_succ]) | fail
      first | (refine held_take (i := 7) (by simp only [List.getElem?_toArray, List.getElem?_cons_zero, List.getElem?_cons_succ]; rfl) (by kernel_rfl) (by kernel_rfl) (by kernel_rfl) (by rfl) hHeld ?_; apply Exists.intro; refine ⟨fun wq hq => ?_, fun _ _ _ h => h, ?_⟩; (focus ((try dsimp only at hq); go_simp; (first | done | with_reducible rfl | fail))); try simp only [Act.put, List.setIfInBounds_toArray, List.set_cons_zero, List.set_cons_succ]) | (refine held_skip (i := 7) (by simp only [List.getElem?_toArray, List.getElem?_cons_zero, List.getElem?_cons_succ]; rfl) (by kernel_rfl) (by kernel_rfl) (by kernel_rfl) (by rfl) hHeld (by exact fun _ _ _ h => h) ?_; try simp only [Act.put, List.setIfInBounds_toArray, List.set_cons_zero, List.set_cons_succ]) | fail
      first | (refine held_take (i := 9) (by simp only [List.getElem?_toArray, List.getElem?_cons_zero, List.getElem?_cons_succ]; rfl) (by kernel_rfl) (by kernel_rfl) (by kernel_rfl) (by rfl) hHeld ?_; apply Exists.intro; refine ⟨fun wq hq => ?_, fun _ _ _ h => h, ?_⟩; (focus ((try dsimp only at hq); go_simp; (first | done | with_reducible rfl | fail))); try simp only [Act.put, List.setIfInBounds_toArray, List.set_cons_zero, List.set_cons_succ]) | (refine held_skip (i := 9) (by simp only [List.getElem?_toArray, List.getElem?_cons_zero, List.getElem?_cons_succ]; rfl) (by kernel_rfl) (by kernel_rfl) (by kernel_rfl) (by rfl) hHeld (by exact fun _ _ _ h => h) ?_; try simp only [Act.put, List.setIfInBounds_toArray, List.set_cons_zero, List.set_cons_succ]) | fail
      refine wpAnyH_ready (rs := [8]) (by kernel_rfl) (by simp) ?_
      refine AllReadyH.cons (by simp only [List.getElem?_toArray, List.getElem?_cons_zero, List.getElem?_cons_succ]; rfl) (fun K hK => ?_) AllReadyH.nil
      go_simp
      (go_at_call 15; refine (LI2.out _ hHeld.2).mono ?_; rintro e w10 ⟨r2, rfl, hT2, hb10⟩; have HT2 := Lib.hid hT2.bare; clear hT2)
      refine hK.out _ _ (⟨⟨cell_later hb10 hHeld.1.1, cell_later hb10 hHeld.1.2.1, cell_later hb10 hHeld.1.2.2.1, cell_later hb10 hHeld.1.2.2.2.1, cell_later hb10 hHeld.1.2.2.2.2.1, cell_later hb10 hHeld.1.2.2.2.2.2.1, cell_later hb10 hHeld.1.2.2.2.2.2.2.1, cell_later hb10 hHeld.1.2.2.2.2.2.2.2⟩, Ext.trans' hHeld.2 hb10⟩) (fun hHeld => ?_)
      clear hK K
      try simp only [Act.put, List.setIfInBounds_toArray, List.set_cons_zero, List.set_cons_succ]
      refine wpAnyH_ready (rs := [10]) (by kernel_rfl) (by simp) ?_
      refine AllReadyH.cons (by simp only [List.getElem?_toArray, List.getElem?_cons_zero, List.getElem?_cons_succ]; rfl) (fun K hK => ?_) AllReadyH.nil
      go_simp
      (go_at_call 12; refine (SM.out _ hHeld.2 _ HT2.out).mono ?_; rintro e w11 ⟨rfl, hb11⟩)
      refine hK.out _ _ (⟨⟨cell_later hb11 hHeld.1.1, cell_later hb11 hHeld.1.2.1, cell_later hb11 hHeld.1.2.2.1, cell_later hb11 hHeld.1.2.2.2.1, cell_later hb11 hHeld.1.2.2.2.2.1, cell_later hb11 hHeld.1.2.2.2.2.2.1, cell_later hb11 hHeld.1.2.2.2.2.2.2.1, cell_later hb11 hHeld.1.2.2.2.2.2.2.2⟩, Ext.trans' hHeld.2 hb11⟩) (fun hHeld => ?_)
      clear hK K
      try simp only [Act.put, List.setIfInBounds_toArray, List.set_cons_zero, List.set_cons_succ]
      first | (refine held_take (i := 11) (by simp only [List.getElem?_toArray, List.getElem?_cons_zero, List.getElem?_cons_succ]; rfl) (by kernel_rfl) (by kernel_rfl) (by kernel_rfl) (by rfl) hHeld ?_; apply Exists.intro; refine ⟨fun wq hq => ?_, fun _ _ _ h => h, ?_⟩; (focus ((try dsimp only at hq); go_simp; (first | done | with_reducible rfl | fail))); try simp only [Act.put, List.setIfInBounds_toArray, List.set_cons_zero, List.set_cons_succ]) | (refine held_skip (i := 11) (by simp only [List.getElem?_toArray, List.getElem?_cons_zero, List.getElem?_cons_succ]; rfl) (by kernel_rfl) (by kernel_rfl) (by kernel_rfl) (by rfl) hHeld (by exact fun _ _ _ h => h) ?_; try simp only [Act.put, List.setIfInBounds_toArray, List.set_cons_zero, List.set_cons_succ]) | fail
      first | (refine held_take (i := 12) (by simp only [List.getElem?_toArray, List.getElem?_cons_zero, List.getElem?_cons_succ]; rfl) (by kernel_rfl) (by kernel_rfl) (by kernel_rfl) (by rfl) hHeld ?_; apply Exists.intro; refine ⟨fun wq hq => ?_, fun _ _ _ h => h, ?_⟩; (focus ((try dsimp only at hq); go_simp; (first | done | with_reducible rfl | fail))); try simp only [Act.put, List.setIfInBounds_toArray, List.set_cons_zero, List.set_cons_succ]) | (refine held_skip (i := 12) (by simp only [List.getElem?_toArray, List.getElem?_cons_zero, List.getElem?_cons_succ]; rfl) (by kernel_rfl) (by kernel_rfl) (by kernel_rfl) (by rfl) hHeld (by exact fun _ _ _ h => h) ?_; try simp only [Act.put, List.setIfInBounds_toArray, List.set_cons_zero, List.set_cons_succ]) | fail
      refine wpAnyH_done (by kernel_rfl) ?_ _
      have HB11 := Lib.hid hHeld.2
      have HC := Lib.hid hHeld.1
      clear hHeld LI2 SM t0 t1 t2 t3 f0 f1 f2 f3 q0 hmi hb11 hb10 HT2
      go_wp2_with fail
      go_loopw [9] (fun z wr => ∃ i : Nat, i ≤ m ∧ z = .int .i64 i ∧ Hid (Below (w7.alloc (box4 kE nE sE (.slice aE mE cE) 25)).heap.size (w7.alloc (box4 kE nE sE (.slice aE mE cE) 25)) wr)) (fun z _ => m - (intOf z).toNat)
      case atStart => exact ⟨0, Nat.zero_le _, rfl, HB11⟩
      case round =>
        obtain ⟨i, hi, rfl, HB12⟩ := hrel
        have H12 := Lib.hid (Ext.trans' H7.out (Ext.trans' (bel1' w7 _) HB12.out))
        by_cases hil : i < m
        · obtain ⟨y, hy⟩ : ∃ y, l[i]? = some y := ⟨_, List.getElem?_eq_getElem (by rw [HM.out]; exact hil)⟩
          have hyI : I[i]? = some y := by rw [← HI.out, List.getElem?_append_left (by rw [HM.out]; exact hil)]; exact hy
          have hgy := (good_item l x HG.out).1 y (List.mem_of_getElem? hy)
          obtain ⟨b, off, k1, n1, s1, u1, rfl, hbb, _, _, _, c0, c1, c2, c3, htu, hty⟩ := (HU.out.ext H12.out).get hy
          obtain ⟨b', off', k2, n2, s2, u2, rfl, hbb', _, _, _, d0, d1, d2, d3, htu', hty'⟩ := (HL7.out.ext (Ext.trans' (bel1' w7 _) HB12.out)).get hyI
          have SM := Lib.hid (fun (wq : World) (hq : Below wr.heap.size wr wq) => by
            have q := Same_at (TmV.ext hq _ _ hty') (TmV.ext hq _ _ hty)
            rw [hgy, same_self] at q
            simp only [Bool.and_self] at q
            exact q)
          have hiI : i < mI := by omega
          clear htu htu' hty hty' hgy hy hyI
          go_wp2_with fail
          (refine wp_region_class (fun w' => (w'.cell? ⟨b, off + i * 4, none⟩ = some (.int .i64 k1) ∧ w'.cell? ⟨b, off + i * 4 + 1, none⟩ = some (.int .i64 n1) ∧ w'.cell? ⟨b, off + i * 4 + 2, none⟩ = some (.string s1) ∧ w'.cell? ⟨b, off + i * 4 + 3, none⟩ = some u1 ∧ w'.cell? ⟨b', off' + i * 4, none⟩ = some (.int .i64 k2) ∧ w'.cell? ⟨b', off' + i * 4 + 1, none⟩ = some (.int .i64 n2) ∧ w'.cell? ⟨b', off' + i * 4 + 2, none⟩ = some (.string s2) ∧ w'.cell? ⟨b', off' + i * 4 + 3, none⟩ = some u2) ∧ Below wr.heap.size wr w') (by kernel_rfl) (by kernel_rfl) (⟨⟨c0, c1, c2, c3, d0, d1, d2, d3⟩, (Below.refl _ _).drew⟩) ?_; (repeat (first | go_big_quiet_skip | (go_big_quiet_want; refine quiet_of ?_; apply Exists.intro; refine ⟨fun wq hq => ?_, ?_⟩; (focus ((try dsimp only at hq); go_simp; (first | done | with_reducible rfl | ((go_at_call 12; refine (SM.out wq hq.2).mono ?_; rintro e w6 ⟨rfl, h6⟩; exact ⟨rfl, ⟨cell_later h6 hq.1.1, cell_later h6 hq.1.2.1, cell_later h6 hq.1.2.2.1, cell_later h6 hq.1.2.2.2.1, cell_later h6 hq.1.2.2.2.2.1, cell_later h6 hq.1.2.2.2.2.2.1, cell_later h6 hq.1.2.2.2.2.2.2.1, cell_later h6 hq.1.2.2.2.2.2.2.2⟩, Below.trans hq.2 (h6.mono hq.2.size)⟩)) | fail))); try simp only [Act.put, List.setIfInBounds_toArray, List.set_cons_zero, List.set_cons_succ]; go_big_quiet_on) | fail)); refine wpQuiet_nil ?_; intro wz hz)
          have HB13 := Lib.hid (Ext.trans' HB12.out hz.2)
          clear hz
          go_wp2
          go_roundw
          case rel => exact ⟨i + 1, by omega, by go_num, HB13⟩
          case measure => simp [intOf]; omega
        · obtain rfl : m = i := by omega
          obtain ⟨e0, e1, e2, e3⟩ := box_cells W 25 _ _ _ _ (Ext.trans' HB5.out (Ext.trans' (bel1' w5 (box4 kT nT sT (.slice aT mT cT) 25)) (Ext.trans' HB7.out (Ext.trans' (bel1' w7 _) HB12.out))))
          have SX := size_at _ _ _ (TmV.ext H12.out _ _ HX.out)
          have hgx := good_item l x HG.out
          have hxs := (good_parts hgx.2).1
          obtain ⟨zx, hzx⟩ : ∃ z, sizeN x = z := ⟨_, rfl⟩
          rw [hzx] at SX hxs
          rw [Nat.min_eq_left (by omega)] at SX
          have hls : sizesN l ≤ 2000 := by
            have := (good_parts HG.out).1
            rw [size_list] at this
            omega
          have HLS := Lib.hid hls
          have HGI := Lib.hid hgx.1
          have HZX := Lib.hid hzx
          clear hgx hzx hls
          (go_wp2_with fail; go_fit (SX); rintro e w13 ⟨rfl, b13⟩)
          have HB13 := Lib.hid (Ext.trans' HB12.out b13)
          clear b13 SX e0 e1 e2 e3
          go_wp2_with fail
          go_loopw [10, 11] (fun p z wr => ∃ i q : Nat, i ≤ m ∧ z = .int .i64 i ∧ p = .int .i64 q ∧ Hid (q + i = 2 * m + zx + sizesN (l.take i)) ∧ q ≤ 10000 ∧ Hid (Below (w7.alloc (box4 kE nE sE (.slice aE mE cE) 25)).heap.size (w7.alloc (box4 kE nE sE (.slice aE mE cE) 25)) wr)) (fun _ z _ => m - (intOf z).toNat)
          case atStart => exact ⟨0, 2 * m + zx, Nat.zero_le _, rfl, by go_num, Lib.hid (by simp [sizesN]), by omega, HB13⟩
          case round =>
            obtain ⟨i, q, hi', rfl, rfl, HQ, hq, HB14⟩ := hrel
            have H14 := Lib.hid (Ext.trans' H7.out (Ext.trans' (bel1' w7 _) HB14.out))
            by_cases hil' : i < m
            · obtain ⟨y, hy⟩ : ∃ y, l[i]? = some y := ⟨_, List.getElem?_eq_getElem (by rw [HM.out]; exact hil')⟩
              have hgy := (good_parts (HGI.out y (List.mem_of_getElem? hy))).1
              obtain ⟨b, off, k1, n1, s1, u1, rfl, hbb, _, _, _, c0, c1, c2, c3, htu, hty⟩ := (HU.out.ext H14.out).get hy
              have SY := size_at _ _ _ hty
              obtain ⟨zy, hzy⟩ : ∃ z, sizeN y = z := ⟨_, rfl⟩
              have hzp := size_pos y
              have hds := sizes_drop' hy
              have hdt := sizes_take' l (i + 1)
              rw [hzy] at SY hgy hzp hds
              rw [Nat.min_eq_left (by omega)] at SY
              obtain ⟨q2, hq2⟩ : ∃ q2, q + zy - 1 = q2 := ⟨_, rfl⟩
              have hq2i : (q : Int) + zy - 1 = q2 := by omega
              have HQ2 : Hid (q2 + (i + 1) = 2 * m + zx + sizesN (l.take (i + 1))) := Lib.hid (by have := HQ.out; omega)
              have hq2b : q2 ≤ 10000 := by have := HQ2.out; have := HLS.out; omega
              clear hq2 htu hty hzy hds hdt hy
              (go_wp2_with fail; go_fit (SY); rintro e w15 ⟨rfl, b15⟩)
              have HB15 := Lib.hid (Ext.trans' HB14.out b15)
              clear b15
              go_wp2
              go_roundw
              case rel => exact ⟨i + 1, q2, by omega, by go_num, rfl, HQ2, hq2b, HB15⟩
              case measure => simp [intOf]; omega
            · obtain ⟨t0, t1, t2, t3⟩ := box_cells w5 25 _ _ _ _ (Ext.trans' HB7.out (Ext.trans' (bel1' w7 _) HB14.out))
              have ST := size_at _ _ _ (HT7.out _ HB14.out)
              have hq3 : min (sizeN (listT l x)) 2001 = q := by
                have h1 := (good_parts HG.out).1
                have h2 := HQ.out
                rw [size_list] at h1 ⊢
                rw [HM.out, HZX.out] at h1 ⊢
                rw [List.take_of_length_le (by rw [HM.out]; omega)] at h2
                omega
              rw [hq3] at ST
              clear hq3
              (go_wp2_with fail; go_fit (ST); rintro e w16 ⟨rfl, b16⟩)
              have H16 := Lib.hid (Ext.trans' H14.out b16)
              clear b16
              go_wp2
              go_ret
              exact ⟨rfl, H16.out⟩
end Go.Proofs.Ythikbenfhaglkaa
