import Derived.Test.YtaojalicnnnkmaaGreatDoorHgaah
import Derived.Deep.RegionLaw
import Derived.Deep.AppendLies
set_option linter.unusedVariables false
set_option linter.unusedSimpArgs false
/- The project's reader: begins, isMinus. -/
namespace Go.Proofs.YtaojalicnnnkmaaGreatDoor
open Go.RowKit
set_option linter.unusedVariables false

set_option maxHeartbeats 2000000 in
theorem isMinus_at {D M : Nat → Bool} {w : World} {rb : Nat} {xs : List O} {s : RS} (h : St D M w rb xs s) (q : TokP) (hq2 : q.2 ≤ 4096) :
    Calls Tryz.prog 115 #[.pointer (some ⟨rb, 0, none⟩), tkVal q] w fun e w' => e = .returned (.bool (isMinusR q (headR s))) ∧ Below w.heap.size w w' := by
  have HN := Lib.hid (fun wq hq => next_at (h.later (w' := wq) hq))
  obtain ⟨x, hx⟩ : ∃ x, headR s = x := ⟨_, rfl⟩
  rw [hx] at HN ⊢
  obtain ⟨m, hm⟩ : ∃ m, isMinusR q x = m := ⟨_, rfl⟩
  have HM := Lib.hid hm
  rw [hm]
  obtain ⟨w1, hw1, hb1, hz1, hx1⟩ := box_new w #[.int .i64 (q.1.kind : Int), .string ⟨q.1.text.toArray⟩, .int .i64 (q.1.n : Int), .bool q.1.opens, .int .i64 (q.2 : Int)] 125
  clear h hx hm
  go_enter Tryz.func115, Tryz.ntmps115
  go_wp2_with fail
  (try rw [hw1])
  clear hw1
  (go_wp2_with fail; go_fit (HN.out _ hb1); rintro e w2 ⟨rfl, hb2⟩)
  obtain ⟨w3, hw3, hb3, hz3, hx3⟩ := box_new w2 #[.int .i64 (x.1.kind : Int), .string ⟨x.1.text.toArray⟩, .int .i64 (x.1.n : Int), .bool x.1.opens, .int .i64 (x.2 : Int)] 125
  obtain ⟨r0, r1, r2, r3, r4, rf⟩ := ((hx1.ext hb2).ext hb3).five
  obtain ⟨d0, d1, d2, d3, d4, df⟩ := hx3.five
  have HB3 := Lib.hid (Ext.trans' (Ext.trans' hb1 hb2) hb3)
  clear hb1 hb2 hb3 HN hx1 hx3 r2 r3 rf d1 d2 d3 df
  obtain ⟨qk, hqk⟩ : ∃ k, q.1.kind = k := ⟨_, rfl⟩
  obtain ⟨xk, hxk⟩ : ∃ k, x.1.kind = k := ⟨_, rfl⟩
  obtain ⟨qt, hqt⟩ : ∃ k, q.1.text = k := ⟨_, rfl⟩
  obtain ⟨qa, hqa⟩ : ∃ k, q.2 = k := ⟨_, rfl⟩
  obtain ⟨xa, hxa⟩ : ∃ k, x.2 = k := ⟨_, rfl⟩
  have hm := HM.out
  unfold isMinusR at hm
  rw [hqk, hxk, hqt, hqa, hxa] at hm
  rw [hqk] at r0
  rw [hqt] at r1
  rw [hqa] at r4 hq2
  rw [hxk] at d0
  rw [hxa] at d4
  clear HM hqk hxk hqt hqa hxa
  by_cases h1 : qk = 1
  · have k1 : ((qk : Int) == 1) = true := by rw [h1]; rfl
    by_cases h2 : qt = [45]
    · have k2 : (qt == [45]) = true := by rw [h2]; rfl
      by_cases h3 : xk = 4
      · have k3 : ((xk : Int) == 4) = true := by rw [h3]; rfl
        have hM : Hid (m = ((xa : Int) == (qa : Int) + 1)) := Lib.hid (by rw [← hm, h1, h2, h3]; simp)
        have hw : IntKind.i64.wrap ((qa : Int) + 1) = (qa : Int) + 1 := by rw [IntKind.wrap_i64]; omega
        clear hm h1 h2 h3
        go_wp2_with fail
        (try rw [hw3])
        clear hw3
        go_wp2
        go_ret
        exact ⟨ret_bool hM.out.symm, HB3.out⟩
      · have k3 : ((xk : Int) == 4) = false := beq_false_of_ne (by omega)
        have hM : Hid (m = false) := Lib.hid (by rw [← hm, h1, h2]; simp [h3])
        clear hm h1 h2 h3
        go_wp2_with fail
        (try rw [hw3])
        clear hw3
        go_wp2
        go_ret
        exact ⟨ret_bool hM.out.symm, HB3.out⟩
    · have k2 : (qt == [45]) = false := beq_false_of_ne h2
      have hM : Hid (m = false) := Lib.hid (by rw [← hm, h1]; simp [k2])
      clear hm h1 h2
      go_wp2_with fail
      (try rw [hw3])
      clear hw3
      go_wp2
      go_ret
      exact ⟨ret_bool hM.out.symm, HB3.out⟩
  · have k1 : ((qk : Int) == 1) = false := beq_false_of_ne (by omega)
    have hM : Hid (m = false) := Lib.hid (by rw [← hm]; simp [h1])
    clear hm h1
    go_wp2_with fail
    (try rw [hw3])
    clear hw3
    go_wp2
    go_ret
    exact ⟨ret_bool hM.out.symm, HB3.out⟩
theorem box_three (w : World) (v0 v1 v2 : Value) (ty : TypeId) {w' : World} (hb : Below (w.alloc (.cells #[v0, v1, v2] ty)).heap.size (w.alloc (.cells #[v0, v1, v2] ty)) w') : w'.cell? ⟨w.heap.size, 0, none⟩ = some v0 ∧ w'.cell? ⟨w.heap.size, 1, none⟩ = some v1 ∧ w'.cell? ⟨w.heap.size, 2, none⟩ = some v2 ∧ ∀ j, w'.frozen? ⟨w.heap.size, j, none⟩ = false := by
  obtain ⟨w1, rfl, _, _, h⟩ := box_new w #[v0, v1, v2] ty
  exact (h.ext hb).three
set_option maxHeartbeats 1000000 in
theorem begins_name {D M : Nat → Bool} {w : World} {rb : Nat} {xs : List O} {s : RS} (h : St D M w rb xs s) (x : TokP) (hx : headR s = x) (hk : x.1.kind = 1 ∨ x.1.kind = 2) :
    Calls Tryz.prog 119 #[.pointer (some ⟨rb, 0, none⟩)] w fun e w' => e = .returned (.bool (x.1.opens || ((oneB xs x.1.text 1).2 || !(betweenR (betO xs) x).2))) ∧ Below w.heap.size w w' := by
  have HN := Lib.hid (next_at h)
  have HBt := Lib.hid (fun wq hq => between_at (h.later (w' := wq) hq))
  rw [hx] at HN HBt
  have HP := Lib.hid (fun wq (hb : Below w.heap.size w wq) (v : Value) (hv : Ops wq v xs) => pre_walk hv ⟨x.1.text.toArray⟩)
  obtain ⟨⟨⟨yn, yk, yl⟩, yg⟩, hy⟩ : ∃ y, oneB xs x.1.text 1 = y := ⟨_, rfl⟩
  rw [show bl (⟨x.1.text.toArray⟩ : ByteArray) = x.1.text from rfl, hy] at HP
  obtain ⟨⟨⟨zn, zk, zl⟩, zg⟩, hz⟩ : ∃ z, betweenR (betO xs) x = z := ⟨_, rfl⟩
  rw [hz] at HBt
  rw [hz, hy]
  have H := Lib.hid h
  have hlt := h.lt
  obtain ⟨xo, hxo⟩ : ∃ o, x.1.opens = o := ⟨_, rfl⟩
  have HXO := Lib.hid hxo
  rw [hxo]
  clear h hx hy hz hxo
  have hk' : ((x.1.kind : Int) == 1) = true ∨ (((x.1.kind : Int) == 1) = false ∧ ((x.1.kind : Int) == 2) = true) := by
    rcases hk with hk | hk
    · left; rw [hk]; rfl
    · right; rw [hk]; exact ⟨rfl, rfl⟩
  clear hk
  go_enter Tryz.func119, Tryz.ntmps119
  (go_wp2_with fail; go_fit (HN.out); rintro e w2 ⟨rfl, hb2⟩)
  obtain ⟨w3, hw3, hb3, hz3, hx3⟩ := box_new w2 #[.int .i64 (x.1.kind : Int), .string ⟨x.1.text.toArray⟩, .int .i64 (x.1.n : Int), .bool x.1.opens, .int .i64 (x.2 : Int)] 125
  obtain ⟨d0, d1, d2, d3, d4, df⟩ := hx3.five
  have HX := Lib.hid hx3
  have HB3 := Lib.hid (Ext.trans' hb2 hb3)
  obtain ⟨vo, _, _, p0, _, _, _, _, po, _⟩ := (H.out.later HB3.out).parts
  have PO := Lib.hid po.bare
  clear hb2 hb3 HN hx3 po d2 d4 df
  rw [HXO.out] at d3
  have hsz2 := HB3.out.size
  have hn1 : rb ≠ w3.heap.size := (World.new_ne w3 _ p0).symm
  have hn2 : w2.heap.size ≠ w3.heap.size := (World.new_ne w3 _ d1).symm
  clear hz3 hsz2
  rcases hk' with hk1 | ⟨hk1, hk2⟩
  all_goals
    go_wp2_with fail
    (try rw [hw3])
    clear hw3
    go_wp2_with fail
    refine wp_region_held_drew (S := fun w' => (w'.cell? ⟨rb, 0, none⟩ = some vo ∧ w'.cell? ⟨w2.heap.size, 1, none⟩ = some (.string ⟨x.1.text.toArray⟩)) ∧ Below w3.heap.size w3 w') (by kernel_rfl) ⟨⟨p0, d1⟩, (Below.refl _ _).drew⟩ (fun hHeld => ?_)
    first | (refine held_t (i := 0) hHeld ?_; apply Exists.intro; refine ⟨fun wq hq => ?_, ?_⟩; (focus ((try dsimp only at hq); go_simp; (first | done | with_reducible rfl | fail)))) | refine held_s (i := 0) hHeld ?_ | fail
    first | (refine held_t (i := 1) hHeld ?_; apply Exists.intro; refine ⟨fun wq hq => ?_, ?_⟩; (focus ((try dsimp only at hq); go_simp; (first | done | with_reducible rfl | fail)))) | refine held_s (i := 1) hHeld ?_ | fail
    first | (refine held_t (i := 2) hHeld ?_; apply Exists.intro; refine ⟨fun wq hq => ?_, ?_⟩; (focus ((try dsimp only at hq); go_simp; (first | done | with_reducible rfl | fail)))) | refine held_s (i := 2) hHeld ?_ | fail
    first | (refine held_t (i := 3) hHeld ?_; apply Exists.intro; refine ⟨fun wq hq => ?_, ?_⟩; (focus ((try dsimp only at hq); go_simp; (first | done | with_reducible rfl | fail)))) | refine held_s (i := 3) hHeld ?_ | fail
    first | (refine held_t (i := 4) hHeld ?_; apply Exists.intro; refine ⟨fun wq hq => ?_, ?_⟩; (focus ((try dsimp only at hq); go_simp; (first | done | with_reducible rfl | fail)))) | refine held_s (i := 4) hHeld ?_ | fail
    first | (refine held_t (i := 5) hHeld ?_; apply Exists.intro; refine ⟨fun wq hq => ?_, ?_⟩; (focus ((try dsimp only at hq); go_simp; (first | done | with_reducible rfl | fail)))) | refine held_s (i := 5) hHeld ?_ | fail
    try simp only [Act.put, List.setIfInBounds_toArray, List.set_cons_zero, List.set_cons_succ]
    refine wpAnyH_ready (rs := [6, 10]) (by kernel_rfl) (by simp) ?_
    refine AllReadyH.cons (by simp only [List.getElem?_toArray, List.getElem?_cons_zero, List.getElem?_cons_succ]; rfl) (fun K hK => ?_) (AllReadyH.cons (by simp only [List.getElem?_toArray, List.getElem?_cons_zero, List.getElem?_cons_succ]; rfl) (fun K hK => ?_) AllReadyH.nil)
    · go_simp
      (go_at_call 118; refine (HP.out _ (Ext.trans' HB3.out hHeld.2) _ (PO.out.ext hHeld.2)).mono ?_; rintro e w4 ⟨rfl, hb4⟩)
      refine hK.out _ _ (⟨⟨cell_later hb4 hHeld.1.1, cell_later hb4 hHeld.1.2⟩, Ext.trans' hHeld.2 hb4⟩) (fun hHeld => ?_)
      clear hK K
      try simp only [Act.put, List.setIfInBounds_toArray, List.set_cons_zero, List.set_cons_succ]
      have hS4 := hHeld
      first | (refine held_t (i := 7) hHeld ?_; apply Exists.intro; refine ⟨fun wq hq => ?_, ?_⟩; (focus ((try dsimp only at hq); go_simp; (first | done | with_reducible rfl | fail)))) | refine held_s (i := 7) hHeld ?_ | fail
      first | (refine held_t (i := 8) hHeld ?_; apply Exists.intro; refine ⟨fun wq hq => ?_, ?_⟩; (focus ((try dsimp only at hq); go_simp; (first | done | with_reducible rfl | fail)))) | refine held_s (i := 8) hHeld ?_ | fail
      first | (refine held_t (i := 9) hHeld ?_; apply Exists.intro; refine ⟨fun wq hq => ?_, ?_⟩; (focus ((try dsimp only at hq); go_simp; (first | done | with_reducible rfl | fail)))) | refine held_s (i := 9) hHeld ?_ | fail
      try simp only [Act.put, List.setIfInBounds_toArray, List.set_cons_zero, List.set_cons_succ]
      refine held_c 10 fun K hK => ?_
      go_simp
      skip
      refine hK.out _ _ (⟨⟨cell_later (bel1' _ _) hHeld.1.1, cell_later (bel1' _ _) hHeld.1.2⟩, Ext.trans' hHeld.2 (bel1' _ _)⟩) (fun hHeld => ?_)
      clear hK K
      try simp only [Act.put, List.setIfInBounds_toArray, List.set_cons_zero, List.set_cons_succ]
      refine held_c 11 fun K hK => ?_
      go_simp
      skip
      refine hK.out _ _ (⟨⟨cell_later (bel1' _ _) hS4.1.1, cell_later (bel1' _ _) hS4.1.2⟩, Ext.trans' hS4.2 (bel1' _ _)⟩) (fun hHeld => ?_)
      clear hK K
      try simp only [Act.put, List.setIfInBounds_toArray, List.set_cons_zero, List.set_cons_succ]
      first | (refine held_t (i := 12) hHeld ?_; apply Exists.intro; refine ⟨fun wq hq => ?_, ?_⟩; (focus ((try dsimp only at hq); go_simp; (first | done | with_reducible rfl | fail)))) | refine held_s (i := 12) hHeld ?_ | fail
      try simp only [Act.put, List.setIfInBounds_toArray, List.set_cons_zero, List.set_cons_succ]
      refine wpAnyH_done (by kernel_rfl) ?_ _
      generalize hw5 : World.alloc w4 (.cells #[.string yn, .string yk, .int .i64 yl] 93) = w5 at *
      clear hw5
      have HB5 := Lib.hid (Ext.trans' HB3.out hHeld.2)
      have d3 := cell_later hHeld.2 d3
      clear hHeld hS4 hb4 p0 d0 d1 hn1 hn2
      (go_wp2_with fail; go_fit (HBt.out _ HB5.out); rintro e w6 ⟨rfl, hb6⟩)
      obtain ⟨w7, hw7, hb7, _, _⟩ := box_new w6 #[.string zn, .string zk, .int .i64 zl] 93
      have d3 := cell_later hb7 (cell_later hb6 d3)
      have HB7 := Lib.hid (Ext.trans' (Ext.trans' HB5.out hb6) hb7)
      clear hb6 hb7
      go_wp2_with fail
      (try rw [hw7])
      clear hw7
      go_wp2
      all_goals (go_ret; exact ⟨ret_bool (by simp [*]), HB7.out⟩)
    · go_simp
      skip
      refine hK.out _ _ (⟨⟨cell_later (bel1' _ _) hHeld.1.1, cell_later (bel1' _ _) hHeld.1.2⟩, Ext.trans' hHeld.2 (bel1' _ _)⟩) (fun hHeld => ?_)
      clear hK K
      try simp only [Act.put, List.setIfInBounds_toArray, List.set_cons_zero, List.set_cons_succ]
      refine held_c 6 fun K hK => ?_
      go_simp
      (go_at_call 118; refine (HP.out _ (Ext.trans' HB3.out hHeld.2) _ (PO.out.ext hHeld.2)).mono ?_; rintro e w4 ⟨rfl, hb4⟩; obtain ⟨e0, e1, e2, ef⟩ : w4.cell? ⟨w3.heap.size, 0, none⟩ = some (.string ⟨#[]⟩) ∧ w4.cell? ⟨w3.heap.size, 1, none⟩ = some (.string ⟨#[]⟩) ∧ w4.cell? ⟨w3.heap.size, 2, none⟩ = some (.int .i64 0) ∧ ∀ j, w4.frozen? ⟨w3.heap.size, j, none⟩ = false := box_three w3.drew _ _ _ _ hb4)
      refine hK.out _ _ (⟨⟨cell_later hb4 hHeld.1.1, cell_later hb4 hHeld.1.2⟩, Ext.trans' hHeld.2 hb4⟩) (fun hHeld => ?_)
      clear hK K
      try simp only [Act.put, List.setIfInBounds_toArray, List.set_cons_zero, List.set_cons_succ]
      first | (refine held_t (i := 7) hHeld ?_; apply Exists.intro; refine ⟨fun wq hq => ?_, ?_⟩; (focus ((try dsimp only at hq); go_simp; (first | done | with_reducible rfl | fail)))) | refine held_s (i := 7) hHeld ?_ | fail
      first | (refine held_t (i := 8) hHeld ?_; apply Exists.intro; refine ⟨fun wq hq => ?_, ?_⟩; (focus ((try dsimp only at hq); go_simp; (first | done | with_reducible rfl | fail)))) | refine held_s (i := 8) hHeld ?_ | fail
      first | (refine held_t (i := 9) hHeld ?_; apply Exists.intro; refine ⟨fun wq hq => ?_, ?_⟩; (focus ((try dsimp only at hq); go_simp; (first | done | with_reducible rfl | fail)))) | refine held_s (i := 9) hHeld ?_ | fail
      try simp only [Act.put, List.setIfInBounds_toArray, List.set_cons_zero, List.set_cons_succ]
      refine held_c 11 fun K hK => ?_
      go_simp
      skip
      refine hK.out _ _ (⟨⟨far3 hHeld.1.1 hn1 _ _ _, far3 hHeld.1.2 hn2 _ _ _⟩, Below.set3 hHeld.2 (Nat.le_refl _) _ _ _⟩) (fun hHeld => ?_)
      clear hK K
      try simp only [Act.put, List.setIfInBounds_toArray, List.set_cons_zero, List.set_cons_succ]
      first | (refine held_t (i := 12) hHeld ?_; apply Exists.intro; refine ⟨fun wq hq => ?_, ?_⟩; (focus ((try dsimp only at hq); go_simp; (first | done | with_reducible rfl | fail)))) | refine held_s (i := 12) hHeld ?_ | fail
      try simp only [Act.put, List.setIfInBounds_toArray, List.set_cons_zero, List.set_cons_succ]
      refine wpAnyH_done (by kernel_rfl) ?_ _
      generalize hw5 : World.setCell _ ⟨w3.heap.size, 2, none⟩ _ = w5 at *
      clear hw5
      have HB5 := Lib.hid (Ext.trans' HB3.out hHeld.2)
      have d3 := cell_later hHeld.2 d3
      clear hHeld hb4 p0 d0 d1 hn1 hn2 e0 e1 e2 ef
      (go_wp2_with fail; go_fit (HBt.out _ HB5.out); rintro e w6 ⟨rfl, hb6⟩)
      obtain ⟨w7, hw7, hb7, _, _⟩ := box_new w6 #[.string zn, .string zk, .int .i64 zl] 93
      have d3 := cell_later hb7 (cell_later hb6 d3)
      have HB7 := Lib.hid (Ext.trans' (Ext.trans' HB5.out hb6) hb7)
      clear hb6 hb7
      go_wp2_with fail
      (try rw [hw7])
      clear hw7
      go_wp2
      all_goals (go_ret; exact ⟨ret_bool (by simp [*]), HB7.out⟩)
theorem begins_rest {D M : Nat → Bool} {w : World} {rb : Nat} {xs : List O} {s : RS} (h : St D M w rb xs s) (x : TokP) (hx : headR s = x) (h1 : ¬ x.1.kind = 1) (h2 : ¬ x.1.kind = 2) :
    Calls Tryz.prog 119 #[.pointer (some ⟨rb, 0, none⟩)] w fun e w' => e = .returned (.bool (if x.1.kind = 3 ∨ x.1.kind = 4 then true else if x.1.kind = 5 then x.1.text == [40] || (x.1.text == [91] || x.1.text == [123]) else false)) ∧ Below w.heap.size w w' := by
  have HN := Lib.hid (next_at h)
  rw [hx] at HN
  obtain ⟨m, hm⟩ : ∃ m, (if x.1.kind = 3 ∨ x.1.kind = 4 then true else if x.1.kind = 5 then x.1.text == [40] || (x.1.text == [91] || x.1.text == [123]) else false) = m := ⟨_, rfl⟩
  rw [hm]
  have HM := Lib.hid hm
  clear h hx hm
  have k1 : ((x.1.kind : Int) == 1) = false := beq_false_of_ne (by omega)
  have k2 : ((x.1.kind : Int) == 2) = false := beq_false_of_ne (by omega)
  clear h1 h2
  go_enter Tryz.func119, Tryz.ntmps119
  (go_wp2_with fail; go_fit (HN.out); rintro e w2 ⟨rfl, hb2⟩)
  obtain ⟨w3, hw3, hb3, hz3, hx3⟩ := box_new w2 #[.int .i64 (x.1.kind : Int), .string ⟨x.1.text.toArray⟩, .int .i64 (x.1.n : Int), .bool x.1.opens, .int .i64 (x.2 : Int)] 125
  obtain ⟨d0, d1, d2, d3, d4, df⟩ := hx3.five
  have HB3 := Lib.hid (Ext.trans' hb2 hb3)
  clear hb2 hb3 HN hx3
  by_cases h3 : x.1.kind = 3
  · have hE : Hid (m = true) := Lib.hid (by rw [← HM.out, if_pos (Or.inl h3)])
    have k3 : ((x.1.kind : Int) == 3) = true := by rw [h3]; rfl
    clear h3
    go_wp2_with fail
    (try rw [hw3])
    clear hw3
    go_wp2
    go_ret
    exact ⟨ret_bool hE.out.symm, HB3.out⟩
  have k3 : ((x.1.kind : Int) == 3) = false := beq_false_of_ne (by omega)
  by_cases h4 : x.1.kind = 4
  · have hE : Hid (m = true) := Lib.hid (by rw [← HM.out, if_pos (Or.inr h4)])
    have k4 : ((x.1.kind : Int) == 4) = true := by rw [h4]; rfl
    clear h3 h4
    go_wp2_with fail
    (try rw [hw3])
    clear hw3
    go_wp2
    go_ret
    exact ⟨ret_bool hE.out.symm, HB3.out⟩
  have k4 : ((x.1.kind : Int) == 4) = false := beq_false_of_ne (by omega)
  have hm := HM.out
  rw [if_neg (by rintro (h | h) <;> contradiction)] at hm
  have HM := Lib.hid hm
  clear hm h3 h4
  by_cases h5 : x.1.kind = 5
  · have k5 : ((x.1.kind : Int) == 5) = true := by rw [h5]; rfl
    have hE : Hid ((x.1.text == [40] || (x.1.text == [91] || x.1.text == [123])) = m) := Lib.hid (by rw [← HM.out, if_pos h5])
    clear h5 HM
    cases t1 : (x.1.text == [40])
    · cases t2 : (x.1.text == [91])
      · go_wp2_with fail
        (try rw [hw3])
        clear hw3
        go_wp2
        go_ret
        exact ⟨ret_bool (by rw [← hE.out, t1, t2]; simp), HB3.out⟩
      · go_wp2_with fail
        (try rw [hw3])
        clear hw3
        go_wp2
        go_ret
        exact ⟨ret_bool (by rw [← hE.out, t1, t2]; simp), HB3.out⟩
    · go_wp2_with fail
      (try rw [hw3])
      clear hw3
      go_wp2
      go_ret
      exact ⟨ret_bool (by rw [← hE.out, t1]; simp), HB3.out⟩
  · have hE : Hid (m = false) := Lib.hid (by rw [← HM.out, if_neg h5])
    have k5 : ((x.1.kind : Int) == 5) = false := beq_false_of_ne (by omega)
    clear h5
    go_wp2_with fail
    (try rw [hw3])
    clear hw3
    go_wp2
    go_ret
    exact ⟨ret_bool hE.out.symm, HB3.out⟩
theorem begins_at {D M : Nat → Bool} {w : World} {rb : Nat} {xs : List O} {s : RS} (h : St D M w rb xs s) :
    Calls Tryz.prog 119 #[.pointer (some ⟨rb, 0, none⟩)] w fun e w' => e = .returned (.bool (beginsR (preO xs) (betO xs) (headR s))) ∧ Below w.heap.size w w' := by
  unfold beginsR
  by_cases hk : (headR s).1.kind = 1 ∨ (headR s).1.kind = 2
  · rw [if_pos hk]
    exact begins_name h _ rfl hk
  · rw [if_neg hk]
    exact begins_rest h _ rfl (fun e => hk (Or.inl e)) (fun e => hk (Or.inr e))
end Go.Proofs.YtaojalicnnnkmaaGreatDoor
/- The project's reader: variable: where a name stands. -/
namespace Go.Proofs.YtaojalicnnnkmaaGreatDoor
open Go.Shelf Go.RowKit
set_option linter.unusedVariables false

theorem pred_nm (name : List UInt8) (b1 : Nat) (w : World) (h1 : w.cell? ⟨b1, 0, none⟩ = some (.string ⟨name.toArray⟩)) (y : NmP) :
    Calls Tryz.prog 121 #[.agg #[.string ⟨y.1.toArray⟩, .int .i64 (y.2 : Int)], .pointer (some ⟨b1, 0, none⟩)] w fun e w' => e = .returned (.bool (y.1 == name)) ∧ Below w.heap.size w w' := by
  have n1 : b1 ≠ w.heap.size := (World.new_ne w _ h1).symm
  have l1 : b1 < w.heap.size := World.block_lt_of_cell? _ _ h1
  obtain ⟨t, ht⟩ : ∃ t, (y.1 == name) = t := ⟨_, rfl⟩
  rw [ht]
  cases t
  all_goals
    go_enter Tryz.func121, Tryz.ntmps121
    go_wp2_with fail
    (try (go_quiet (fail)))
    go_wp2
    go_ret
    exact ⟨rfl, by first | exact bel1' _ _ | exact bel_drewN (bel1' _ _) _⟩
theorem nm_none (a : Option Addr) (c : Nat) (f : Value) (w : World) : Calls Tryz.prog 120 #[.slice a 0 c, f] w fun e w' => e = .returned (.int .i64 (-1)) ∧ w = w' := by
  go_enter Tryz.func120, Tryz.ntmps120
  go_wp2_with fail
  refine wp_loop_rounds 1 ?_
  rw [rounds_succ]
  go_wp2
  go_ret
  exact ⟨rfl, rfl⟩
def nmAt (xs : List NmP) (n : List UInt8) : Int := Lib.idxBy (fun _ y => y.1 == n) xs default
theorem nm_cases (xs : List NmP) (n : List UInt8) :
    (nmAt xs n = -1 ∧ xs.find? (fun p => p.1 == n) = none) ∨ (∃ (k : Nat) (x : NmP), nmAt xs n = k ∧ xs[k]? = some x ∧ xs.find? (fun p => p.1 == n) = some x) := by
  suffices h : ∀ (xs : List NmP) (i : Nat), (Lib.idxByFrom (fun _ y => y.1 == n) default xs i = -1 ∧ xs.find? (fun p => p.1 == n) = none) ∨
      (∃ (k : Nat) (x : NmP), Lib.idxByFrom (fun _ y => y.1 == n) default xs i = ((i + k : Nat) : Int) ∧ xs[k]? = some x ∧ xs.find? (fun p => p.1 == n) = some x) by
    rcases h xs 0 with h | ⟨k, x, h1, h2⟩
    · exact Or.inl h
    · exact Or.inr ⟨k, x, by rw [Nat.zero_add] at h1; exact h1, h2⟩
  intro xs
  induction xs with
  | nil => intro i; exact Or.inl ⟨rfl, rfl⟩
  | cons a r ih =>
    intro i
    cases ha : (a.1 == n)
    · rcases ih (i + 1) with ⟨h1, h2⟩ | ⟨k, x, h1, h2, h3⟩
      · exact Or.inl ⟨by simp only [Lib.idxByFrom, ha]; exact h1, by rw [List.find?_cons, ha]; exact h2⟩
      · exact Or.inr ⟨k + 1, x, by simp only [Lib.idxByFrom, ha]; rw [show i + (k + 1) = i + 1 + k by omega]; exact h1, by simpa using h2, by rw [List.find?_cons, ha]; exact h3⟩
    · exact Or.inr ⟨0, a, by simp [Lib.idxByFrom, ha], rfl, by rw [List.find?_cons, ha]⟩
theorem nm_at {W : World} {v : Value} {xs : List NmP} (h : Nms W v xs) (name : List UInt8) (b1 : Nat) (h1 : W.cell? ⟨b1, 0, none⟩ = some (.string ⟨name.toArray⟩)) :
    Calls Tryz.prog 120 #[v, .func (.func 121) #[] #[.pointer (some ⟨b1, 0, none⟩)]] W fun e w' => e = .returned (.int .i64 (nmAt xs name)) ∧ Below W.heap.size W w' := by
  obtain ⟨a, cap, rfl, l1, l2, l3⟩ := h
  rcases l3 with rfl | ⟨b, off, rfl, hb, hc⟩
  · exact (nm_none a cap _ W).mono fun e w' ⟨he, hw⟩ => ⟨he, hw ▸ Below.refl _ _⟩
  · have eg : ∀ args w, (callFunc 121 args).run Tryz.prog w = .ok (.enter 121 args) w := enters_of Tryz.func121 (by kernel_rfl) rfl
    have hcon := AnyQ.slices_IndexFunc Tryz.indexNm 2 Tryz.isAgg179 Tryz.sizeOf179 nmCells nmCells_len (fun y => y.1 == name) 121 #[.pointer (some ⟨b1, 0, none⟩)] eg b off xs.length cap xs W
      (fun W' y hb' => by
        have c1 : W'.cell? ⟨b1, 0, none⟩ = some (.string ⟨name.toArray⟩) := cell_later hb' h1
        refine (pred_nm name b1 W' c1 y).mono ?_
        rintro e w' ⟨rfl, hq⟩
        exact ⟨rfl, hb'.trans (hq.mono hb'.size)⟩)
      (Nat.le_refl _) (by unfold maxLen at l2; omega) hb
      (fun j hj i u hi => by
        have hg : xs[j]? = some xs[j]! := by rw [List.getElem!_eq_getElem?_getD, List.getElem?_eq_getElem hj]; rfl
        have := hc j _ hg i u hi
        rw [← Nat.add_assoc] at this
        exact this)
    rw [List.take_length] at hcon
    exact hcon
end Go.Proofs.YtaojalicnnnkmaaGreatDoor
/- The project's reader: variable. -/
namespace Go.Proofs.YtaojalicnnnkmaaGreatDoor
open Go.Shelf Go.RowKit
set_option linter.unusedVariables false

def withB (D : Nat → Bool) (v : Value) : Nat → Bool := fun k => D k || v.ownBlock == some k
theorem withB_of {D : Nat → Bool} {v : Value} {k : Nat} (h : D k = true) : withB D v k = true := by simp [withB, h]
theorem withB_own {D : Nat → Bool} {v : Value} {k : Nat} (h : v.ownBlock = some k) : withB D v k = true := by simp [withB, h]
theorem withB_no {D : Nat → Bool} {v : Value} {k : Nat} (h : v.ownBlock ≠ some k) : withB D v k = D k := by simp [withB, h]
/-- Another number. -/
theorem St.num {D M : Nat → Bool} {w : World} {rb : Nat} {xs : List O} {s s' : RS} (h : St D M w rb xs s) (e1 : s'.rest = s.rest) (e2 : s'.names = s.names) (hn : Nice s') : St D M (w.setCell ⟨rb, 2, none⟩ (.int .i64 (s'.next : Int))) rb xs s' := by
  have hs : Stays (hide D w) (hide D (w.setCell ⟨rb, 2, none⟩ (.int .i64 (s'.next : Int)))) := Stays.set _ _ (h.md rb h.mb)
  obtain ⟨vo, o1, o2⟩ := h.co
  obtain ⟨vl0, l1, l2⟩ := h.cl
  obtain ⟨vn, n1, n2, n3⟩ := h.c3
  exact { mb := h.mb, md := h.md, old := h.old.mono (by simp [World.setCell])
          co := ⟨vo, by rw [near_cell (by decide)]; exact o1, Elems.stay o2 hs⟩
          cl := ⟨vl0, by rw [near_cell (by decide)]; exact l1, by rw [e1]; exact Elems.stay l2 hs⟩
          c2 := css h.c2
          c3 := ⟨vn, by rw [near_cell (by decide)]; exact n1, by rw [e2]; exact row_at n2 (fun g hg => Below.heap_setCell w _ _ g (fun e => by have := (row_in n2 hg).1; simp only at e; omega)), n3⟩
          fz := fun j => by rw [World.frozen?_setCell]; exact h.fz j
          nice := hn }
/-- One more name. -/
theorem St.name {D M : Nat → Bool} {w w5 : World} {rb : Nat} {xs : List O} {s s' : RS} {vn v' : Value} (h : St D M w rb xs s) (e1 : s'.rest = s.rest) (e2 : s'.next = s.next) (hn : Nice s')
    (hv : w.cell? ⟨rb, 3, none⟩ = some vn) (hM : ∀ k, vn.ownBlock = some k → M k = true) (hrb : ∀ k, vn.ownBlock = some k → rb < k) (hot : Below 0 w w5) (hsz : w.heap.size ≤ w5.heap.size) (hk : ∀ k, k < w.heap.size → vn.ownBlock ≠ some k → w5.heap[k]? = w.heap[k]?)
    (hown : w5.ownsRow (rb + 1) 179 2 v' s'.names.length (s'.names.flatMap nmCells)) (hb : v'.ownBlock = vn.ownBlock ∨ ∃ k, w.heap.size ≤ k ∧ v'.ownBlock = some k) :
    St (withB D v') (withB M v') (w5.setCell ⟨rb, 3, none⟩ v') rb xs s' ∧ Turn D M (withB D v') (withB M v') w (w5.setCell ⟨rb, 3, none⟩ v') := by
  have hlt := h.lt
  have hrn : vn.ownBlock ≠ some rb := fun e => by have := hrb rb e; omega
  have hold : ∀ k, k < w.heap.size → v'.ownBlock = some k → M k = true := fun k hk' e => by
    rcases hb with hb | ⟨g, hg, hb⟩
    · exact hM k (by rw [← hb]; exact e)
    · rw [hb] at e; cases e; omega
  have hkeep : ∀ k, k < w.heap.size → M k = false → (w5.setCell ⟨rb, 3, none⟩ v').heap[k]? = w.heap[k]? := fun k hk' hm => by
    rw [Below.heap_setCell w5 _ _ k (fun e => by simp only at e; rw [e, h.mb] at hm; cases hm)]
    exact hk k hk' (fun e => by rw [hM k e] at hm; cases hm)
  have hdd : ∀ k, k < w.heap.size → withB D v' k = D k := fun k hk' => by
    by_cases e : v'.ownBlock = some k
    · rw [withB_own e, h.md k (hold k hk' e)]
    · exact withB_no e
  have hmm : ∀ k, k < w.heap.size → withB M v' k = M k := fun k hk' => by
    by_cases e : v'.ownBlock = some k
    · rw [withB_own e, hold k hk' e]
    · exact withB_no e
  have hs5 : (w5.setCell ⟨rb, 3, none⟩ v').heap.size = w5.heap.size := by simp [World.setCell]
  have ht : Turn D M (withB D v') (withB M v') w (w5.setCell ⟨rb, 3, none⟩ v') := ⟨by rw [hs5]; exact hsz, hdd, hmm, hkeep, hot.setCell (Nat.zero_le _) _⟩
  have hst := ht.stays h.md
  have hr : ∀ j u, w.cell? ⟨rb, j, none⟩ = some u → w5.cell? ⟨rb, j, none⟩ = some u := fun j u hu => by rw [World.cell?_of_block (hk rb hlt hrn)]; exact hu
  obtain ⟨vo, o1, o2⟩ := h.co
  obtain ⟨vl0, l1, l2⟩ := h.cl
  refine ⟨{ mb := withB_of h.mb, md := fun k hm => ?_, old := fun k hk' => ?_, co := ⟨vo, by rw [near_cell (by decide)]; exact hr _ _ o1, Elems.stay o2 hst⟩
            cl := ⟨vl0, by rw [near_cell (by decide)]; exact hr _ _ l1, by rw [e1]; exact Elems.stay l2 hst⟩
            c2 := by rw [near_cell (by decide), e2]; exact hr _ _ h.c2
            c3 := ⟨v', css (hr _ _ hv), row_at hown (fun g hg => Below.heap_setCell w5 _ _ g (fun e => by have := (row_in hown hg).1; simp only at e; omega)), fun k e => withB_own e⟩
            fz := fun j => by rw [World.frozen?_setCell, World.frozen?_of_block (hk rb hlt hrn)]; exact h.fz j
            nice := hn }, ht⟩
  · by_cases e : v'.ownBlock = some k
    · exact withB_own e
    · rw [withB_no e] at hm; exact withB_of (h.md k hm)
  · rw [hs5] at hk'
    rw [withB_no (fun e => by have := (row_in hown e).2; omega)]
    exact h.old k (by omega)
theorem with_plus (D : Nat → Bool) (v : Value) (b : Nat) : withB (plusB D b) v = plusB (withB D v) b := by
  funext k
  simp [withB, plusB, Bool.or_assoc]
theorem Box.block {w w' : World} {b : Nat} {vs : List Value} (h : Box w b vs) (hb : w'.heap[b]? = w.heap[b]?) (hlt : b < w'.heap.size) : Box w' b vs :=
  ⟨fun j u hu => by rw [World.cell?_of_block hb]; exact h.cells j u hu, fun j => by rw [World.frozen?_of_block hb]; exact h.fz j, hlt⟩
theorem infoNm : (Tryz.prog.info? 179).map (fun i => (i.zero, i.size, i.bytes)) = some (some (.agg #[.string ⟨#[]⟩, .int .i64 0]), 2, 24) := by kernel_rfl
theorem vT_at (w : World) (n : Nat) (hn : n ≤ 100000) : TmV w (vT n) (.agg #[.int .i64 0, .int .i64 (n : Int), .string ⟨#[]⟩, .slice none 0 0]) := leaf_tm w i64_0 (by unfold I64; omega) (by decide)
set_option maxHeartbeats 1000000 in
theorem var_hit {D M : Nat → Bool} {w : World} {rb : Nat} {xs : List O} {s : RS} (h : St D M w rb xs s) (name : List UInt8) (k : Nat) (x : NmP) (hk : nmAt s.names name = k) (hx : s.names[k]? = some x) :
    Calls Tryz.prog 97 #[.pointer (some ⟨rb, 0, none⟩), .string ⟨name.toArray⟩] w fun e w' => e = .returned (.agg #[.int .i64 0, .int .i64 (x.2 : Int), .string ⟨#[]⟩, .slice none 0 0]) ∧ Below w.heap.size w w' := by
  obtain ⟨w1, hw1, hb1, hz1, hx1⟩ := box_new w #[.string ⟨name.toArray⟩] 9
  obtain ⟨w2, hw2, hb2, hz2, hx2⟩ := box_new w1 #[.int .i64 0, .int .i64 0, .string ⟨#[]⟩, .slice none 0 0] 31
  have HB2 := Lib.hid (Ext.trans' hb1 hb2)
  obtain ⟨_, _, vn, _, _, _, p3, pf, _, _, pn, _⟩ := (h.later HB2.out).parts
  have hnm : Nms w2 vn s.names := Elems.owned nmCells_len pn
  have HNm := Lib.hid hnm
  have c1 := (hx1.ext hb2).cells 0 _ rfl
  have HI := Lib.hid (nm_at hnm name w.heap.size c1)
  rw [hk] at HI
  obtain ⟨a, c, e, l1, l2, l3⟩ := hnm
  subst e
  obtain ⟨n, hn⟩ : ∃ n, s.names.length = n := ⟨_, rfl⟩
  have hkn : k < n := by rw [← hn]; exact (List.getElem?_eq_some_iff.1 hx).1
  rw [hn] at p3 l1 HI
  obtain ⟨b, off, rfl, hbs, hc⟩ := l3.resolve_left (fun e => by rw [e] at hn; simp at hn; omega)
  have d0 : w2.cell? ⟨b, off + k * 2, none⟩ = some (.string ⟨x.1.toArray⟩) := hc k x hx 0 _ rfl
  have d1 : w2.cell? ⟨b, off + k * 2 + 1, none⟩ = some (.int .i64 (x.2 : Int)) := by rw [Nat.add_assoc]; exact hc k x hx 1 _ rfl
  have hne : w1.heap.size = w.heap.size + 1 := hz1
  unfold maxLen at l2
  have HX := Lib.hid hx2
  have hB : w.heap.size ≤ w1.heap.size := by omega
  clear hne h hk hx hn l3 hc pn hb1 hb2 hx1 hx2 hz1 hz2 HNm
  go_enter Tryz.func97, Tryz.ntmps97
  go_wp2_with fail
  (try rw [hw1])
  (try rw [hw2])
  clear hw1 hw2
  (go_wp2_with fail; go_fit (HI.out); rintro e w3 ⟨rfl, hb3⟩)
  have p3 := cell_later hb3 p3
  have d1 := cell_later hb3 d1
  obtain ⟨r0, r1, r2, r3, rf⟩ := (HX.out.ext hb3).four
  have HX3 := Lib.hid (HX.out.ext hb3)
  have HB3 := Lib.hid (Ext.trans' HB2.out hb3)
  have hkk : ((k : Int) ≥ 0) := by omega
  have hk2 : (k : Int) < n := by omega
  have HV := Lib.hid (fun wq => var_at wq (x.2 : Int))
  clear hb3 HI d0
  go_wp2_with (first | (go_at_call 122; refine (HV.out _).mono ?_; rintro e w4 ⟨rfl, hb4⟩; obtain ⟨r0, r1, r2, r3, rf⟩ := (HX3.out.ext hb4).four; have HB4 := Lib.hid (Ext.trans' HB3.out hb4)))
  refine bodyPost_ret (v := .agg #[.int .i64 0, .int .i64 (x.2 : Int), .string ⟨#[]⟩, .slice none 0 0]) (by rw [results_cell1 rfl]; go_simp) rfl ⟨rfl, Below.set4 HB4.out hB _ _ _ _⟩
set_option maxRecDepth 100000 in
set_option maxHeartbeats 2000000 in
theorem var_miss {D M : Nat → Bool} {w : World} {rb : Nat} {xs : List O} {s s4 s5 : RS} (h : St D M w rb xs s) (name : List UInt8) (hk : nmAt s.names name = -1)
    (e1 : s4.rest = s.rest) (e2 : s4.names = s.names) (e3 : s4.next = s.next + 1) (hn4 : Nice s4) (hun : name = [95] → s5 = s4)
    (hnm : name ≠ [95] → s5.rest = s4.rest ∧ s5.next = s4.next ∧ s5.names = s.names ++ [(name, s.next)] ∧ Nice s5) :
    Calls Tryz.prog 97 #[.pointer (some ⟨rb, 0, none⟩), .string ⟨name.toArray⟩] w fun e w' => e = .returned (.agg #[.int .i64 0, .int .i64 (s.next : Int), .string ⟨#[]⟩, .slice none 0 0]) ∧ ∃ D' M', St D' M' w' rb xs s5 ∧ Turn D M D' M' w w' := by
  obtain ⟨w1, hw1, hb1, hz1, hx1⟩ := box_new w #[.string ⟨name.toArray⟩] 9
  obtain ⟨w2, hw2, hb2, hz2, hx2⟩ := box_new w1 #[.int .i64 0, .int .i64 0, .string ⟨#[]⟩, .slice none 0 0] 31
  have HB2 := Lib.hid (Ext.trans' hb1 hb2)
  have hB : w.heap.size ≤ w1.heap.size := by omega
  have HS2 := Lib.hid (h.box HB2.out hB hx2.lt)
  have HMB := Lib.hid (Old.out h hB)
  have HMD := Lib.hid h.md
  have HOD := Lib.hid h.old
  obtain ⟨_, _, vn, _, _, p2, p3, pf, _, _, pn, _⟩ := HS2.out.parts
  have c1 := (hx1.ext hb2).cells 0 _ rfl
  have HI := Lib.hid (nm_at (show Nms w2 vn s.names from Elems.owned nmCells_len pn) name w.heap.size c1)
  rw [hk] at HI
  have HX := Lib.hid hx2
  have HX1 := Lib.hid (hx1.ext hb2)
  have hlt := h.lt
  have hnr : rb ≠ w.heap.size := by omega
  have hnr1 : rb ≠ w1.heap.size := by omega
  obtain ⟨z, hz⟩ : ∃ z : Int, z = -1 := ⟨_, rfl⟩
  rw [← hz] at HI
  have hz0 : ¬ z ≥ 0 := by omega
  have hbig : s.next ≤ 2000 := by have := hn4.1; omega
  clear hz hk pn hb1 hb2 hx1 hx2 h hz1 hz2
  obtain ⟨q, hq⟩ : ∃ q, s.next = q := ⟨_, rfl⟩
  have HQ := Lib.hid hq
  rw [hq] at p2 hbig ⊢
  have hw : IntKind.i64.wrap ((q : Int) + 1) = (q : Int) + 1 := by rw [IntKind.wrap_i64]; omega
  have HE := Lib.hid (And.intro e1 (And.intro e2 (And.intro e3 hn4)))
  clear hq e1 e2 e3 hn4
  go_enter Tryz.func97, Tryz.ntmps97
  go_wp2_with fail
  (try rw [hw1])
  (try rw [hw2])
  clear hw1 hw2
  (go_wp2_with fail; go_fit (HI.out); rintro e w3 ⟨rfl, hb3⟩)
  have S3 := HS2.out.later hb3
  have S4 := S3.num (s' := s4) HE.out.1 HE.out.2.1 HE.out.2.2.2
  have hq4 : (s4.next : Int) = (q : Int) + 1 := by rw [HE.out.2.2.1, HQ.out]; omega
  rw [hq4] at S4
  have HS4 := Lib.hid S4
  have p2 := cell_later hb3 p2
  have pf3 : w3.frozen? ⟨rb, 2, none⟩ = false := S3.fz 2
  have HX1 := Lib.hid ((HX1.out.ext hb3).far (c := rb) (k := 2) (u := .int .i64 ((q : Int) + 1)) (Ne.symm hnr))
  have HX := Lib.hid ((HX.out.ext hb3).far (c := rb) (k := 2) (u := .int .i64 ((q : Int) + 1)) (Ne.symm hnr1))
  have HT4 := Lib.hid ((Turn.below (D := D) (M := M) (Ext.trans' HB2.out hb3)).set ⟨rb, 2, none⟩ (.int .i64 ((q : Int) + 1)) (Or.inr HS2.out.mb))
  have c1 := HX1.out.cells 0 _ rfl
  have HV := Lib.hid (fun wq => var_at wq (q : Int))
  have c1' := (World.cell?_setCell_other w3 ⟨rb, 2, none⟩ ⟨w.heap.size, 0, none⟩ (.int .i64 ((q : Int) + 1)) (fun e => by injection e with e _ _; exact hnr e)).symm.trans c1
  clear hb3 HI S3 S4 hq4
  by_cases hnu : name = [95]
  · have ht : (name == [95]) = true := by rw [hnu]; rfl
    have HU := Lib.hid (hun hnu)
    clear hun hnm hnu p3
    obtain ⟨w4, hw4⟩ : ∃ w4, w3.setCell ⟨rb, 2, none⟩ (.int .i64 ((q : Int) + 1)) = w4 := ⟨_, rfl⟩
    rw [hw4] at HS4 HX1 HX HT4 c1
    go_wp2_with (first | (go_at_call 122; refine (HV.out _).mono ?_; rintro e w5 ⟨rfl, hb5⟩; obtain ⟨r0, r1, r2, r3, rf⟩ := (HX.out.ext hb5).four; have HB5 := Lib.hid hb5; have HS5 := Lib.hid (HS4.out.later hb5)))
    refine bodyPost_ret (v := .agg #[.int .i64 0, .int .i64 (q : Int), .string ⟨#[]⟩, .slice none 0 0]) (by rw [results_cell1 rfl]; go_simp) rfl ⟨rfl, D, M, ?_⟩
    rw [HU.out]
    have hT := (HT4.out.trans (Turn.below HB5.out)).set4 (b := w1.heap.size) (Or.inl hB) (.int .i64 0) (.int .i64 (q : Int)) (.string ⟨#[]⟩) (.slice none 0 0)
    exact ⟨(HS5.out.put4 (plusB_self D _) HMB.out (.int .i64 0) (.int .i64 (q : Int)) (.string ⟨#[]⟩) (.slice none 0 0)).unbox HMD.out (HOD.out.mono hT.size), hT⟩
  · have ht : (name != [95]) = true := by simpa using hnu
    have ht2 : (name == [95]) = false := beq_false_of_ne hnu
    have HNm := Lib.hid (hnm hnu)
    obtain ⟨i0, hi0, hzz, hss, hbb⟩ := info_parts infoNm
    clear hun hnm hnu p3
    obtain ⟨_, _, vn, _, _, p2, p3, pf, _, _, pn, pm⟩ := HS4.out.parts
    obtain ⟨w4, hw4⟩ : ∃ w4, w3.setCell ⟨rb, 2, none⟩ (.int .i64 ((q : Int) + 1)) = w4 := ⟨_, rfl⟩
    rw [hw4] at HS4 HX1 HX HT4 c1 p2 p3 pf pn
    have HP3 := Lib.hid p3
    have HRB := Lib.hid (fun k hk => (row_in pn (g := k) hk).1)
    have HPM := Lib.hid pm
    rw [HE.out.2.1] at pn
    obtain ⟨m, hm⟩ : ∃ m, s.names.length = m := ⟨_, rfl⟩
    have hmq : m ≤ 2000 := by have h1 := HE.out.2.2.2.1; have h2 := HE.out.2.2.2.2.1; rw [HE.out.2.1, hm] at h2; omega
    rw [hm] at pn
    have HN := Lib.hid hm
    obtain ⟨olds, hol⟩ : ∃ l, s.names.flatMap nmCells = l := ⟨_, rfl⟩
    rw [hol] at pn
    have HOl := Lib.hid hol
    have HPN := Lib.hid pn
    have hsz4 : rb + 1 ≤ w4.heap.size := by have := HS4.out.lt; omega
    have hrn : vn.ownBlock ≠ some rb := fun e => by have := HRB.out rb e; omega
    have hlt4 := HS4.out.lt
    have HG := Lib.hid (fun (o : Obj) (w7 : World) (g : (w4.alloc o).drew.grownBy w7 vn.ownBlock) (k : Nat) (hk : k < w4.heap.size) (hne : vn.ownBlock ≠ some k) => (g.block k (Nat.lt_of_lt_of_le hk (bel1' w4 o).size) (Ne.symm hne)).trans ((bel1' w4 o).block k hk))
    have HGZ := Lib.hid (fun (o : Obj) (w7 : World) (g : (w4.alloc o).drew.grownBy w7 vn.ownBlock) => Nat.le_trans (bel1' w4 o).size g.size)
    have HGO := Lib.hid (fun (o : Obj) (w7 : World) (g : (w4.alloc o).drew.grownBy w7 vn.ownBlock) => (show Below 0 w4 w7 from ((bel1' w4 o).mono (Nat.zero_le _)).drew.grown g (Nat.zero_le _) (fun _ _ => Nat.zero_le _)))
    have HRn := Lib.hid hrn
    have HLT := Lib.hid hlt4
    have c3' : ∀ o, (w4.alloc o).cell? ⟨rb, 3, none⟩ = some vn := fun o => Lib.cell?_alloc_some _ p3
    have cn' : ∀ o, (w4.alloc o).cell? ⟨w.heap.size, 0, none⟩ = some (.string ⟨name.toArray⟩) := fun o => Lib.cell?_alloc_some _ c1
    have HROW := Lib.hid (fun (o : Obj) => show (w4.alloc o).drew.ownsRow (rb + 1) 179 2 vn m olds from (HPN.out.alloc o))
    clear hm hol pn hrn hlt4
    go_wp2_with fail
    go_region_law ((refine step_append_k (by rfl) _ _ _ (by rfl) (rb + 1) 179 i0 (.agg #[.string ⟨#[]⟩, .int .i64 0]) 2 24 Tryz.underlying62 hi0 hzz hss (by decide) hbb rfl vn m olds (by rfl) (HROW.out _) (some ⟨w4.heap.size, 0, none⟩) 1 1 [.string ⟨name.toArray⟩, .int .i64 (q : Int)] (by rfl) (by rfl) (Or.inr ⟨_, rfl, fun j u hu => cell_new w4 #[.string ⟨name.toArray⟩, .int .i64 (q : Int)] _ j u hu⟩) (by simp [Value.oneCell']) (by unfold maxLen; omega) (by omega) (by simp; omega) (m + 1) (olds ++ [.string ⟨name.toArray⟩, .int .i64 (q : Int)]) rfl rfl ?_; intro a7 c7 w7 hown7 hgrow7 hat7; have e7 := HG.out _ _ hgrow7; have d3 : w7.cell? ⟨rb, 3, none⟩ = some vn := (by rw [World.cell?_of_block (e7 rb HLT.out HRn.out)]; exact p3); have f3 : w7.frozen? ⟨rb, 3, none⟩ = false := (by rw [World.frozen?_of_block (e7 rb HLT.out HRn.out)]; exact pf 3); have HE7 := Lib.hid e7; have HO7 := Lib.hid hown7; have HZ7 := Lib.hid (HGZ.out _ _ hgrow7); have HOT := Lib.hid (HGO.out _ _ hgrow7); have HA7 := Lib.hid hat7; clear e7 hown7 hgrow7 hat7))
    all_goals
      have hS4u := HS4.out.unbox HMD.out (HOD.out.mono HT4.out.size)
      have hBlt := HX.out.lt
      have hnB : vn.ownBlock ≠ some w1.heap.size := fun e => by have := HPM.out _ e; rw [HMB.out] at this; cases this
      have hat : (Value.slice a7 (m + 1) c7).ownBlock = vn.ownBlock ∨ ∃ k, w4.heap.size ≤ k ∧ (Value.slice a7 (m + 1) c7).ownBlock = some k := HA7.out.imp id (fun h => ⟨_, (bel1' w4 _).size, h⟩)
      have hown : w7.ownsRow (rb + 1) 179 2 (.slice a7 (m + 1) c7) s5.names.length (s5.names.flatMap nmCells) := by
        have h := HO7.out
        rw [HNm.out.2.2.1, List.length_append, List.length_singleton, List.flatMap_append, HN.out, HOl.out, HQ.out]
        exact h
      have hn1 := HS4.out.name (v' := .slice a7 (m + 1) c7) HNm.out.1 HNm.out.2.1 HNm.out.2.2.2 HP3.out HPM.out HRB.out HOT.out HZ7.out HE7.out hown hat
      have hn2 := hS4u.name (v' := .slice a7 (m + 1) c7) HNm.out.1 HNm.out.2.1 HNm.out.2.2.2 HP3.out HPM.out HRB.out HOT.out HZ7.out HE7.out hown hat
      have HVB := Lib.hid (show (Value.slice a7 (m + 1) c7).ownBlock ≠ some w1.heap.size from fun e => by
        rcases hat with h | ⟨k, hk, h⟩
        · exact hnB (h.symm.trans e)
        · rw [h] at e; injection e with e; omega)
      have HX7 := Lib.hid (((HX.out.block (HE7.out _ hBlt hnB) (Nat.lt_of_lt_of_le hBlt HZ7.out)).far (c := rb) (k := 3) (u := .slice a7 (m + 1) c7) (Ne.symm hnr1)))
      have HN1 := Lib.hid hn1.1
      have HTT := Lib.hid (HT4.out.trans hn2.2)
      obtain ⟨w8, hw8⟩ : ∃ w8, w7.setCell ⟨rb, 3, none⟩ (.slice a7 (m + 1) c7) = w8 := ⟨_, rfl⟩
      rw [hw8] at HX7 HN1 HTT
      clear hS4u hnB hat hown hn1 hn2 hBlt d3 f3 c3' cn' c1' c1 p2 p3 pf
      (try rw [hw8])
      clear hw8
      go_wp2_with (first | (go_at_call 122; refine (HV.out _).mono ?_; rintro e w9 ⟨rfl, hb9⟩; obtain ⟨r0, r1, r2, r3, rf⟩ := (HX7.out.ext hb9).four; have HB9 := Lib.hid hb9; have HS9 := Lib.hid (HN1.out.later hb9)))
      refine bodyPost_ret (v := .agg #[.int .i64 0, .int .i64 (q : Int), .string ⟨#[]⟩, .slice none 0 0]) (by rw [results_cell1 rfl]; go_simp) rfl ⟨rfl, withB D (.slice a7 (m + 1) c7), withB M (.slice a7 (m + 1) c7), ?_⟩
      have hT := (HTT.out.trans (Turn.below HB9.out)).set4 (b := w1.heap.size) (Or.inl hB) (.int .i64 0) (.int .i64 (q : Int)) (.string ⟨#[]⟩) (.slice none 0 0)
      have hP := HS9.out.put4 (b := w1.heap.size) (withB_of (plusB_self D _)) ((withB_no HVB.out).trans HMB.out) (.int .i64 0) (.int .i64 (q : Int)) (.string ⟨#[]⟩) (.slice none 0 0)
      rw [with_plus] at hP
      exact ⟨hP.unbox (fun k hk => by
        by_cases e : (Value.slice a7 (m + 1) c7).ownBlock = some k
        · exact withB_own e
        · rw [withB_no e] at hk; exact withB_of (HMD.out k hk)) (fun k hk => by
        have h9 := hP.old k hk
        cases hd : withB D (.slice a7 (m + 1) c7) k with
        | false => rfl
        | true => rw [plusB_of hd] at h9; cases h9), hT⟩
end Go.Proofs.YtaojalicnnnkmaaGreatDoor
/- The project's reader: what a call leaves; a row of terms that grows while the reader goes on. -/
namespace Go.Proofs.YtaojalicnnnkmaaGreatDoor
open Go.Shelf Go.RowKit
set_option linter.unusedVariables false

theorem variable_at {D M : Nat → Bool} {w : World} {rb : Nat} {xs : List O} {s : RS} (h : St D M w rb xs s) (name : List UInt8) (hn1 : Nice { s with next := s.next + 1 }) (hn : Nice (varR name s).2) :
    Calls Tryz.prog 97 #[.pointer (some ⟨rb, 0, none⟩), .string ⟨name.toArray⟩] w fun e w' => ∃ D' M' n, (varR name s).1 = vT (n : Nat) ∧ n ≤ 2000 ∧ e = .returned (.agg #[.int .i64 0, .int .i64 (n : Int), .string ⟨#[]⟩, .slice none 0 0]) ∧ St D' M' w' rb xs (varR name s).2 ∧ Turn D M D' M' w w' := by
  rcases nm_cases s.names name with ⟨h1, h2⟩ | ⟨k, x, h1, h2, h3⟩
  · have e : varR name s = (vT s.next, { s with names := if name = [95] then s.names else s.names ++ [(name, s.next)], next := s.next + 1 }) := by unfold varR; rw [h2]
    rw [e] at hn ⊢
    have hb : s.next ≤ 2000 := by have := h.nice.1; omega
    refine (var_miss h name h1 (s4 := { s with next := s.next + 1 }) (s5 := { s with names := if name = [95] then s.names else s.names ++ [(name, s.next)], next := s.next + 1 }) rfl rfl rfl hn1 (fun he => ?_) (fun he => ⟨rfl, rfl, if_neg he, hn⟩)).mono fun e w' hp => ?_
    · simp only [if_pos he]
    · obtain ⟨he, D', M', hs, ht⟩ := hp
      exact ⟨D', M', s.next, rfl, hb, he, hs, ht⟩
  · have e : varR name s = (vT x.2, s) := by unfold varR; rw [h3]
    rw [e]
    have hb := h.nice.2.2.2 x (List.mem_of_getElem? h2)
    have hb2 := h.nice.1
    refine (var_hit h name k x h1 h2).mono fun e w' hp => ?_
    exact ⟨D, M, x.2, rfl, by omega, hp.1, h.later hp.2, Turn.below hp.2⟩
def Okd (D M : Nat → Bool) (w : World) : Prop := (∀ k, M k = true → D k = true) ∧ Old D w
theorem St.okd {D M : Nat → Bool} {w : World} {rb : Nat} {xs : List O} {s : RS} (h : St D M w rb xs s) : Okd D M w := ⟨h.md, h.old⟩
/-- Of the new blocks only those of M are not looked at. -/
def Fin (D M' : Nat → Bool) (n : Nat) : Nat → Bool := fun k => if k < n then D k else M' k
theorem fin_old {D M' : Nat → Bool} {n k : Nat} (h : k < n) : Fin D M' n k = D k := if_pos h
theorem fin_new {D M' : Nat → Bool} {n k : Nat} (h : n ≤ k) : Fin D M' n k = M' k := if_neg (by omega)
theorem fin_less {D M D1 M' : Nat → Bool} {w w' : World} (ht : Turn D M D1 M' w w') (ho : Okd D1 M' w') {k : Nat} (h : D1 k = false) : Fin D M' w.heap.size k = false := by
  by_cases hk : k < w.heap.size
  · rw [fin_old hk, ← ht.dd k hk]; exact h
  · rw [fin_new (by omega)]
    cases hm : M' k with
    | false => rfl
    | true => rw [ho.1 k hm] at h; cases h
theorem fin_okd {D M D1 M' : Nat → Bool} {w w' : World} (ht : Turn D M D1 M' w w') (ho : Okd D1 M' w') (hd : ∀ k, M k = true → D k = true) : Okd (Fin D M' w.heap.size) M' w' := by
  refine ⟨fun k hk => ?_, fun k hk => fin_less ht ho (ho.2 k hk)⟩
  by_cases h : k < w.heap.size
  · rw [fin_old h]
    exact hd k (by rw [← ht.mm k h]; exact hk)
  · rw [fin_new (by omega)]; exact hk
theorem fin_turn {D M D1 M' : Nat → Bool} {w w' : World} (ht : Turn D M D1 M' w w') : Turn D M (Fin D M' w.heap.size) M' w w' := ⟨ht.size, fun k hk => fin_old hk, ht.mm, ht.kept, ht.ot⟩
theorem St.fin {D M D1 M' : Nat → Bool} {w w' : World} {rb : Nat} {xs : List O} {s : RS} (h : St D1 M' w' rb xs s) (ht : Turn D M D1 M' w w') (hd : ∀ k, M k = true → D k = true) : St (Fin D M' w.heap.size) M' w' rb xs s :=
  h.step (Stays.less fun k hk => fin_less ht h.okd hk) (fin_okd ht h.okd hd).1 (fin_okd ht h.okd hd).2 fun _ _ _ => rfl
theorem TmV.fin {D M D1 M' : Nat → Bool} {w w' : World} {t : Tm} {v : Value} (h : TmV (hide D1 w') t v) (ht : Turn D M D1 M' w w') (ho : Okd D1 M' w') : TmV (hide (Fin D M' w.heap.size) w') t v :=
  TmV.stay (Stays.less fun k hk => fin_less ht ho hk) t v h
/-- What term, primary, named leave. -/
def TPost (D M : Nat → Bool) (w : World) (rb : Nat) (xs : List O) (X : Out TL) (e : Ending) (w' : World) : Prop :=
  ∃ (D' M' : Nat → Bool) (t : Tm) (v : Value) (lv : Int) (ok : Bool), e = .returned (.tuple #[v, .int .i64 lv, .bool ok]) ∧ TmV (hide D' w') t v ∧ Turn D M D' M' w w' ∧ Okd D' M' w' ∧ ok = X.isSome ∧ ∀ p s', X = some (p, s') → t = p.1 ∧ lv = p.2 ∧ St D' M' w' rb xs s'
/-- What bracketed, list leave. -/
def BPost (D M : Nat → Bool) (w : World) (rb : Nat) (xs : List O) (X : Out Tm) (e : Ending) (w' : World) : Prop :=
  ∃ (D' M' : Nat → Bool) (t : Tm) (v : Value) (ok : Bool), e = .returned (.tuple #[v, .bool ok]) ∧ TmV (hide D' w') t v ∧ Turn D M D' M' w w' ∧ Okd D' M' w' ∧ ok = X.isSome ∧ ∀ p s', X = some (p, s') → t = p ∧ St D' M' w' rb xs s'
/-- What items leaves. -/
def IPost (D M : Nat → Bool) (w : World) (rb : Nat) (xs : List O) (X : Out (List Tm)) (e : Ending) (w' : World) : Prop :=
  ∃ (D' M' : Nat → Bool) (l : List Tm) (v : Value) (ok : Bool), e = .returned (.tuple #[v, .bool ok]) ∧ Tms (hide D' w') v l ∧ Turn D M D' M' w w' ∧ Okd D' M' w' ∧ ok = X.isSome ∧ ∀ p s', X = some (p, s') → l = p ∧ St D' M' w' rb xs s'
def IHT (xs : List O) (n : Nat) : Prop := ∀ (D M : Nat → Bool) (w : World) (rb : Nat) (s : RS) (most : Int), St D M w rb xs s → s.rest.length < n → Calls Tryz.prog 65 #[.pointer (some ⟨rb, 0, none⟩), .int .i64 most] w (TPost D M w rb xs (TERMX xs most s))
/-- A row of the call's own in the making: it is not looked at. -/
def Row (D M : Nat → Bool) (w : World) (base : Nat) (v : Value) (ps : List TmP) : Prop :=
  RowP w base 31 v ps ∧ (∀ g, v.ownBlock = some g → D g = true ∧ M g = false) ∧ ∀ p ∈ ps, TmV (hide D w) p.1 (pVal p)
theorem Row.none (D M : Nat → Bool) (w : World) (base : Nat) : Row D M w base (.slice none 0 0) [] := ⟨World.ownsRow_nil _ _ _ _, fun g hg => (by cases hg), fun p hp => (by cases hp)⟩
theorem Row.turn {D M D' M' : Nat → Bool} {w w' : World} {base : Nat} {v : Value} {ps : List TmP} (h : Row D M w base v ps) (ht : Turn D M D' M' w w') (md : ∀ k, M k = true → D k = true) : Row D' M' w' base v ps := by
  obtain ⟨h1, h2, h3⟩ := h
  refine ⟨row_at h1 (fun g hg => ht.kept g (row_in h1 hg).2 (h2 g hg).2), fun g hg => ?_, fun p hp => TmV.stay (ht.stays md) _ _ (h3 p hp)⟩
  have hlt := (row_in h1 hg).2
  rw [ht.dd g hlt, ht.mm g hlt]
  exact h2 g hg
theorem grown_stays {D : Nat → Bool} {W w' : World} {v v' : Value} (hg : W.grownBy w' v.ownBlock) (hD : ∀ g, v.ownBlock = some g → D g = true) (hv : v'.ownBlock = v.ownBlock ∨ v'.ownBlock = some W.heap.size) : Stays (hide D W) (hide (withB D v') w') :=
  Stays.hide hg.size fun k hk hd => ⟨by
    rw [withB_no]
    · exact hd
    · intro e
      rcases hv with hv | hv
      · rw [hD k (hv.symm.trans e)] at hd; cases hd
      · rw [hv] at e; injection e with e; omega, hg.block k hk (fun e => by rw [hD k e.symm] at hd; cases hd)⟩
theorem St.grown {D M : Nat → Bool} {W w' : World} {rb base : Nat} {xs : List O} {s : RS} {v v' : Value} {n k : Nat} {ty : TypeId} {L : List Value} (h : St D M W rb xs s) (hg : W.grownBy w' v.ownBlock) (hD : ∀ g, v.ownBlock = some g → D g = true ∧ M g = false) (hv : v'.ownBlock = v.ownBlock ∨ v'.ownBlock = some W.heap.size) (hr : w'.ownsRow base ty k v' n L) : St (withB D v') M w' rb xs s :=
  h.step (grown_stays hg (fun g e => (hD g e).1) hv) (fun k hm => withB_of (h.md k hm)) (fun k hk => by
    rw [withB_no (fun e => by have := (row_in hr e).2; omega)]
    exact h.old k (Nat.le_trans hg.size hk)) fun k hk hm => hg.block k hk (fun e => by rw [(hD k e.symm).2] at hm; cases hm)
theorem Turn.grown {D M D1 M1 : Nat → Bool} {w W w' : World} {v v' : Value} (ht : Turn D M D1 M1 w W) (hg : W.grownBy w' v.ownBlock) (hb : ∀ g, v.ownBlock = some g → w.heap.size ≤ g) (hv : v'.ownBlock = v.ownBlock ∨ v'.ownBlock = some W.heap.size) : Turn D M (withB D1 v') M1 w w' :=
  ⟨Nat.le_trans ht.size hg.size, fun k hk => by
    rw [withB_no]
    · exact ht.dd k hk
    · intro e
      rcases hv with hv | hv
      · have := hb k (hv.symm.trans e); omega
      · rw [hv] at e; injection e with e; have := ht.size; omega, ht.mm, fun k hk hm => (hg.block k (Nat.lt_of_lt_of_le hk ht.size) (fun e => by have := hb k e.symm; omega)).trans (ht.kept k hk hm), ht.ot.grown hg (Nat.zero_le _) (fun _ _ => Nat.zero_le _)⟩
/-- One more. -/
theorem Row.more {D M : Nat → Bool} {W w' : World} {base : Nat} {v v' : Value} {ps : List TmP} {p : TmP} (h : Row D M W base v ps) (hp : TmV (hide D W) p.1 (pVal p)) (ho : Okd D M W) (hg : W.grownBy w' v.ownBlock) (hv : v'.ownBlock = v.ownBlock ∨ v'.ownBlock = some W.heap.size)
    (hr : w'.ownsRow base 31 4 v' (ps.length + 1) (ps.flatMap pCells ++ pCells p)) : Row (withB D v') M w' base v' (ps ++ [p]) := by
  obtain ⟨h1, h2, h3⟩ := h
  have hs := grown_stays hg (fun g e => (h2 g e).1) hv
  refine ⟨?_, fun g hg' => ⟨withB_own hg', ?_⟩, fun q hq => ?_⟩
  · unfold RowP
    rw [List.length_append, List.flatMap_append, List.length_singleton]
    simpa using hr
  · rcases hv with hv | hv
    · exact (h2 g (hv.symm.trans hg')).2
    · rw [hv] at hg'
      injection hg' with e
      subst e
      cases hm : M W.heap.size with
      | false => rfl
      | true => have := ho.1 _ hm; rw [ho.2 _ (Nat.le_refl _)] at this; cases this
  · rcases List.mem_append.1 hq with hq | hq
    · exact TmV.stay hs _ _ (h3 q hq)
    · simp at hq
      subst hq
      exact TmV.stay hs _ _ hp
/-- The row is looked at again. -/
theorem Row.fin {D M D1 M' : Nat → Bool} {w w' : World} {v : Value} {ps : List TmP} (h : Row D1 M' w' w.heap.size v ps) (ht : Turn D M D1 M' w w') (ho : Okd D1 M' w') (hl : ps.length ≤ 100000) : Tms (hide (Fin D M' w.heap.size) w') v (ps.map (·.1)) := by
  obtain ⟨h1, h2, h3⟩ := h
  have hh : RowP (hide (Fin D M' w.heap.size) w') w.heap.size 31 v ps := by
    refine row_at h1 (fun g hg => hide_get _ _ _ ?_)
    rw [fin_new (row_in h1 hg).1]
    exact (h2 g hg).2
  exact hh.terms (fun p hp => TmV.fin (h3 p hp) ht ho) (by unfold BIG; omega)
end Go.Proofs.YtaojalicnnnkmaaGreatDoor
