import Derived.Test.YtaojalicnnnkmaaGreatDoorHgaar
set_option linter.unusedVariables false
set_option linter.unusedSimpArgs false
/- The project's reader: named: a name by itself. -/
namespace Go.Proofs.YtaojalicnnnkmaaGreatDoor
open Go.Shelf Go.RowKit
set_option linter.unusedVariables false

set_option maxRecDepth 100000 in
set_option maxHeartbeats 8000000 in
theorem named_plain_a {xs : List O} {n : Nat} (ih : IHT xs n) {D M : Nat → Bool} {w : World} {rb : Nat} {s : RS} (h : St D M w rb xs s) (hlt : s.rest.length < n) (q : TokP) (hq : tokOk q) (most : Int) (hm : isMinusR q (headR s) = false) (ho : q.1.opens = false) (hk : q.1.kind = 1)
    (pn pk bn bk : ByteArray) (pl bv : Int) (pg : Bool) (hpg : pg = false) (bg : Bool) (hpre : oneB xs q.1.text 1 = (⟨pn, pk, pl⟩, pg)) (hbet : oneB xs q.1.text 2 = (⟨bn, bk, bv⟩, bg)) :
    Calls Tryz.prog 96 #[.pointer (some ⟨rb, 0, none⟩), tkVal q, .int .i64 most] w (TPost D M w rb xs ((if max pl bv ≤ most then some ((aT q.1.text, max pl bv), s) else none : Out TL))) := by
  obtain ⟨X, hX⟩ : ∃ X, (if max pl bv ≤ most then some ((aT q.1.text, max pl bv), s) else none : Out TL) = X := ⟨_, rfl⟩
  rw [hX]
  have HXX := Lib.hid hX
  obtain ⟨w1, hw1, hb1, hz1, hx1⟩ := box_new w #[.int .i64 (q.1.kind : Int), .string ⟨q.1.text.toArray⟩, .int .i64 (q.1.n : Int), .bool q.1.opens, .int .i64 (q.2 : Int)] 125
  obtain ⟨w2, hw2, hb2, hz2, hx2⟩ := box_new w1 #[.int .i64 0, .int .i64 0, .string ⟨#[]⟩, .slice none 0 0] 31
  have h2 := h.box (Ext.trans' hb1 hb2) hb1.size hx2.lt
  have HMd := Lib.hid h.md
  have HMB := Lib.hid (Old.out h hb1.size)
  have HMT := Lib.hid (Old.out h (Nat.le_refl _))
  have HSB := Lib.hid hb1.size
  have HT2 := Lib.hid (box_plus (D := D) (M := M) hb1 hb2)
  have HM := isMinus_at h2 q hq.2.2
  rw [hm] at HM
  have HM := Lib.hid HM
  have HS2 := Lib.hid h2
  have HX := Lib.hid hx2
  have HX1 := Lib.hid (hx1.ext hb2)
  obtain ⟨c0, c1, c2, c3, c4, cf⟩ := HX1.out.five
  have HQ := Lib.hid hq
  have HO := Lib.hid ho
  have hP2 := fun (w3 wq : World) (hb : Below w3.heap.size w3 wq) (v : Value) (hv : Ops wq v xs) => in_walk hv ⟨q.1.text.toArray⟩
  rw [show bl (⟨q.1.text.toArray⟩ : ByteArray) = q.1.text from rfl, hbet] at hP2
  have HPP := Lib.hid hP2
  clear hP2 hbet
  subst hpg
  have HIH := Lib.hid ih
  have HLT := Lib.hid hlt
  have hts : (⟨q.1.text.toArray⟩ : ByteArray).size ≤ BIG := by have := hq.2.1; show q.1.text.toArray.size ≤ _; simp; unfold BIG; omega
  have HTS := Lib.hid hts
  have k2 : ((q.1.kind : Int) == 2) = false := by rw [hk]; rfl
  have hlt0 := h.lt
  have hrb1 : rb ≠ w1.heap.size := by omega
  have hne1 : w.heap.size ≠ w1.heap.size := by omega
  clear h hq hb1 hb2 hz1 hz2 hx1 hx2 h2 hm ho hk hX hlt ih hts
  go_enter Tryz.func96, Tryz.ntmps96
  go_wp2_with fail
  (try rw [hw1])
  (try rw [hw2])
  clear hw1 hw2
  (go_wp2_with fail; go_fit (HM.out); rintro e w3 ⟨rfl, hb3⟩)
  obtain ⟨c0, c1, c2, c3, c4, cf⟩ := (HX1.out.ext hb3).five
  rw [HO.out] at c3
  have HS3 := Lib.hid (HS2.out.later hb3)
  have HT3 := Lib.hid (HT2.out.trans (Turn.below hb3))
  have HX3 := Lib.hid (HX.out.ext hb3)
  have HX13 := Lib.hid (HX1.out.ext hb3)
  obtain ⟨vo, _, _, p0, _, _, _, _, po, _⟩ := HS3.out.parts
  have PO := Lib.hid po.bare
  have hn1 : rb ≠ w3.heap.size := (World.new_ne w3 _ p0).symm
  have hn2 : w.heap.size ≠ w3.heap.size := (World.new_ne w3 _ c1).symm
  have hn3 : w3.heap.size ≠ w1.heap.size := by have := HX3.out.lt; omega
  have hBw : w1.heap.size < w3.heap.size := HX3.out.lt
  have HP := Lib.hid (fun wq (hb : Below w3.heap.size w3 wq) (v : Value) (hv : Ops wq v xs) => pre_walk hv ⟨q.1.text.toArray⟩)
  rw [show bl (⟨q.1.text.toArray⟩ : ByteArray) = q.1.text from rfl, hpre] at HP
  have HP2 := Lib.hid (HPP.out w3)
  clear hb3 po c2 c4 cf hpre HPP
  go_wp2_with fail
  have HP0 := Lib.hid p0
  have HC1 := Lib.hid c1
  refine wp_region_held_drew (S := fun w' => (w'.cell? ⟨rb, 0, none⟩ = some vo ∧ w'.cell? ⟨w.heap.size, 1, none⟩ = some (.string ⟨q.1.text.toArray⟩)) ∧ Below w3.heap.size w3 w') (by kernel_rfl) ⟨⟨p0, c1⟩, (Below.refl _ _).drew⟩ (fun hHeld => ?_)
  first | (refine held_t (i := 0) hHeld ?_; apply Exists.intro; refine ⟨fun wq hq => ?_, ?_⟩; (focus ((try dsimp only at hq); go_simp; (first | done | with_reducible rfl | fail)))) | refine held_s (i := 0) hHeld ?_ | fail
  first | (refine held_t (i := 1) hHeld ?_; apply Exists.intro; refine ⟨fun wq hq => ?_, ?_⟩; (focus ((try dsimp only at hq); go_simp; (first | done | with_reducible rfl | fail)))) | refine held_s (i := 1) hHeld ?_ | fail
  first | (refine held_t (i := 2) hHeld ?_; apply Exists.intro; refine ⟨fun wq hq => ?_, ?_⟩; (focus ((try dsimp only at hq); go_simp; (first | done | with_reducible rfl | fail)))) | refine held_s (i := 2) hHeld ?_ | fail
  first | (refine held_t (i := 3) hHeld ?_; apply Exists.intro; refine ⟨fun wq hq => ?_, ?_⟩; (focus ((try dsimp only at hq); go_simp; (first | done | with_reducible rfl | fail)))) | refine held_s (i := 3) hHeld ?_ | fail
  first | (refine held_t (i := 4) hHeld ?_; apply Exists.intro; refine ⟨fun wq hq => ?_, ?_⟩; (focus ((try dsimp only at hq); go_simp; (first | done | with_reducible rfl | fail)))) | refine held_s (i := 4) hHeld ?_ | fail
  first | (refine held_t (i := 5) hHeld ?_; apply Exists.intro; refine ⟨fun wq hq => ?_, ?_⟩; (focus ((try dsimp only at hq); go_simp; (first | done | with_reducible rfl | fail)))) | refine held_s (i := 5) hHeld ?_ | fail
  try simp only [Act.put, List.setIfInBounds_toArray, List.set_cons_zero, List.set_cons_succ]
  refine wpAnyH_ready (rs := [6, 10]) (by kernel_rfl) (by simp) ?_
  refine AllReadyH.cons (by simp only [List.getElem?_toArray, List.getElem?_cons_zero, List.getElem?_cons_succ]; rfl) (fun K hK => ?_) (AllReadyH.cons (by simp only [List.getElem?_toArray, List.getElem?_cons_zero, List.getElem?_cons_succ]; rfl) (fun K hK => ?_) AllReadyH.nil)
  · go_simp
    (go_at_call 118; refine (HP.out _ hHeld.2 _ (PO.out.ext hHeld.2)).mono ?_; rintro e w4 ⟨rfl, hb4⟩)
    refine hK.out _ _ (⟨⟨cell_later hb4 hHeld.1.1, cell_later hb4 hHeld.1.2⟩, Ext.trans' hHeld.2 hb4⟩) (fun hHeld => ?_)
    clear hK K
    try simp only [Act.put, List.setIfInBounds_toArray, List.set_cons_zero, List.set_cons_succ]
    have hS4 := hHeld
    first | (refine held_t (i := 7) hHeld ?_; apply Exists.intro; refine ⟨fun wq hq => ?_, ?_⟩; (focus ((try dsimp only at hq); go_simp; (first | done | with_reducible rfl | fail)))) | refine held_s (i := 7) hHeld ?_ | fail
    first | (refine held_t (i := 8) hHeld ?_; apply Exists.intro; refine ⟨fun wq hq => ?_, ?_⟩; (focus ((try dsimp only at hq); go_simp; (first | done | with_reducible rfl | fail)))) | refine held_s (i := 8) hHeld ?_ | fail
    first | (refine held_t (i := 9) hHeld ?_; apply Exists.intro; refine ⟨fun wq hq => ?_, ?_⟩; (focus ((try dsimp only at hq); go_simp; (first | done | with_reducible rfl | fail)))) | refine held_s (i := 9) hHeld ?_ | fail
    try simp only [Act.put, List.setIfInBounds_toArray, List.set_cons_zero, List.set_cons_succ]
    refine held_c 10 fun K hK => ?_
    go_simp
    skip
    refine hK.out _ _ (⟨⟨cell_later (bel1' _ _) hHeld.1.1, cell_later (bel1' _ _) hHeld.1.2⟩, Ext.trans' hHeld.2 (bel1' _ _)⟩) (fun hHeld => ?_)
    clear hK K
    try simp only [Act.put, List.setIfInBounds_toArray, List.set_cons_zero, List.set_cons_succ]
    refine held_c 11 fun K hK => ?_
    go_simp
    skip
    refine hK.out _ _ (⟨⟨cell_later (bel1' _ _) hS4.1.1, cell_later (bel1' _ _) hS4.1.2⟩, Ext.trans' hS4.2 (bel1' _ _)⟩) (fun hHeld => ?_)
    clear hK K
    try simp only [Act.put, List.setIfInBounds_toArray, List.set_cons_zero, List.set_cons_succ]
    first | (refine held_t (i := 12) hHeld ?_; apply Exists.intro; refine ⟨fun wq hq => ?_, ?_⟩; (focus ((try dsimp only at hq); go_simp; (first | done | with_reducible rfl | fail)))) | refine held_s (i := 12) hHeld ?_ | fail
    try simp only [Act.put, List.setIfInBounds_toArray, List.set_cons_zero, List.set_cons_succ]
    refine wpAnyH_done (by kernel_rfl) ?_ _
    have HBX0 := Lib.hid (box_ext_new w4 #[.string pn, .string pk, .int .i64 pl] 93 (Below.refl _ _))
    have hAB : w4.heap.size ≠ w1.heap.size := by have := hS4.2.size; omega
    have HB5 := Lib.hid hHeld.2
    clear hHeld hS4 hb4 p0 c1 c0 c3
    generalize World.alloc w4 (.cells #[.string pn, .string pk, .int .i64 pl] 93) = w5 at *
    generalize w4.heap.size = A at *
    obtain ⟨b0, b1, b2, bf⟩ := HBX0.out.three
    have HBX6 := HBX0
    have HB6 := HB5
    have hm1 : rb ≠ w5.heap.size := by have := HB5.out.size; have := HS3.out.lt; omega
    have hm2 : w.heap.size ≠ w5.heap.size := by have := HB5.out.size; have := HX13.out.lt; omega
    have y0 := cell_later HB5.out HP0.out
    have y1 := cell_later HB5.out HC1.out
    clear HP hn1 hn2
    go_wp2_with fail
    clear b0 b1 b2 bf
    refine wp_region_held_drew (S := fun w' => (w'.cell? ⟨rb, 0, none⟩ = some vo ∧ w'.cell? ⟨w.heap.size, 1, none⟩ = some (.string ⟨q.1.text.toArray⟩)) ∧ Below w5.heap.size w5 w') (by kernel_rfl) ⟨⟨y0, y1⟩, (Below.refl _ _).drew⟩ (fun hHeld => ?_)
    first | (refine held_t (i := 0) hHeld ?_; apply Exists.intro; refine ⟨fun wq hq => ?_, ?_⟩; (focus ((try dsimp only at hq); go_simp; (first | done | with_reducible rfl | fail)))) | refine held_s (i := 0) hHeld ?_ | fail
    first | (refine held_t (i := 1) hHeld ?_; apply Exists.intro; refine ⟨fun wq hq => ?_, ?_⟩; (focus ((try dsimp only at hq); go_simp; (first | done | with_reducible rfl | fail)))) | refine held_s (i := 1) hHeld ?_ | fail
    first | (refine held_t (i := 2) hHeld ?_; apply Exists.intro; refine ⟨fun wq hq => ?_, ?_⟩; (focus ((try dsimp only at hq); go_simp; (first | done | with_reducible rfl | fail)))) | refine held_s (i := 2) hHeld ?_ | fail
    first | (refine held_t (i := 3) hHeld ?_; apply Exists.intro; refine ⟨fun wq hq => ?_, ?_⟩; (focus ((try dsimp only at hq); go_simp; (first | done | with_reducible rfl | fail)))) | refine held_s (i := 3) hHeld ?_ | fail
    first | (refine held_t (i := 4) hHeld ?_; apply Exists.intro; refine ⟨fun wq hq => ?_, ?_⟩; (focus ((try dsimp only at hq); go_simp; (first | done | with_reducible rfl | fail)))) | refine held_s (i := 4) hHeld ?_ | fail
    first | (refine held_t (i := 5) hHeld ?_; apply Exists.intro; refine ⟨fun wq hq => ?_, ?_⟩; (focus ((try dsimp only at hq); go_simp; (first | done | with_reducible rfl | fail)))) | refine held_s (i := 5) hHeld ?_ | fail
    try simp only [Act.put, List.setIfInBounds_toArray, List.set_cons_zero, List.set_cons_succ]
    refine wpAnyH_ready (rs := [6, 10]) (by kernel_rfl) (by simp) ?_
    refine AllReadyH.cons (by simp only [List.getElem?_toArray, List.getElem?_cons_zero, List.getElem?_cons_succ]; rfl) (fun K hK => ?_) (AllReadyH.cons (by simp only [List.getElem?_toArray, List.getElem?_cons_zero, List.getElem?_cons_succ]; rfl) (fun K hK => ?_) AllReadyH.nil)
    · go_simp
      (go_at_call 100; refine (HP2.out _ (Ext.trans' HB6.out hHeld.2) _ (PO.out.ext (Ext.trans' HB6.out hHeld.2))).mono ?_; rintro e w7 ⟨rfl, hb7⟩)
      refine hK.out _ _ (⟨⟨cell_later hb7 hHeld.1.1, cell_later hb7 hHeld.1.2⟩, Ext.trans' hHeld.2 hb7⟩) (fun hHeld => ?_)
      clear hK K
      try simp only [Act.put, List.setIfInBounds_toArray, List.set_cons_zero, List.set_cons_succ]
      have hS7 := hHeld
      first | (refine held_t (i := 7) hHeld ?_; apply Exists.intro; refine ⟨fun wq hq => ?_, ?_⟩; (focus ((try dsimp only at hq); go_simp; (first | done | with_reducible rfl | fail)))) | refine held_s (i := 7) hHeld ?_ | fail
      first | (refine held_t (i := 8) hHeld ?_; apply Exists.intro; refine ⟨fun wq hq => ?_, ?_⟩; (focus ((try dsimp only at hq); go_simp; (first | done | with_reducible rfl | fail)))) | refine held_s (i := 8) hHeld ?_ | fail
      first | (refine held_t (i := 9) hHeld ?_; apply Exists.intro; refine ⟨fun wq hq => ?_, ?_⟩; (focus ((try dsimp only at hq); go_simp; (first | done | with_reducible rfl | fail)))) | refine held_s (i := 9) hHeld ?_ | fail
      try simp only [Act.put, List.setIfInBounds_toArray, List.set_cons_zero, List.set_cons_succ]
      refine held_c 10 fun K hK => ?_
      go_simp
      skip
      refine hK.out _ _ (⟨⟨cell_later (bel1' _ _) hHeld.1.1, cell_later (bel1' _ _) hHeld.1.2⟩, Ext.trans' hHeld.2 (bel1' _ _)⟩) (fun hHeld => ?_)
      clear hK K
      try simp only [Act.put, List.setIfInBounds_toArray, List.set_cons_zero, List.set_cons_succ]
      refine held_c 11 fun K hK => ?_
      go_simp
      skip
      refine hK.out _ _ (⟨⟨cell_later (bel1' _ _) hS7.1.1, cell_later (bel1' _ _) hS7.1.2⟩, Ext.trans' hS7.2 (bel1' _ _)⟩) (fun hHeld => ?_)
      clear hK K
      try simp only [Act.put, List.setIfInBounds_toArray, List.set_cons_zero, List.set_cons_succ]
      first | (refine held_t (i := 12) hHeld ?_; apply Exists.intro; refine ⟨fun wq hq => ?_, ?_⟩; (focus ((try dsimp only at hq); go_simp; (first | done | with_reducible rfl | fail)))) | refine held_s (i := 12) hHeld ?_ | fail
      try simp only [Act.put, List.setIfInBounds_toArray, List.set_cons_zero, List.set_cons_succ]
      refine wpAnyH_done (by kernel_rfl) ?_ _
      have HBY0 := Lib.hid (box_ext_new w7 #[.string bn, .string bk, .int .i64 bv] 93 (Below.refl _ _))
      have HB8 := Lib.hid hHeld.2
      clear hHeld hS7 hb7 y0 y1
      generalize World.alloc w7 (.cells #[.string bn, .string bk, .int .i64 bv] 93) = w8 at *
      generalize w7.heap.size = A2 at *
      obtain ⟨_, _, b2, _⟩ := (HBX6.out.ext HB8.out).three
      obtain ⟨_, _, d2, _⟩ := HBY0.out.three
      have HB38 := Lib.hid (Ext.trans' HB6.out HB8.out)
      obtain ⟨_, c1, _, _, _, _⟩ := (HX13.out.ext HB38.out).five
      (go_wp2_with fail; go_fit (atom_at _ ⟨q.1.text.toArray⟩); rintro e w9 ⟨rfl, hb9⟩)
      obtain ⟨r0, r1, r2, r3, rf⟩ := ((HX3.out.ext HB38.out).ext hb9).four
      have HB9 := Lib.hid (Ext.trans' HB38.out hb9)
      clear hb9 b2 d2 c1
      by_cases hz : max pl bv ≤ most
      · have hzd : decide (max pl bv ≤ most) = true := decide_eq_true hz
        have HN := Lib.hid (show X = some ((aT q.1.text, max pl bv), s) from HXX.out.symm.trans (if_pos hz))
        go_wp2
        refine bodyPost_ret (v := .tuple #[.agg #[.int .i64 2, .int .i64 0, .string ⟨q.1.text.toArray⟩, .slice none 0 0], .int .i64 (max pl bv), .bool true]) (by rw [results_cell3 rfl]; go_simp) rfl ?_
        exact tdone_some (HT3.out.trans (Turn.below HB9.out)) (HS3.out.later HB9.out) HMd.out HSB.out (plusB_self D _) HMB.out (leaf_tm _ i64_2 i64_0 HTS.out) HN.out
      · have hzd : decide (max pl bv ≤ most) = false := decide_eq_false hz
        have HN := Lib.hid (show X = none from HXX.out.symm.trans (if_neg hz))
        go_wp2
        refine bodyPost_ret (v := .tuple #[.agg #[.int .i64 2, .int .i64 0, .string ⟨q.1.text.toArray⟩, .slice none 0 0], .int .i64 (max pl bv), .bool false]) (by rw [results_cell3 rfl]; go_simp) rfl ?_
        exact tdone_none (HT3.out.trans (Turn.below HB9.out)) (HS3.out.later HB9.out).okd HMd.out HSB.out (plusB_self D _) (leaf_tm _ i64_2 i64_0 HTS.out) HN.out
    · go_simp
      skip
      refine hK.out _ _ (⟨⟨cell_later (bel1' _ _) hHeld.1.1, cell_later (bel1' _ _) hHeld.1.2⟩, Ext.trans' hHeld.2 (bel1' _ _)⟩) (fun hHeld => ?_)
      clear hK K
      try simp only [Act.put, List.setIfInBounds_toArray, List.set_cons_zero, List.set_cons_succ]
      refine held_c 6 fun K hK => ?_
      go_simp
      (go_at_call 100; refine (HP2.out _ (Ext.trans' HB6.out hHeld.2) _ (PO.out.ext (Ext.trans' HB6.out hHeld.2))).mono ?_; rintro e w7 ⟨rfl, hb7⟩; have hbx : Box w7 w5.heap.size [.string ⟨#[]⟩, .string ⟨#[]⟩, .int .i64 0] := box_ext_new w5.drew _ _ hb7; obtain ⟨e0, e1, e2, ef⟩ := hbx.three)
      refine hK.out _ _ (⟨⟨cell_later hb7 hHeld.1.1, cell_later hb7 hHeld.1.2⟩, Ext.trans' hHeld.2 hb7⟩) (fun hHeld => ?_)
      clear hK K
      try simp only [Act.put, List.setIfInBounds_toArray, List.set_cons_zero, List.set_cons_succ]
      first | (refine held_t (i := 7) hHeld ?_; apply Exists.intro; refine ⟨fun wq hq => ?_, ?_⟩; (focus ((try dsimp only at hq); go_simp; (first | done | with_reducible rfl | fail)))) | refine held_s (i := 7) hHeld ?_ | fail
      first | (refine held_t (i := 8) hHeld ?_; apply Exists.intro; refine ⟨fun wq hq => ?_, ?_⟩; (focus ((try dsimp only at hq); go_simp; (first | done | with_reducible rfl | fail)))) | refine held_s (i := 8) hHeld ?_ | fail
      first | (refine held_t (i := 9) hHeld ?_; apply Exists.intro; refine ⟨fun wq hq => ?_, ?_⟩; (focus ((try dsimp only at hq); go_simp; (first | done | with_reducible rfl | fail)))) | refine held_s (i := 9) hHeld ?_ | fail
      try simp only [Act.put, List.setIfInBounds_toArray, List.set_cons_zero, List.set_cons_succ]
      refine held_c 11 fun K hK => ?_
      go_simp
      skip
      refine hK.out _ _ (⟨⟨far3 hHeld.1.1 hm1 _ _ _, far3 hHeld.1.2 hm2 _ _ _⟩, Below.set3 hHeld.2 (Nat.le_refl _) _ _ _⟩) (fun hHeld => ?_)
      clear hK K
      try simp only [Act.put, List.setIfInBounds_toArray, List.set_cons_zero, List.set_cons_succ]
      first | (refine held_t (i := 12) hHeld ?_; apply Exists.intro; refine ⟨fun wq hq => ?_, ?_⟩; (focus ((try dsimp only at hq); go_simp; (first | done | with_reducible rfl | fail)))) | refine held_s (i := 12) hHeld ?_ | fail
      try simp only [Act.put, List.setIfInBounds_toArray, List.set_cons_zero, List.set_cons_succ]
      refine wpAnyH_done (by kernel_rfl) ?_ _
      have HBY0 := Lib.hid (show Box (((w7.setCell ⟨w5.heap.size, 0, none⟩ (.string bn)).setCell ⟨w5.heap.size, 1, none⟩ (.string bk)).setCell ⟨w5.heap.size, 2, none⟩ (.int .i64 bv)) w5.heap.size [.string bn, .string bk, .int .i64 bv] from hbx.all3 (.string bn) (.string bk) (.int .i64 bv))
      have HB8 := Lib.hid (show Below w5.heap.size w5 (((w7.setCell ⟨w5.heap.size, 0, none⟩ (.string bn)).setCell ⟨w5.heap.size, 1, none⟩ (.string bk)).setCell ⟨w5.heap.size, 2, none⟩ (.int .i64 bv)) from hHeld.2)
      clear hHeld hb7 hbx e0 e1 e2 ef y0 y1
      generalize (((w7.setCell ⟨w5.heap.size, 0, none⟩ (.string bn)).setCell ⟨w5.heap.size, 1, none⟩ (.string bk)).setCell ⟨w5.heap.size, 2, none⟩ (.int .i64 bv)) = w8 at *
      obtain ⟨_, _, b2, _⟩ := (HBX6.out.ext HB8.out).three
      obtain ⟨_, _, d2, _⟩ := HBY0.out.three
      have HB38 := Lib.hid (Ext.trans' HB6.out HB8.out)
      obtain ⟨_, c1, _, _, _, _⟩ := (HX13.out.ext HB38.out).five
      (go_wp2_with fail; go_fit (atom_at _ ⟨q.1.text.toArray⟩); rintro e w9 ⟨rfl, hb9⟩)
      obtain ⟨r0, r1, r2, r3, rf⟩ := ((HX3.out.ext HB38.out).ext hb9).four
      have HB9 := Lib.hid (Ext.trans' HB38.out hb9)
      clear hb9 b2 d2 c1
      by_cases hz : max pl bv ≤ most
      · have hzd : decide (max pl bv ≤ most) = true := decide_eq_true hz
        have HN := Lib.hid (show X = some ((aT q.1.text, max pl bv), s) from HXX.out.symm.trans (if_pos hz))
        go_wp2
        refine bodyPost_ret (v := .tuple #[.agg #[.int .i64 2, .int .i64 0, .string ⟨q.1.text.toArray⟩, .slice none 0 0], .int .i64 (max pl bv), .bool true]) (by rw [results_cell3 rfl]; go_simp) rfl ?_
        exact tdone_some (HT3.out.trans (Turn.below HB9.out)) (HS3.out.later HB9.out) HMd.out HSB.out (plusB_self D _) HMB.out (leaf_tm _ i64_2 i64_0 HTS.out) HN.out
      · have hzd : decide (max pl bv ≤ most) = false := decide_eq_false hz
        have HN := Lib.hid (show X = none from HXX.out.symm.trans (if_neg hz))
        go_wp2
        refine bodyPost_ret (v := .tuple #[.agg #[.int .i64 2, .int .i64 0, .string ⟨q.1.text.toArray⟩, .slice none 0 0], .int .i64 (max pl bv), .bool false]) (by rw [results_cell3 rfl]; go_simp) rfl ?_
        exact tdone_none (HT3.out.trans (Turn.below HB9.out)) (HS3.out.later HB9.out).okd HMd.out HSB.out (plusB_self D _) (leaf_tm _ i64_2 i64_0 HTS.out) HN.out
  · go_simp
    skip
    refine hK.out _ _ (⟨⟨cell_later (bel1' _ _) hHeld.1.1, cell_later (bel1' _ _) hHeld.1.2⟩, Ext.trans' hHeld.2 (bel1' _ _)⟩) (fun hHeld => ?_)
    clear hK K
    try simp only [Act.put, List.setIfInBounds_toArray, List.set_cons_zero, List.set_cons_succ]
    refine held_c 6 fun K hK => ?_
    go_simp
    (go_at_call 118; refine (HP.out _ hHeld.2 _ (PO.out.ext hHeld.2)).mono ?_; rintro e w4 ⟨rfl, hb4⟩; have hbx : Box w4 w3.heap.size [.string ⟨#[]⟩, .string ⟨#[]⟩, .int .i64 0] := box_ext_new w3.drew _ _ hb4; obtain ⟨e0, e1, e2, ef⟩ := hbx.three)
    refine hK.out _ _ (⟨⟨cell_later hb4 hHeld.1.1, cell_later hb4 hHeld.1.2⟩, Ext.trans' hHeld.2 hb4⟩) (fun hHeld => ?_)
    clear hK K
    try simp only [Act.put, List.setIfInBounds_toArray, List.set_cons_zero, List.set_cons_succ]
    first | (refine held_t (i := 7) hHeld ?_; apply Exists.intro; refine ⟨fun wq hq => ?_, ?_⟩; (focus ((try dsimp only at hq); go_simp; (first | done | with_reducible rfl | fail)))) | refine held_s (i := 7) hHeld ?_ | fail
    first | (refine held_t (i := 8) hHeld ?_; apply Exists.intro; refine ⟨fun wq hq => ?_, ?_⟩; (focus ((try dsimp only at hq); go_simp; (first | done | with_reducible rfl | fail)))) | refine held_s (i := 8) hHeld ?_ | fail
    first | (refine held_t (i := 9) hHeld ?_; apply Exists.intro; refine ⟨fun wq hq => ?_, ?_⟩; (focus ((try dsimp only at hq); go_simp; (first | done | with_reducible rfl | fail)))) | refine held_s (i := 9) hHeld ?_ | fail
    try simp only [Act.put, List.setIfInBounds_toArray, List.set_cons_zero, List.set_cons_succ]
    refine held_c 11 fun K hK => ?_
    go_simp
    skip
    refine hK.out _ _ (⟨⟨far3 hHeld.1.1 hn1 _ _ _, far3 hHeld.1.2 hn2 _ _ _⟩, Below.set3 hHeld.2 (Nat.le_refl _) _ _ _⟩) (fun hHeld => ?_)
    clear hK K
    try simp only [Act.put, List.setIfInBounds_toArray, List.set_cons_zero, List.set_cons_succ]
    first | (refine held_t (i := 12) hHeld ?_; apply Exists.intro; refine ⟨fun wq hq => ?_, ?_⟩; (focus ((try dsimp only at hq); go_simp; (first | done | with_reducible rfl | fail)))) | refine held_s (i := 12) hHeld ?_ | fail
    try simp only [Act.put, List.setIfInBounds_toArray, List.set_cons_zero, List.set_cons_succ]
    refine wpAnyH_done (by kernel_rfl) ?_ _
    have HBX0 := Lib.hid (show Box (((w4.setCell ⟨w3.heap.size, 0, none⟩ (.string pn)).setCell ⟨w3.heap.size, 1, none⟩ (.string pk)).setCell ⟨w3.heap.size, 2, none⟩ (.int .i64 pl)) w3.heap.size [.string pn, .string pk, .int .i64 pl] from hbx.all3 (.string pn) (.string pk) (.int .i64 pl))
    have hAB : w3.heap.size ≠ w1.heap.size := hn3
    have HB5 := Lib.hid (show Below w3.heap.size w3 (((w4.setCell ⟨w3.heap.size, 0, none⟩ (.string pn)).setCell ⟨w3.heap.size, 1, none⟩ (.string pk)).setCell ⟨w3.heap.size, 2, none⟩ (.int .i64 pl)) from hHeld.2)
    clear hHeld hb4 hbx e0 e1 e2 ef p0 c1 c0 c3
    generalize (((w4.setCell ⟨w3.heap.size, 0, none⟩ (.string pn)).setCell ⟨w3.heap.size, 1, none⟩ (.string pk)).setCell ⟨w3.heap.size, 2, none⟩ (.int .i64 pl)) = w5 at *
    obtain ⟨b0, b1, b2, bf⟩ := HBX0.out.three
    have HBX6 := HBX0
    have HB6 := HB5
    have hm1 : rb ≠ w5.heap.size := by have := HB5.out.size; have := HS3.out.lt; omega
    have hm2 : w.heap.size ≠ w5.heap.size := by have := HB5.out.size; have := HX13.out.lt; omega
    have y0 := cell_later HB5.out HP0.out
    have y1 := cell_later HB5.out HC1.out
    clear HP hn1 hn2
    go_wp2_with fail
    clear b0 b1 b2 bf
    refine wp_region_held_drew (S := fun w' => (w'.cell? ⟨rb, 0, none⟩ = some vo ∧ w'.cell? ⟨w.heap.size, 1, none⟩ = some (.string ⟨q.1.text.toArray⟩)) ∧ Below w5.heap.size w5 w') (by kernel_rfl) ⟨⟨y0, y1⟩, (Below.refl _ _).drew⟩ (fun hHeld => ?_)
    first | (refine held_t (i := 0) hHeld ?_; apply Exists.intro; refine ⟨fun wq hq => ?_, ?_⟩; (focus ((try dsimp only at hq); go_simp; (first | done | with_reducible rfl | fail)))) | refine held_s (i := 0) hHeld ?_ | fail
    first | (refine held_t (i := 1) hHeld ?_; apply Exists.intro; refine ⟨fun wq hq => ?_, ?_⟩; (focus ((try dsimp only at hq); go_simp; (first | done | with_reducible rfl | fail)))) | refine held_s (i := 1) hHeld ?_ | fail
    first | (refine held_t (i := 2) hHeld ?_; apply Exists.intro; refine ⟨fun wq hq => ?_, ?_⟩; (focus ((try dsimp only at hq); go_simp; (first | done | with_reducible rfl | fail)))) | refine held_s (i := 2) hHeld ?_ | fail
    first | (refine held_t (i := 3) hHeld ?_; apply Exists.intro; refine ⟨fun wq hq => ?_, ?_⟩; (focus ((try dsimp only at hq); go_simp; (first | done | with_reducible rfl | fail)))) | refine held_s (i := 3) hHeld ?_ | fail
    first | (refine held_t (i := 4) hHeld ?_; apply Exists.intro; refine ⟨fun wq hq => ?_, ?_⟩; (focus ((try dsimp only at hq); go_simp; (first | done | with_reducible rfl | fail)))) | refine held_s (i := 4) hHeld ?_ | fail
    first | (refine held_t (i := 5) hHeld ?_; apply Exists.intro; refine ⟨fun wq hq => ?_, ?_⟩; (focus ((try dsimp only at hq); go_simp; (first | done | with_reducible rfl | fail)))) | refine held_s (i := 5) hHeld ?_ | fail
    try simp only [Act.put, List.setIfInBounds_toArray, List.set_cons_zero, List.set_cons_succ]
    refine wpAnyH_ready (rs := [6, 10]) (by kernel_rfl) (by simp) ?_
    refine AllReadyH.cons (by simp only [List.getElem?_toArray, List.getElem?_cons_zero, List.getElem?_cons_succ]; rfl) (fun K hK => ?_) (AllReadyH.cons (by simp only [List.getElem?_toArray, List.getElem?_cons_zero, List.getElem?_cons_succ]; rfl) (fun K hK => ?_) AllReadyH.nil)
    · go_simp
      (go_at_call 100; refine (HP2.out _ (Ext.trans' HB6.out hHeld.2) _ (PO.out.ext (Ext.trans' HB6.out hHeld.2))).mono ?_; rintro e w7 ⟨rfl, hb7⟩)
      refine hK.out _ _ (⟨⟨cell_later hb7 hHeld.1.1, cell_later hb7 hHeld.1.2⟩, Ext.trans' hHeld.2 hb7⟩) (fun hHeld => ?_)
      clear hK K
      try simp only [Act.put, List.setIfInBounds_toArray, List.set_cons_zero, List.set_cons_succ]
      have hS7 := hHeld
      first | (refine held_t (i := 7) hHeld ?_; apply Exists.intro; refine ⟨fun wq hq => ?_, ?_⟩; (focus ((try dsimp only at hq); go_simp; (first | done | with_reducible rfl | fail)))) | refine held_s (i := 7) hHeld ?_ | fail
      first | (refine held_t (i := 8) hHeld ?_; apply Exists.intro; refine ⟨fun wq hq => ?_, ?_⟩; (focus ((try dsimp only at hq); go_simp; (first | done | with_reducible rfl | fail)))) | refine held_s (i := 8) hHeld ?_ | fail
      first | (refine held_t (i := 9) hHeld ?_; apply Exists.intro; refine ⟨fun wq hq => ?_, ?_⟩; (focus ((try dsimp only at hq); go_simp; (first | done | with_reducible rfl | fail)))) | refine held_s (i := 9) hHeld ?_ | fail
      try simp only [Act.put, List.setIfInBounds_toArray, List.set_cons_zero, List.set_cons_succ]
      refine held_c 10 fun K hK => ?_
      go_simp
      skip
      refine hK.out _ _ (⟨⟨cell_later (bel1' _ _) hHeld.1.1, cell_later (bel1' _ _) hHeld.1.2⟩, Ext.trans' hHeld.2 (bel1' _ _)⟩) (fun hHeld => ?_)
      clear hK K
      try simp only [Act.put, List.setIfInBounds_toArray, List.set_cons_zero, List.set_cons_succ]
      refine held_c 11 fun K hK => ?_
      go_simp
      skip
      refine hK.out _ _ (⟨⟨cell_later (bel1' _ _) hS7.1.1, cell_later (bel1' _ _) hS7.1.2⟩, Ext.trans' hS7.2 (bel1' _ _)⟩) (fun hHeld => ?_)
      clear hK K
      try simp only [Act.put, List.setIfInBounds_toArray, List.set_cons_zero, List.set_cons_succ]
      first | (refine held_t (i := 12) hHeld ?_; apply Exists.intro; refine ⟨fun wq hq => ?_, ?_⟩; (focus ((try dsimp only at hq); go_simp; (first | done | with_reducible rfl | fail)))) | refine held_s (i := 12) hHeld ?_ | fail
      try simp only [Act.put, List.setIfInBounds_toArray, List.set_cons_zero, List.set_cons_succ]
      refine wpAnyH_done (by kernel_rfl) ?_ _
      have HBY0 := Lib.hid (box_ext_new w7 #[.string bn, .string bk, .int .i64 bv] 93 (Below.refl _ _))
      have HB8 := Lib.hid hHeld.2
      clear hHeld hS7 hb7 y0 y1
      generalize World.alloc w7 (.cells #[.string bn, .string bk, .int .i64 bv] 93) = w8 at *
      generalize w7.heap.size = A2 at *
      obtain ⟨_, _, b2, _⟩ := (HBX6.out.ext HB8.out).three
      obtain ⟨_, _, d2, _⟩ := HBY0.out.three
      have HB38 := Lib.hid (Ext.trans' HB6.out HB8.out)
      obtain ⟨_, c1, _, _, _, _⟩ := (HX13.out.ext HB38.out).five
      (go_wp2_with fail; go_fit (atom_at _ ⟨q.1.text.toArray⟩); rintro e w9 ⟨rfl, hb9⟩)
      obtain ⟨r0, r1, r2, r3, rf⟩ := ((HX3.out.ext HB38.out).ext hb9).four
      have HB9 := Lib.hid (Ext.trans' HB38.out hb9)
      clear hb9 b2 d2 c1
      by_cases hz : max pl bv ≤ most
      · have hzd : decide (max pl bv ≤ most) = true := decide_eq_true hz
        have HN := Lib.hid (show X = some ((aT q.1.text, max pl bv), s) from HXX.out.symm.trans (if_pos hz))
        go_wp2
        refine bodyPost_ret (v := .tuple #[.agg #[.int .i64 2, .int .i64 0, .string ⟨q.1.text.toArray⟩, .slice none 0 0], .int .i64 (max pl bv), .bool true]) (by rw [results_cell3 rfl]; go_simp) rfl ?_
        exact tdone_some (HT3.out.trans (Turn.below HB9.out)) (HS3.out.later HB9.out) HMd.out HSB.out (plusB_self D _) HMB.out (leaf_tm _ i64_2 i64_0 HTS.out) HN.out
      · have hzd : decide (max pl bv ≤ most) = false := decide_eq_false hz
        have HN := Lib.hid (show X = none from HXX.out.symm.trans (if_neg hz))
        go_wp2
        refine bodyPost_ret (v := .tuple #[.agg #[.int .i64 2, .int .i64 0, .string ⟨q.1.text.toArray⟩, .slice none 0 0], .int .i64 (max pl bv), .bool false]) (by rw [results_cell3 rfl]; go_simp) rfl ?_
        exact tdone_none (HT3.out.trans (Turn.below HB9.out)) (HS3.out.later HB9.out).okd HMd.out HSB.out (plusB_self D _) (leaf_tm _ i64_2 i64_0 HTS.out) HN.out
    · go_simp
      skip
      refine hK.out _ _ (⟨⟨cell_later (bel1' _ _) hHeld.1.1, cell_later (bel1' _ _) hHeld.1.2⟩, Ext.trans' hHeld.2 (bel1' _ _)⟩) (fun hHeld => ?_)
      clear hK K
      try simp only [Act.put, List.setIfInBounds_toArray, List.set_cons_zero, List.set_cons_succ]
      refine held_c 6 fun K hK => ?_
      go_simp
      (go_at_call 100; refine (HP2.out _ (Ext.trans' HB6.out hHeld.2) _ (PO.out.ext (Ext.trans' HB6.out hHeld.2))).mono ?_; rintro e w7 ⟨rfl, hb7⟩; have hbx : Box w7 w5.heap.size [.string ⟨#[]⟩, .string ⟨#[]⟩, .int .i64 0] := box_ext_new w5.drew _ _ hb7; obtain ⟨e0, e1, e2, ef⟩ := hbx.three)
      refine hK.out _ _ (⟨⟨cell_later hb7 hHeld.1.1, cell_later hb7 hHeld.1.2⟩, Ext.trans' hHeld.2 hb7⟩) (fun hHeld => ?_)
      clear hK K
      try simp only [Act.put, List.setIfInBounds_toArray, List.set_cons_zero, List.set_cons_succ]
      first | (refine held_t (i := 7) hHeld ?_; apply Exists.intro; refine ⟨fun wq hq => ?_, ?_⟩; (focus ((try dsimp only at hq); go_simp; (first | done | with_reducible rfl | fail)))) | refine held_s (i := 7) hHeld ?_ | fail
      first | (refine held_t (i := 8) hHeld ?_; apply Exists.intro; refine ⟨fun wq hq => ?_, ?_⟩; (focus ((try dsimp only at hq); go_simp; (first | done | with_reducible rfl | fail)))) | refine held_s (i := 8) hHeld ?_ | fail
      first | (refine held_t (i := 9) hHeld ?_; apply Exists.intro; refine ⟨fun wq hq => ?_, ?_⟩; (focus ((try dsimp only at hq); go_simp; (first | done | with_reducible rfl | fail)))) | refine held_s (i := 9) hHeld ?_ | fail
      try simp only [Act.put, List.setIfInBounds_toArray, List.set_cons_zero, List.set_cons_succ]
      refine held_c 11 fun K hK => ?_
      go_simp
      skip
      refine hK.out _ _ (⟨⟨far3 hHeld.1.1 hm1 _ _ _, far3 hHeld.1.2 hm2 _ _ _⟩, Below.set3 hHeld.2 (Nat.le_refl _) _ _ _⟩) (fun hHeld => ?_)
      clear hK K
      try simp only [Act.put, List.setIfInBounds_toArray, List.set_cons_zero, List.set_cons_succ]
      first | (refine held_t (i := 12) hHeld ?_; apply Exists.intro; refine ⟨fun wq hq => ?_, ?_⟩; (focus ((try dsimp only at hq); go_simp; (first | done | with_reducible rfl | fail)))) | refine held_s (i := 12) hHeld ?_ | fail
      try simp only [Act.put, List.setIfInBounds_toArray, List.set_cons_zero, List.set_cons_succ]
      refine wpAnyH_done (by kernel_rfl) ?_ _
      have HBY0 := Lib.hid (show Box (((w7.setCell ⟨w5.heap.size, 0, none⟩ (.string bn)).setCell ⟨w5.heap.size, 1, none⟩ (.string bk)).setCell ⟨w5.heap.size, 2, none⟩ (.int .i64 bv)) w5.heap.size [.string bn, .string bk, .int .i64 bv] from hbx.all3 (.string bn) (.string bk) (.int .i64 bv))
      have HB8 := Lib.hid (show Below w5.heap.size w5 (((w7.setCell ⟨w5.heap.size, 0, none⟩ (.string bn)).setCell ⟨w5.heap.size, 1, none⟩ (.string bk)).setCell ⟨w5.heap.size, 2, none⟩ (.int .i64 bv)) from hHeld.2)
      clear hHeld hb7 hbx e0 e1 e2 ef y0 y1
      generalize (((w7.setCell ⟨w5.heap.size, 0, none⟩ (.string bn)).setCell ⟨w5.heap.size, 1, none⟩ (.string bk)).setCell ⟨w5.heap.size, 2, none⟩ (.int .i64 bv)) = w8 at *
      obtain ⟨_, _, b2, _⟩ := (HBX6.out.ext HB8.out).three
      obtain ⟨_, _, d2, _⟩ := HBY0.out.three
      have HB38 := Lib.hid (Ext.trans' HB6.out HB8.out)
      obtain ⟨_, c1, _, _, _, _⟩ := (HX13.out.ext HB38.out).five
      (go_wp2_with fail; go_fit (atom_at _ ⟨q.1.text.toArray⟩); rintro e w9 ⟨rfl, hb9⟩)
      obtain ⟨r0, r1, r2, r3, rf⟩ := ((HX3.out.ext HB38.out).ext hb9).four
      have HB9 := Lib.hid (Ext.trans' HB38.out hb9)
      clear hb9 b2 d2 c1
      by_cases hz : max pl bv ≤ most
      · have hzd : decide (max pl bv ≤ most) = true := decide_eq_true hz
        have HN := Lib.hid (show X = some ((aT q.1.text, max pl bv), s) from HXX.out.symm.trans (if_pos hz))
        go_wp2
        refine bodyPost_ret (v := .tuple #[.agg #[.int .i64 2, .int .i64 0, .string ⟨q.1.text.toArray⟩, .slice none 0 0], .int .i64 (max pl bv), .bool true]) (by rw [results_cell3 rfl]; go_simp) rfl ?_
        exact tdone_some (HT3.out.trans (Turn.below HB9.out)) (HS3.out.later HB9.out) HMd.out HSB.out (plusB_self D _) HMB.out (leaf_tm _ i64_2 i64_0 HTS.out) HN.out
      · have hzd : decide (max pl bv ≤ most) = false := decide_eq_false hz
        have HN := Lib.hid (show X = none from HXX.out.symm.trans (if_neg hz))
        go_wp2
        refine bodyPost_ret (v := .tuple #[.agg #[.int .i64 2, .int .i64 0, .string ⟨q.1.text.toArray⟩, .slice none 0 0], .int .i64 (max pl bv), .bool false]) (by rw [results_cell3 rfl]; go_simp) rfl ?_
        exact tdone_none (HT3.out.trans (Turn.below HB9.out)) (HS3.out.later HB9.out).okd HMd.out HSB.out (plusB_self D _) (leaf_tm _ i64_2 i64_0 HTS.out) HN.out
set_option maxRecDepth 100000 in
set_option maxHeartbeats 8000000 in
theorem named_plain_b {xs : List O} {n : Nat} (ih : IHT xs n) {D M : Nat → Bool} {w : World} {rb : Nat} {s : RS} (h : St D M w rb xs s) (hlt : s.rest.length < n) (q : TokP) (hq : tokOk q) (most : Int) (hm : isMinusR q (headR s) = false) (ho : q.1.opens = false) (hk : q.1.kind = 1)
    (pn pk bn bk : ByteArray) (pl bv : Int) (pg : Bool) (hpg : pg = true) (hle : ¬ pl ≤ most) (bg : Bool) (hpre : oneB xs q.1.text 1 = (⟨pn, pk, pl⟩, pg)) (hbet : oneB xs q.1.text 2 = (⟨bn, bk, bv⟩, bg)) :
    Calls Tryz.prog 96 #[.pointer (some ⟨rb, 0, none⟩), tkVal q, .int .i64 most] w (TPost D M w rb xs ((if max pl bv ≤ most then some ((aT q.1.text, max pl bv), s) else none : Out TL))) := by
  obtain ⟨X, hX⟩ : ∃ X, (if max pl bv ≤ most then some ((aT q.1.text, max pl bv), s) else none : Out TL) = X := ⟨_, rfl⟩
  rw [hX]
  have HXX := Lib.hid hX
  obtain ⟨w1, hw1, hb1, hz1, hx1⟩ := box_new w #[.int .i64 (q.1.kind : Int), .string ⟨q.1.text.toArray⟩, .int .i64 (q.1.n : Int), .bool q.1.opens, .int .i64 (q.2 : Int)] 125
  obtain ⟨w2, hw2, hb2, hz2, hx2⟩ := box_new w1 #[.int .i64 0, .int .i64 0, .string ⟨#[]⟩, .slice none 0 0] 31
  have h2 := h.box (Ext.trans' hb1 hb2) hb1.size hx2.lt
  have HMd := Lib.hid h.md
  have HMB := Lib.hid (Old.out h hb1.size)
  have HMT := Lib.hid (Old.out h (Nat.le_refl _))
  have HSB := Lib.hid hb1.size
  have HT2 := Lib.hid (box_plus (D := D) (M := M) hb1 hb2)
  have HM := isMinus_at h2 q hq.2.2
  rw [hm] at HM
  have HM := Lib.hid HM
  have HS2 := Lib.hid h2
  have HX := Lib.hid hx2
  have HX1 := Lib.hid (hx1.ext hb2)
  obtain ⟨c0, c1, c2, c3, c4, cf⟩ := HX1.out.five
  have HQ := Lib.hid hq
  have HO := Lib.hid ho
  have hP2 := fun (w3 wq : World) (hb : Below w3.heap.size w3 wq) (v : Value) (hv : Ops wq v xs) => in_walk hv ⟨q.1.text.toArray⟩
  rw [show bl (⟨q.1.text.toArray⟩ : ByteArray) = q.1.text from rfl, hbet] at hP2
  have HPP := Lib.hid hP2
  clear hP2 hbet
  subst hpg
  have hled : decide (pl ≤ most) = false := decide_eq_false hle
  have HIH := Lib.hid ih
  have HLT := Lib.hid hlt
  have hts : (⟨q.1.text.toArray⟩ : ByteArray).size ≤ BIG := by have := hq.2.1; show q.1.text.toArray.size ≤ _; simp; unfold BIG; omega
  have HTS := Lib.hid hts
  have k2 : ((q.1.kind : Int) == 2) = false := by rw [hk]; rfl
  have hlt0 := h.lt
  have hrb1 : rb ≠ w1.heap.size := by omega
  have hne1 : w.heap.size ≠ w1.heap.size := by omega
  clear hle h hq hb1 hb2 hz1 hz2 hx1 hx2 h2 hm ho hk hX hlt ih hts
  go_enter Tryz.func96, Tryz.ntmps96
  go_wp2_with fail
  (try rw [hw1])
  (try rw [hw2])
  clear hw1 hw2
  (go_wp2_with fail; go_fit (HM.out); rintro e w3 ⟨rfl, hb3⟩)
  obtain ⟨c0, c1, c2, c3, c4, cf⟩ := (HX1.out.ext hb3).five
  rw [HO.out] at c3
  have HS3 := Lib.hid (HS2.out.later hb3)
  have HT3 := Lib.hid (HT2.out.trans (Turn.below hb3))
  have HX3 := Lib.hid (HX.out.ext hb3)
  have HX13 := Lib.hid (HX1.out.ext hb3)
  obtain ⟨vo, _, _, p0, _, _, _, _, po, _⟩ := HS3.out.parts
  have PO := Lib.hid po.bare
  have hn1 : rb ≠ w3.heap.size := (World.new_ne w3 _ p0).symm
  have hn2 : w.heap.size ≠ w3.heap.size := (World.new_ne w3 _ c1).symm
  have hn3 : w3.heap.size ≠ w1.heap.size := by have := HX3.out.lt; omega
  have hBw : w1.heap.size < w3.heap.size := HX3.out.lt
  have HP := Lib.hid (fun wq (hb : Below w3.heap.size w3 wq) (v : Value) (hv : Ops wq v xs) => pre_walk hv ⟨q.1.text.toArray⟩)
  rw [show bl (⟨q.1.text.toArray⟩ : ByteArray) = q.1.text from rfl, hpre] at HP
  have HP2 := Lib.hid (HPP.out w3)
  clear hb3 po c2 c4 cf hpre HPP
  go_wp2_with fail
  have HP0 := Lib.hid p0
  have HC1 := Lib.hid c1
  refine wp_region_held_drew (S := fun w' => (w'.cell? ⟨rb, 0, none⟩ = some vo ∧ w'.cell? ⟨w.heap.size, 1, none⟩ = some (.string ⟨q.1.text.toArray⟩)) ∧ Below w3.heap.size w3 w') (by kernel_rfl) ⟨⟨p0, c1⟩, (Below.refl _ _).drew⟩ (fun hHeld => ?_)
  first | (refine held_t (i := 0) hHeld ?_; apply Exists.intro; refine ⟨fun wq hq => ?_, ?_⟩; (focus ((try dsimp only at hq); go_simp; (first | done | with_reducible rfl | fail)))) | refine held_s (i := 0) hHeld ?_ | fail
  first | (refine held_t (i := 1) hHeld ?_; apply Exists.intro; refine ⟨fun wq hq => ?_, ?_⟩; (focus ((try dsimp only at hq); go_simp; (first | done | with_reducible rfl | fail)))) | refine held_s (i := 1) hHeld ?_ | fail
  first | (refine held_t (i := 2) hHeld ?_; apply Exists.intro; refine ⟨fun wq hq => ?_, ?_⟩; (focus ((try dsimp only at hq); go_simp; (first | done | with_reducible rfl | fail)))) | refine held_s (i := 2) hHeld ?_ | fail
  first | (refine held_t (i := 3) hHeld ?_; apply Exists.intro; refine ⟨fun wq hq => ?_, ?_⟩; (focus ((try dsimp only at hq); go_simp; (first | done | with_reducible rfl | fail)))) | refine held_s (i := 3) hHeld ?_ | fail
  first | (refine held_t (i := 4) hHeld ?_; apply Exists.intro; refine ⟨fun wq hq => ?_, ?_⟩; (focus ((try dsimp only at hq); go_simp; (first | done | with_reducible rfl | fail)))) | refine held_s (i := 4) hHeld ?_ | fail
  first | (refine held_t (i := 5) hHeld ?_; apply Exists.intro; refine ⟨fun wq hq => ?_, ?_⟩; (focus ((try dsimp only at hq); go_simp; (first | done | with_reducible rfl | fail)))) | refine held_s (i := 5) hHeld ?_ | fail
  try simp only [Act.put, List.setIfInBounds_toArray, List.set_cons_zero, List.set_cons_succ]
  refine wpAnyH_ready (rs := [6, 10]) (by kernel_rfl) (by simp) ?_
  refine AllReadyH.cons (by simp only [List.getElem?_toArray, List.getElem?_cons_zero, List.getElem?_cons_succ]; rfl) (fun K hK => ?_) (AllReadyH.cons (by simp only [List.getElem?_toArray, List.getElem?_cons_zero, List.getElem?_cons_succ]; rfl) (fun K hK => ?_) AllReadyH.nil)
  · go_simp
    (go_at_call 118; refine (HP.out _ hHeld.2 _ (PO.out.ext hHeld.2)).mono ?_; rintro e w4 ⟨rfl, hb4⟩)
    refine hK.out _ _ (⟨⟨cell_later hb4 hHeld.1.1, cell_later hb4 hHeld.1.2⟩, Ext.trans' hHeld.2 hb4⟩) (fun hHeld => ?_)
    clear hK K
    try simp only [Act.put, List.setIfInBounds_toArray, List.set_cons_zero, List.set_cons_succ]
    have hS4 := hHeld
    first | (refine held_t (i := 7) hHeld ?_; apply Exists.intro; refine ⟨fun wq hq => ?_, ?_⟩; (focus ((try dsimp only at hq); go_simp; (first | done | with_reducible rfl | fail)))) | refine held_s (i := 7) hHeld ?_ | fail
    first | (refine held_t (i := 8) hHeld ?_; apply Exists.intro; refine ⟨fun wq hq => ?_, ?_⟩; (focus ((try dsimp only at hq); go_simp; (first | done | with_reducible rfl | fail)))) | refine held_s (i := 8) hHeld ?_ | fail
    first | (refine held_t (i := 9) hHeld ?_; apply Exists.intro; refine ⟨fun wq hq => ?_, ?_⟩; (focus ((try dsimp only at hq); go_simp; (first | done | with_reducible rfl | fail)))) | refine held_s (i := 9) hHeld ?_ | fail
    try simp only [Act.put, List.setIfInBounds_toArray, List.set_cons_zero, List.set_cons_succ]
    refine held_c 10 fun K hK => ?_
    go_simp
    skip
    refine hK.out _ _ (⟨⟨cell_later (bel1' _ _) hHeld.1.1, cell_later (bel1' _ _) hHeld.1.2⟩, Ext.trans' hHeld.2 (bel1' _ _)⟩) (fun hHeld => ?_)
    clear hK K
    try simp only [Act.put, List.setIfInBounds_toArray, List.set_cons_zero, List.set_cons_succ]
    refine held_c 11 fun K hK => ?_
    go_simp
    skip
    refine hK.out _ _ (⟨⟨cell_later (bel1' _ _) hS4.1.1, cell_later (bel1' _ _) hS4.1.2⟩, Ext.trans' hS4.2 (bel1' _ _)⟩) (fun hHeld => ?_)
    clear hK K
    try simp only [Act.put, List.setIfInBounds_toArray, List.set_cons_zero, List.set_cons_succ]
    first | (refine held_t (i := 12) hHeld ?_; apply Exists.intro; refine ⟨fun wq hq => ?_, ?_⟩; (focus ((try dsimp only at hq); go_simp; (first | done | with_reducible rfl | fail)))) | refine held_s (i := 12) hHeld ?_ | fail
    try simp only [Act.put, List.setIfInBounds_toArray, List.set_cons_zero, List.set_cons_succ]
    refine wpAnyH_done (by kernel_rfl) ?_ _
    have HBX0 := Lib.hid (box_ext_new w4 #[.string pn, .string pk, .int .i64 pl] 93 (Below.refl _ _))
    have hAB : w4.heap.size ≠ w1.heap.size := by have := hS4.2.size; omega
    have HB5 := Lib.hid hHeld.2
    clear hHeld hS4 hb4 p0 c1 c0 c3
    generalize World.alloc w4 (.cells #[.string pn, .string pk, .int .i64 pl] 93) = w5 at *
    generalize w4.heap.size = A at *
    obtain ⟨b0, b1, b2, bf⟩ := HBX0.out.three
    have HBX6 := HBX0
    have HB6 := HB5
    have hm1 : rb ≠ w5.heap.size := by have := HB5.out.size; have := HS3.out.lt; omega
    have hm2 : w.heap.size ≠ w5.heap.size := by have := HB5.out.size; have := HX13.out.lt; omega
    have y0 := cell_later HB5.out HP0.out
    have y1 := cell_later HB5.out HC1.out
    clear HP hn1 hn2
    go_wp2_with fail
    clear b0 b1 b2 bf
    refine wp_region_held_drew (S := fun w' => (w'.cell? ⟨rb, 0, none⟩ = some vo ∧ w'.cell? ⟨w.heap.size, 1, none⟩ = some (.string ⟨q.1.text.toArray⟩)) ∧ Below w5.heap.size w5 w') (by kernel_rfl) ⟨⟨y0, y1⟩, (Below.refl _ _).drew⟩ (fun hHeld => ?_)
    first | (refine held_t (i := 0) hHeld ?_; apply Exists.intro; refine ⟨fun wq hq => ?_, ?_⟩; (focus ((try dsimp only at hq); go_simp; (first | done | with_reducible rfl | fail)))) | refine held_s (i := 0) hHeld ?_ | fail
    first | (refine held_t (i := 1) hHeld ?_; apply Exists.intro; refine ⟨fun wq hq => ?_, ?_⟩; (focus ((try dsimp only at hq); go_simp; (first | done | with_reducible rfl | fail)))) | refine held_s (i := 1) hHeld ?_ | fail
    first | (refine held_t (i := 2) hHeld ?_; apply Exists.intro; refine ⟨fun wq hq => ?_, ?_⟩; (focus ((try dsimp only at hq); go_simp; (first | done | with_reducible rfl | fail)))) | refine held_s (i := 2) hHeld ?_ | fail
    first | (refine held_t (i := 3) hHeld ?_; apply Exists.intro; refine ⟨fun wq hq => ?_, ?_⟩; (focus ((try dsimp only at hq); go_simp; (first | done | with_reducible rfl | fail)))) | refine held_s (i := 3) hHeld ?_ | fail
    first | (refine held_t (i := 4) hHeld ?_; apply Exists.intro; refine ⟨fun wq hq => ?_, ?_⟩; (focus ((try dsimp only at hq); go_simp; (first | done | with_reducible rfl | fail)))) | refine held_s (i := 4) hHeld ?_ | fail
    first | (refine held_t (i := 5) hHeld ?_; apply Exists.intro; refine ⟨fun wq hq => ?_, ?_⟩; (focus ((try dsimp only at hq); go_simp; (first | done | with_reducible rfl | fail)))) | refine held_s (i := 5) hHeld ?_ | fail
    try simp only [Act.put, List.setIfInBounds_toArray, List.set_cons_zero, List.set_cons_succ]
    refine wpAnyH_ready (rs := [6, 10]) (by kernel_rfl) (by simp) ?_
    refine AllReadyH.cons (by simp only [List.getElem?_toArray, List.getElem?_cons_zero, List.getElem?_cons_succ]; rfl) (fun K hK => ?_) (AllReadyH.cons (by simp only [List.getElem?_toArray, List.getElem?_cons_zero, List.getElem?_cons_succ]; rfl) (fun K hK => ?_) AllReadyH.nil)
    · go_simp
      (go_at_call 100; refine (HP2.out _ (Ext.trans' HB6.out hHeld.2) _ (PO.out.ext (Ext.trans' HB6.out hHeld.2))).mono ?_; rintro e w7 ⟨rfl, hb7⟩)
      refine hK.out _ _ (⟨⟨cell_later hb7 hHeld.1.1, cell_later hb7 hHeld.1.2⟩, Ext.trans' hHeld.2 hb7⟩) (fun hHeld => ?_)
      clear hK K
      try simp only [Act.put, List.setIfInBounds_toArray, List.set_cons_zero, List.set_cons_succ]
      have hS7 := hHeld
      first | (refine held_t (i := 7) hHeld ?_; apply Exists.intro; refine ⟨fun wq hq => ?_, ?_⟩; (focus ((try dsimp only at hq); go_simp; (first | done | with_reducible rfl | fail)))) | refine held_s (i := 7) hHeld ?_ | fail
      first | (refine held_t (i := 8) hHeld ?_; apply Exists.intro; refine ⟨fun wq hq => ?_, ?_⟩; (focus ((try dsimp only at hq); go_simp; (first | done | with_reducible rfl | fail)))) | refine held_s (i := 8) hHeld ?_ | fail
      first | (refine held_t (i := 9) hHeld ?_; apply Exists.intro; refine ⟨fun wq hq => ?_, ?_⟩; (focus ((try dsimp only at hq); go_simp; (first | done | with_reducible rfl | fail)))) | refine held_s (i := 9) hHeld ?_ | fail
      try simp only [Act.put, List.setIfInBounds_toArray, List.set_cons_zero, List.set_cons_succ]
      refine held_c 10 fun K hK => ?_
      go_simp
      skip
      refine hK.out _ _ (⟨⟨cell_later (bel1' _ _) hHeld.1.1, cell_later (bel1' _ _) hHeld.1.2⟩, Ext.trans' hHeld.2 (bel1' _ _)⟩) (fun hHeld => ?_)
      clear hK K
      try simp only [Act.put, List.setIfInBounds_toArray, List.set_cons_zero, List.set_cons_succ]
      refine held_c 11 fun K hK => ?_
      go_simp
      skip
      refine hK.out _ _ (⟨⟨cell_later (bel1' _ _) hS7.1.1, cell_later (bel1' _ _) hS7.1.2⟩, Ext.trans' hS7.2 (bel1' _ _)⟩) (fun hHeld => ?_)
      clear hK K
      try simp only [Act.put, List.setIfInBounds_toArray, List.set_cons_zero, List.set_cons_succ]
      first | (refine held_t (i := 12) hHeld ?_; apply Exists.intro; refine ⟨fun wq hq => ?_, ?_⟩; (focus ((try dsimp only at hq); go_simp; (first | done | with_reducible rfl | fail)))) | refine held_s (i := 12) hHeld ?_ | fail
      try simp only [Act.put, List.setIfInBounds_toArray, List.set_cons_zero, List.set_cons_succ]
      refine wpAnyH_done (by kernel_rfl) ?_ _
      have HBY0 := Lib.hid (box_ext_new w7 #[.string bn, .string bk, .int .i64 bv] 93 (Below.refl _ _))
      have HB8 := Lib.hid hHeld.2
      clear hHeld hS7 hb7 y0 y1
      generalize World.alloc w7 (.cells #[.string bn, .string bk, .int .i64 bv] 93) = w8 at *
      generalize w7.heap.size = A2 at *
      obtain ⟨_, _, b2, _⟩ := (HBX6.out.ext HB8.out).three
      obtain ⟨_, _, d2, _⟩ := HBY0.out.three
      have HB38 := Lib.hid (Ext.trans' HB6.out HB8.out)
      obtain ⟨_, c1, _, _, _, _⟩ := (HX13.out.ext HB38.out).five
      (go_wp2_with fail; go_fit (atom_at _ ⟨q.1.text.toArray⟩); rintro e w9 ⟨rfl, hb9⟩)
      obtain ⟨r0, r1, r2, r3, rf⟩ := ((HX3.out.ext HB38.out).ext hb9).four
      have HB9 := Lib.hid (Ext.trans' HB38.out hb9)
      clear hb9 b2 d2 c1
      by_cases hz : max pl bv ≤ most
      · have hzd : decide (max pl bv ≤ most) = true := decide_eq_true hz
        have HN := Lib.hid (show X = some ((aT q.1.text, max pl bv), s) from HXX.out.symm.trans (if_pos hz))
        go_wp2
        refine bodyPost_ret (v := .tuple #[.agg #[.int .i64 2, .int .i64 0, .string ⟨q.1.text.toArray⟩, .slice none 0 0], .int .i64 (max pl bv), .bool true]) (by rw [results_cell3 rfl]; go_simp) rfl ?_
        exact tdone_some (HT3.out.trans (Turn.below HB9.out)) (HS3.out.later HB9.out) HMd.out HSB.out (plusB_self D _) HMB.out (leaf_tm _ i64_2 i64_0 HTS.out) HN.out
      · have hzd : decide (max pl bv ≤ most) = false := decide_eq_false hz
        have HN := Lib.hid (show X = none from HXX.out.symm.trans (if_neg hz))
        go_wp2
        refine bodyPost_ret (v := .tuple #[.agg #[.int .i64 2, .int .i64 0, .string ⟨q.1.text.toArray⟩, .slice none 0 0], .int .i64 (max pl bv), .bool false]) (by rw [results_cell3 rfl]; go_simp) rfl ?_
        exact tdone_none (HT3.out.trans (Turn.below HB9.out)) (HS3.out.later HB9.out).okd HMd.out HSB.out (plusB_self D _) (leaf_tm _ i64_2 i64_0 HTS.out) HN.out
    · go_simp
      skip
      refine hK.out _ _ (⟨⟨cell_later (bel1' _ _) hHeld.1.1, cell_later (bel1' _ _) hHeld.1.2⟩, Ext.trans' hHeld.2 (bel1' _ _)⟩) (fun hHeld => ?_)
      clear hK K
      try simp only [Act.put, List.setIfInBounds_toArray, List.set_cons_zero, List.set_cons_succ]
      refine held_c 6 fun K hK => ?_
      go_simp
      (go_at_call 100; refine (HP2.out _ (Ext.trans' HB6.out hHeld.2) _ (PO.out.ext (Ext.trans' HB6.out hHeld.2))).mono ?_; rintro e w7 ⟨rfl, hb7⟩; have hbx : Box w7 w5.heap.size [.string ⟨#[]⟩, .string ⟨#[]⟩, .int .i64 0] := box_ext_new w5.drew _ _ hb7; obtain ⟨e0, e1, e2, ef⟩ := hbx.three)
      refine hK.out _ _ (⟨⟨cell_later hb7 hHeld.1.1, cell_later hb7 hHeld.1.2⟩, Ext.trans' hHeld.2 hb7⟩) (fun hHeld => ?_)
      clear hK K
      try simp only [Act.put, List.setIfInBounds_toArray, List.set_cons_zero, List.set_cons_succ]
      first | (refine held_t (i := 7) hHeld ?_; apply Exists.intro; refine ⟨fun wq hq => ?_, ?_⟩; (focus ((try dsimp only at hq); go_simp; (first | done | with_reducible rfl | fail)))) | refine held_s (i := 7) hHeld ?_ | fail
      first | (refine held_t (i := 8) hHeld ?_; apply Exists.intro; refine ⟨fun wq hq => ?_, ?_⟩; (focus ((try dsimp only at hq); go_simp; (first | done | with_reducible rfl | fail)))) | refine held_s (i := 8) hHeld ?_ | fail
      first | (refine held_t (i := 9) hHeld ?_; apply Exists.intro; refine ⟨fun wq hq => ?_, ?_⟩; (focus ((try dsimp only at hq); go_simp; (first | done | with_reducible rfl | fail)))) | refine held_s (i := 9) hHeld ?_ | fail
      try simp only [Act.put, List.setIfInBounds_toArray, List.set_cons_zero, List.set_cons_succ]
      refine held_c 11 fun K hK => ?_
      go_simp
      skip
      refine hK.out _ _ (⟨⟨far3 hHeld.1.1 hm1 _ _ _, far3 hHeld.1.2 hm2 _ _ _⟩, Below.set3 hHeld.2 (Nat.le_refl _) _ _ _⟩) (fun hHeld => ?_)
      clear hK K
      try simp only [Act.put, List.setIfInBounds_toArray, List.set_cons_zero, List.set_cons_succ]
      first | (refine held_t (i := 12) hHeld ?_; apply Exists.intro; refine ⟨fun wq hq => ?_, ?_⟩; (focus ((try dsimp only at hq); go_simp; (first | done | with_reducible rfl | fail)))) | refine held_s (i := 12) hHeld ?_ | fail
      try simp only [Act.put, List.setIfInBounds_toArray, List.set_cons_zero, List.set_cons_succ]
      refine wpAnyH_done (by kernel_rfl) ?_ _
      have HBY0 := Lib.hid (show Box (((w7.setCell ⟨w5.heap.size, 0, none⟩ (.string bn)).setCell ⟨w5.heap.size, 1, none⟩ (.string bk)).setCell ⟨w5.heap.size, 2, none⟩ (.int .i64 bv)) w5.heap.size [.string bn, .string bk, .int .i64 bv] from hbx.all3 (.string bn) (.string bk) (.int .i64 bv))
      have HB8 := Lib.hid (show Below w5.heap.size w5 (((w7.setCell ⟨w5.heap.size, 0, none⟩ (.string bn)).setCell ⟨w5.heap.size, 1, none⟩ (.string bk)).setCell ⟨w5.heap.size, 2, none⟩ (.int .i64 bv)) from hHeld.2)
      clear hHeld hb7 hbx e0 e1 e2 ef y0 y1
      generalize (((w7.setCell ⟨w5.heap.size, 0, none⟩ (.string bn)).setCell ⟨w5.heap.size, 1, none⟩ (.string bk)).setCell ⟨w5.heap.size, 2, none⟩ (.int .i64 bv)) = w8 at *
      obtain ⟨_, _, b2, _⟩ := (HBX6.out.ext HB8.out).three
      obtain ⟨_, _, d2, _⟩ := HBY0.out.three
      have HB38 := Lib.hid (Ext.trans' HB6.out HB8.out)
      obtain ⟨_, c1, _, _, _, _⟩ := (HX13.out.ext HB38.out).five
      (go_wp2_with fail; go_fit (atom_at _ ⟨q.1.text.toArray⟩); rintro e w9 ⟨rfl, hb9⟩)
      obtain ⟨r0, r1, r2, r3, rf⟩ := ((HX3.out.ext HB38.out).ext hb9).four
      have HB9 := Lib.hid (Ext.trans' HB38.out hb9)
      clear hb9 b2 d2 c1
      by_cases hz : max pl bv ≤ most
      · have hzd : decide (max pl bv ≤ most) = true := decide_eq_true hz
        have HN := Lib.hid (show X = some ((aT q.1.text, max pl bv), s) from HXX.out.symm.trans (if_pos hz))
        go_wp2
        refine bodyPost_ret (v := .tuple #[.agg #[.int .i64 2, .int .i64 0, .string ⟨q.1.text.toArray⟩, .slice none 0 0], .int .i64 (max pl bv), .bool true]) (by rw [results_cell3 rfl]; go_simp) rfl ?_
        exact tdone_some (HT3.out.trans (Turn.below HB9.out)) (HS3.out.later HB9.out) HMd.out HSB.out (plusB_self D _) HMB.out (leaf_tm _ i64_2 i64_0 HTS.out) HN.out
      · have hzd : decide (max pl bv ≤ most) = false := decide_eq_false hz
        have HN := Lib.hid (show X = none from HXX.out.symm.trans (if_neg hz))
        go_wp2
        refine bodyPost_ret (v := .tuple #[.agg #[.int .i64 2, .int .i64 0, .string ⟨q.1.text.toArray⟩, .slice none 0 0], .int .i64 (max pl bv), .bool false]) (by rw [results_cell3 rfl]; go_simp) rfl ?_
        exact tdone_none (HT3.out.trans (Turn.below HB9.out)) (HS3.out.later HB9.out).okd HMd.out HSB.out (plusB_self D _) (leaf_tm _ i64_2 i64_0 HTS.out) HN.out
  · go_simp
    skip
    refine hK.out _ _ (⟨⟨cell_later (bel1' _ _) hHeld.1.1, cell_later (bel1' _ _) hHeld.1.2⟩, Ext.trans' hHeld.2 (bel1' _ _)⟩) (fun hHeld => ?_)
    clear hK K
    try simp only [Act.put, List.setIfInBounds_toArray, List.set_cons_zero, List.set_cons_succ]
    refine held_c 6 fun K hK => ?_
    go_simp
    (go_at_call 118; refine (HP.out _ hHeld.2 _ (PO.out.ext hHeld.2)).mono ?_; rintro e w4 ⟨rfl, hb4⟩; have hbx : Box w4 w3.heap.size [.string ⟨#[]⟩, .string ⟨#[]⟩, .int .i64 0] := box_ext_new w3.drew _ _ hb4; obtain ⟨e0, e1, e2, ef⟩ := hbx.three)
    refine hK.out _ _ (⟨⟨cell_later hb4 hHeld.1.1, cell_later hb4 hHeld.1.2⟩, Ext.trans' hHeld.2 hb4⟩) (fun hHeld => ?_)
    clear hK K
    try simp only [Act.put, List.setIfInBounds_toArray, List.set_cons_zero, List.set_cons_succ]
    first | (refine held_t (i := 7) hHeld ?_; apply Exists.intro; refine ⟨fun wq hq => ?_, ?_⟩; (focus ((try dsimp only at hq); go_simp; (first | done | with_reducible rfl | fail)))) | refine held_s (i := 7) hHeld ?_ | fail
    first | (refine held_t (i := 8) hHeld ?_; apply Exists.intro; refine ⟨fun wq hq => ?_, ?_⟩; (focus ((try dsimp only at hq); go_simp; (first | done | with_reducible rfl | fail)))) | refine held_s (i := 8) hHeld ?_ | fail
    first | (refine held_t (i := 9) hHeld ?_; apply Exists.intro; refine ⟨fun wq hq => ?_, ?_⟩; (focus ((try dsimp only at hq); go_simp; (first | done | with_reducible rfl | fail)))) | refine held_s (i := 9) hHeld ?_ | fail
    try simp only [Act.put, List.setIfInBounds_toArray, List.set_cons_zero, List.set_cons_succ]
    refine held_c 11 fun K hK => ?_
    go_simp
    skip
    refine hK.out _ _ (⟨⟨far3 hHeld.1.1 hn1 _ _ _, far3 hHeld.1.2 hn2 _ _ _⟩, Below.set3 hHeld.2 (Nat.le_refl _) _ _ _⟩) (fun hHeld => ?_)
    clear hK K
    try simp only [Act.put, List.setIfInBounds_toArray, List.set_cons_zero, List.set_cons_succ]
    first | (refine held_t (i := 12) hHeld ?_; apply Exists.intro; refine ⟨fun wq hq => ?_, ?_⟩; (focus ((try dsimp only at hq); go_simp; (first | done | with_reducible rfl | fail)))) | refine held_s (i := 12) hHeld ?_ | fail
    try simp only [Act.put, List.setIfInBounds_toArray, List.set_cons_zero, List.set_cons_succ]
    refine wpAnyH_done (by kernel_rfl) ?_ _
    have HBX0 := Lib.hid (show Box (((w4.setCell ⟨w3.heap.size, 0, none⟩ (.string pn)).setCell ⟨w3.heap.size, 1, none⟩ (.string pk)).setCell ⟨w3.heap.size, 2, none⟩ (.int .i64 pl)) w3.heap.size [.string pn, .string pk, .int .i64 pl] from hbx.all3 (.string pn) (.string pk) (.int .i64 pl))
    have hAB : w3.heap.size ≠ w1.heap.size := hn3
    have HB5 := Lib.hid (show Below w3.heap.size w3 (((w4.setCell ⟨w3.heap.size, 0, none⟩ (.string pn)).setCell ⟨w3.heap.size, 1, none⟩ (.string pk)).setCell ⟨w3.heap.size, 2, none⟩ (.int .i64 pl)) from hHeld.2)
    clear hHeld hb4 hbx e0 e1 e2 ef p0 c1 c0 c3
    generalize (((w4.setCell ⟨w3.heap.size, 0, none⟩ (.string pn)).setCell ⟨w3.heap.size, 1, none⟩ (.string pk)).setCell ⟨w3.heap.size, 2, none⟩ (.int .i64 pl)) = w5 at *
    obtain ⟨b0, b1, b2, bf⟩ := HBX0.out.three
    have HBX6 := HBX0
    have HB6 := HB5
    have hm1 : rb ≠ w5.heap.size := by have := HB5.out.size; have := HS3.out.lt; omega
    have hm2 : w.heap.size ≠ w5.heap.size := by have := HB5.out.size; have := HX13.out.lt; omega
    have y0 := cell_later HB5.out HP0.out
    have y1 := cell_later HB5.out HC1.out
    clear HP hn1 hn2
    go_wp2_with fail
    clear b0 b1 b2 bf
    refine wp_region_held_drew (S := fun w' => (w'.cell? ⟨rb, 0, none⟩ = some vo ∧ w'.cell? ⟨w.heap.size, 1, none⟩ = some (.string ⟨q.1.text.toArray⟩)) ∧ Below w5.heap.size w5 w') (by kernel_rfl) ⟨⟨y0, y1⟩, (Below.refl _ _).drew⟩ (fun hHeld => ?_)
    first | (refine held_t (i := 0) hHeld ?_; apply Exists.intro; refine ⟨fun wq hq => ?_, ?_⟩; (focus ((try dsimp only at hq); go_simp; (first | done | with_reducible rfl | fail)))) | refine held_s (i := 0) hHeld ?_ | fail
    first | (refine held_t (i := 1) hHeld ?_; apply Exists.intro; refine ⟨fun wq hq => ?_, ?_⟩; (focus ((try dsimp only at hq); go_simp; (first | done | with_reducible rfl | fail)))) | refine held_s (i := 1) hHeld ?_ | fail
    first | (refine held_t (i := 2) hHeld ?_; apply Exists.intro; refine ⟨fun wq hq => ?_, ?_⟩; (focus ((try dsimp only at hq); go_simp; (first | done | with_reducible rfl | fail)))) | refine held_s (i := 2) hHeld ?_ | fail
    first | (refine held_t (i := 3) hHeld ?_; apply Exists.intro; refine ⟨fun wq hq => ?_, ?_⟩; (focus ((try dsimp only at hq); go_simp; (first | done | with_reducible rfl | fail)))) | refine held_s (i := 3) hHeld ?_ | fail
    first | (refine held_t (i := 4) hHeld ?_; apply Exists.intro; refine ⟨fun wq hq => ?_, ?_⟩; (focus ((try dsimp only at hq); go_simp; (first | done | with_reducible rfl | fail)))) | refine held_s (i := 4) hHeld ?_ | fail
    first | (refine held_t (i := 5) hHeld ?_; apply Exists.intro; refine ⟨fun wq hq => ?_, ?_⟩; (focus ((try dsimp only at hq); go_simp; (first | done | with_reducible rfl | fail)))) | refine held_s (i := 5) hHeld ?_ | fail
    try simp only [Act.put, List.setIfInBounds_toArray, List.set_cons_zero, List.set_cons_succ]
    refine wpAnyH_ready (rs := [6, 10]) (by kernel_rfl) (by simp) ?_
    refine AllReadyH.cons (by simp only [List.getElem?_toArray, List.getElem?_cons_zero, List.getElem?_cons_succ]; rfl) (fun K hK => ?_) (AllReadyH.cons (by simp only [List.getElem?_toArray, List.getElem?_cons_zero, List.getElem?_cons_succ]; rfl) (fun K hK => ?_) AllReadyH.nil)
    · go_simp
      (go_at_call 100; refine (HP2.out _ (Ext.trans' HB6.out hHeld.2) _ (PO.out.ext (Ext.trans' HB6.out hHeld.2))).mono ?_; rintro e w7 ⟨rfl, hb7⟩)
      refine hK.out _ _ (⟨⟨cell_later hb7 hHeld.1.1, cell_later hb7 hHeld.1.2⟩, Ext.trans' hHeld.2 hb7⟩) (fun hHeld => ?_)
      clear hK K
      try simp only [Act.put, List.setIfInBounds_toArray, List.set_cons_zero, List.set_cons_succ]
      have hS7 := hHeld
      first | (refine held_t (i := 7) hHeld ?_; apply Exists.intro; refine ⟨fun wq hq => ?_, ?_⟩; (focus ((try dsimp only at hq); go_simp; (first | done | with_reducible rfl | fail)))) | refine held_s (i := 7) hHeld ?_ | fail
      first | (refine held_t (i := 8) hHeld ?_; apply Exists.intro; refine ⟨fun wq hq => ?_, ?_⟩; (focus ((try dsimp only at hq); go_simp; (first | done | with_reducible rfl | fail)))) | refine held_s (i := 8) hHeld ?_ | fail
      first | (refine held_t (i := 9) hHeld ?_; apply Exists.intro; refine ⟨fun wq hq => ?_, ?_⟩; (focus ((try dsimp only at hq); go_simp; (first | done | with_reducible rfl | fail)))) | refine held_s (i := 9) hHeld ?_ | fail
      try simp only [Act.put, List.setIfInBounds_toArray, List.set_cons_zero, List.set_cons_succ]
      refine held_c 10 fun K hK => ?_
      go_simp
      skip
      refine hK.out _ _ (⟨⟨cell_later (bel1' _ _) hHeld.1.1, cell_later (bel1' _ _) hHeld.1.2⟩, Ext.trans' hHeld.2 (bel1' _ _)⟩) (fun hHeld => ?_)
      clear hK K
      try simp only [Act.put, List.setIfInBounds_toArray, List.set_cons_zero, List.set_cons_succ]
      refine held_c 11 fun K hK => ?_
      go_simp
      skip
      refine hK.out _ _ (⟨⟨cell_later (bel1' _ _) hS7.1.1, cell_later (bel1' _ _) hS7.1.2⟩, Ext.trans' hS7.2 (bel1' _ _)⟩) (fun hHeld => ?_)
      clear hK K
      try simp only [Act.put, List.setIfInBounds_toArray, List.set_cons_zero, List.set_cons_succ]
      first | (refine held_t (i := 12) hHeld ?_; apply Exists.intro; refine ⟨fun wq hq => ?_, ?_⟩; (focus ((try dsimp only at hq); go_simp; (first | done | with_reducible rfl | fail)))) | refine held_s (i := 12) hHeld ?_ | fail
      try simp only [Act.put, List.setIfInBounds_toArray, List.set_cons_zero, List.set_cons_succ]
      refine wpAnyH_done (by kernel_rfl) ?_ _
      have HBY0 := Lib.hid (box_ext_new w7 #[.string bn, .string bk, .int .i64 bv] 93 (Below.refl _ _))
      have HB8 := Lib.hid hHeld.2
      clear hHeld hS7 hb7 y0 y1
      generalize World.alloc w7 (.cells #[.string bn, .string bk, .int .i64 bv] 93) = w8 at *
      generalize w7.heap.size = A2 at *
      obtain ⟨_, _, b2, _⟩ := (HBX6.out.ext HB8.out).three
      obtain ⟨_, _, d2, _⟩ := HBY0.out.three
      have HB38 := Lib.hid (Ext.trans' HB6.out HB8.out)
      obtain ⟨_, c1, _, _, _, _⟩ := (HX13.out.ext HB38.out).five
      (go_wp2_with fail; go_fit (atom_at _ ⟨q.1.text.toArray⟩); rintro e w9 ⟨rfl, hb9⟩)
      obtain ⟨r0, r1, r2, r3, rf⟩ := ((HX3.out.ext HB38.out).ext hb9).four
      have HB9 := Lib.hid (Ext.trans' HB38.out hb9)
      clear hb9 b2 d2 c1
      by_cases hz : max pl bv ≤ most
      · have hzd : decide (max pl bv ≤ most) = true := decide_eq_true hz
        have HN := Lib.hid (show X = some ((aT q.1.text, max pl bv), s) from HXX.out.symm.trans (if_pos hz))
        go_wp2
        refine bodyPost_ret (v := .tuple #[.agg #[.int .i64 2, .int .i64 0, .string ⟨q.1.text.toArray⟩, .slice none 0 0], .int .i64 (max pl bv), .bool true]) (by rw [results_cell3 rfl]; go_simp) rfl ?_
        exact tdone_some (HT3.out.trans (Turn.below HB9.out)) (HS3.out.later HB9.out) HMd.out HSB.out (plusB_self D _) HMB.out (leaf_tm _ i64_2 i64_0 HTS.out) HN.out
      · have hzd : decide (max pl bv ≤ most) = false := decide_eq_false hz
        have HN := Lib.hid (show X = none from HXX.out.symm.trans (if_neg hz))
        go_wp2
        refine bodyPost_ret (v := .tuple #[.agg #[.int .i64 2, .int .i64 0, .string ⟨q.1.text.toArray⟩, .slice none 0 0], .int .i64 (max pl bv), .bool false]) (by rw [results_cell3 rfl]; go_simp) rfl ?_
        exact tdone_none (HT3.out.trans (Turn.below HB9.out)) (HS3.out.later HB9.out).okd HMd.out HSB.out (plusB_self D _) (leaf_tm _ i64_2 i64_0 HTS.out) HN.out
    · go_simp
      skip
      refine hK.out _ _ (⟨⟨cell_later (bel1' _ _) hHeld.1.1, cell_later (bel1' _ _) hHeld.1.2⟩, Ext.trans' hHeld.2 (bel1' _ _)⟩) (fun hHeld => ?_)
      clear hK K
      try simp only [Act.put, List.setIfInBounds_toArray, List.set_cons_zero, List.set_cons_succ]
      refine held_c 6 fun K hK => ?_
      go_simp
      (go_at_call 100; refine (HP2.out _ (Ext.trans' HB6.out hHeld.2) _ (PO.out.ext (Ext.trans' HB6.out hHeld.2))).mono ?_; rintro e w7 ⟨rfl, hb7⟩; have hbx : Box w7 w5.heap.size [.string ⟨#[]⟩, .string ⟨#[]⟩, .int .i64 0] := box_ext_new w5.drew _ _ hb7; obtain ⟨e0, e1, e2, ef⟩ := hbx.three)
      refine hK.out _ _ (⟨⟨cell_later hb7 hHeld.1.1, cell_later hb7 hHeld.1.2⟩, Ext.trans' hHeld.2 hb7⟩) (fun hHeld => ?_)
      clear hK K
      try simp only [Act.put, List.setIfInBounds_toArray, List.set_cons_zero, List.set_cons_succ]
      first | (refine held_t (i := 7) hHeld ?_; apply Exists.intro; refine ⟨fun wq hq => ?_, ?_⟩; (focus ((try dsimp only at hq); go_simp; (first | done | with_reducible rfl | fail)))) | refine held_s (i := 7) hHeld ?_ | fail
      first | (refine held_t (i := 8) hHeld ?_; apply Exists.intro; refine ⟨fun wq hq => ?_, ?_⟩; (focus ((try dsimp only at hq); go_simp; (first | done | with_reducible rfl | fail)))) | refine held_s (i := 8) hHeld ?_ | fail
      first | (refine held_t (i := 9) hHeld ?_; apply Exists.intro; refine ⟨fun wq hq => ?_, ?_⟩; (focus ((try dsimp only at hq); go_simp; (first | done | with_reducible rfl | fail)))) | refine held_s (i := 9) hHeld ?_ | fail
      try simp only [Act.put, List.setIfInBounds_toArray, List.set_cons_zero, List.set_cons_succ]
      refine held_c 11 fun K hK => ?_
      go_simp
      skip
      refine hK.out _ _ (⟨⟨far3 hHeld.1.1 hm1 _ _ _, far3 hHeld.1.2 hm2 _ _ _⟩, Below.set3 hHeld.2 (Nat.le_refl _) _ _ _⟩) (fun hHeld => ?_)
      clear hK K
      try simp only [Act.put, List.setIfInBounds_toArray, List.set_cons_zero, List.set_cons_succ]
      first | (refine held_t (i := 12) hHeld ?_; apply Exists.intro; refine ⟨fun wq hq => ?_, ?_⟩; (focus ((try dsimp only at hq); go_simp; (first | done | with_reducible rfl | fail)))) | refine held_s (i := 12) hHeld ?_ | fail
      try simp only [Act.put, List.setIfInBounds_toArray, List.set_cons_zero, List.set_cons_succ]
      refine wpAnyH_done (by kernel_rfl) ?_ _
      have HBY0 := Lib.hid (show Box (((w7.setCell ⟨w5.heap.size, 0, none⟩ (.string bn)).setCell ⟨w5.heap.size, 1, none⟩ (.string bk)).setCell ⟨w5.heap.size, 2, none⟩ (.int .i64 bv)) w5.heap.size [.string bn, .string bk, .int .i64 bv] from hbx.all3 (.string bn) (.string bk) (.int .i64 bv))
      have HB8 := Lib.hid (show Below w5.heap.size w5 (((w7.setCell ⟨w5.heap.size, 0, none⟩ (.string bn)).setCell ⟨w5.heap.size, 1, none⟩ (.string bk)).setCell ⟨w5.heap.size, 2, none⟩ (.int .i64 bv)) from hHeld.2)
      clear hHeld hb7 hbx e0 e1 e2 ef y0 y1
      generalize (((w7.setCell ⟨w5.heap.size, 0, none⟩ (.string bn)).setCell ⟨w5.heap.size, 1, none⟩ (.string bk)).setCell ⟨w5.heap.size, 2, none⟩ (.int .i64 bv)) = w8 at *
      obtain ⟨_, _, b2, _⟩ := (HBX6.out.ext HB8.out).three
      obtain ⟨_, _, d2, _⟩ := HBY0.out.three
      have HB38 := Lib.hid (Ext.trans' HB6.out HB8.out)
      obtain ⟨_, c1, _, _, _, _⟩ := (HX13.out.ext HB38.out).five
      (go_wp2_with fail; go_fit (atom_at _ ⟨q.1.text.toArray⟩); rintro e w9 ⟨rfl, hb9⟩)
      obtain ⟨r0, r1, r2, r3, rf⟩ := ((HX3.out.ext HB38.out).ext hb9).four
      have HB9 := Lib.hid (Ext.trans' HB38.out hb9)
      clear hb9 b2 d2 c1
      by_cases hz : max pl bv ≤ most
      · have hzd : decide (max pl bv ≤ most) = true := decide_eq_true hz
        have HN := Lib.hid (show X = some ((aT q.1.text, max pl bv), s) from HXX.out.symm.trans (if_pos hz))
        go_wp2
        refine bodyPost_ret (v := .tuple #[.agg #[.int .i64 2, .int .i64 0, .string ⟨q.1.text.toArray⟩, .slice none 0 0], .int .i64 (max pl bv), .bool true]) (by rw [results_cell3 rfl]; go_simp) rfl ?_
        exact tdone_some (HT3.out.trans (Turn.below HB9.out)) (HS3.out.later HB9.out) HMd.out HSB.out (plusB_self D _) HMB.out (leaf_tm _ i64_2 i64_0 HTS.out) HN.out
      · have hzd : decide (max pl bv ≤ most) = false := decide_eq_false hz
        have HN := Lib.hid (show X = none from HXX.out.symm.trans (if_neg hz))
        go_wp2
        refine bodyPost_ret (v := .tuple #[.agg #[.int .i64 2, .int .i64 0, .string ⟨q.1.text.toArray⟩, .slice none 0 0], .int .i64 (max pl bv), .bool false]) (by rw [results_cell3 rfl]; go_simp) rfl ?_
        exact tdone_none (HT3.out.trans (Turn.below HB9.out)) (HS3.out.later HB9.out).okd HMd.out HSB.out (plusB_self D _) (leaf_tm _ i64_2 i64_0 HTS.out) HN.out
set_option maxRecDepth 100000 in
set_option maxHeartbeats 8000000 in
theorem named_plain_c {xs : List O} {n : Nat} (ih : IHT xs n) {D M : Nat → Bool} {w : World} {rb : Nat} {s : RS} (h : St D M w rb xs s) (hlt : s.rest.length < n) (q : TokP) (hq : tokOk q) (most : Int) (hm : isMinusR q (headR s) = false) (ho : q.1.opens = false) (hk : q.1.kind = 1)
    (pn pk bn bk : ByteArray) (pl bv : Int) (pg : Bool) (hpg : pg = true) (hle : pl ≤ most) (hbg : beginsR (preO xs) (betO xs) (headR s) = false) (bg : Bool) (hpre : oneB xs q.1.text 1 = (⟨pn, pk, pl⟩, pg)) (hbet : oneB xs q.1.text 2 = (⟨bn, bk, bv⟩, bg)) :
    Calls Tryz.prog 96 #[.pointer (some ⟨rb, 0, none⟩), tkVal q, .int .i64 most] w (TPost D M w rb xs ((if max pl bv ≤ most then some ((aT q.1.text, max pl bv), s) else none : Out TL))) := by
  obtain ⟨X, hX⟩ : ∃ X, (if max pl bv ≤ most then some ((aT q.1.text, max pl bv), s) else none : Out TL) = X := ⟨_, rfl⟩
  rw [hX]
  have HXX := Lib.hid hX
  obtain ⟨w1, hw1, hb1, hz1, hx1⟩ := box_new w #[.int .i64 (q.1.kind : Int), .string ⟨q.1.text.toArray⟩, .int .i64 (q.1.n : Int), .bool q.1.opens, .int .i64 (q.2 : Int)] 125
  obtain ⟨w2, hw2, hb2, hz2, hx2⟩ := box_new w1 #[.int .i64 0, .int .i64 0, .string ⟨#[]⟩, .slice none 0 0] 31
  have h2 := h.box (Ext.trans' hb1 hb2) hb1.size hx2.lt
  have HMd := Lib.hid h.md
  have HMB := Lib.hid (Old.out h hb1.size)
  have HMT := Lib.hid (Old.out h (Nat.le_refl _))
  have HSB := Lib.hid hb1.size
  have HT2 := Lib.hid (box_plus (D := D) (M := M) hb1 hb2)
  have HM := isMinus_at h2 q hq.2.2
  rw [hm] at HM
  have HM := Lib.hid HM
  have HS2 := Lib.hid h2
  have HX := Lib.hid hx2
  have HX1 := Lib.hid (hx1.ext hb2)
  obtain ⟨c0, c1, c2, c3, c4, cf⟩ := HX1.out.five
  have HQ := Lib.hid hq
  have HO := Lib.hid ho
  have hP2 := fun (w3 wq : World) (hb : Below w3.heap.size w3 wq) (v : Value) (hv : Ops wq v xs) => in_walk hv ⟨q.1.text.toArray⟩
  rw [show bl (⟨q.1.text.toArray⟩ : ByteArray) = q.1.text from rfl, hbet] at hP2
  have HPP := Lib.hid hP2
  clear hP2 hbet
  subst hpg
  have hled : decide (pl ≤ most) = true := decide_eq_true hle
  have HIH := Lib.hid ih
  have HLT := Lib.hid hlt
  have hts : (⟨q.1.text.toArray⟩ : ByteArray).size ≤ BIG := by have := hq.2.1; show q.1.text.toArray.size ≤ _; simp; unfold BIG; omega
  have HTS := Lib.hid hts
  have k2 : ((q.1.kind : Int) == 2) = false := by rw [hk]; rfl
  have hlt0 := h.lt
  have hrb1 : rb ≠ w1.heap.size := by omega
  have hne1 : w.heap.size ≠ w1.heap.size := by omega
  clear hle h hq hb1 hb2 hz1 hz2 hx1 hx2 h2 hm ho hk hX hlt ih hts
  go_enter Tryz.func96, Tryz.ntmps96
  go_wp2_with fail
  (try rw [hw1])
  (try rw [hw2])
  clear hw1 hw2
  (go_wp2_with fail; go_fit (HM.out); rintro e w3 ⟨rfl, hb3⟩)
  obtain ⟨c0, c1, c2, c3, c4, cf⟩ := (HX1.out.ext hb3).five
  rw [HO.out] at c3
  have HS3 := Lib.hid (HS2.out.later hb3)
  have HT3 := Lib.hid (HT2.out.trans (Turn.below hb3))
  have HX3 := Lib.hid (HX.out.ext hb3)
  have HX13 := Lib.hid (HX1.out.ext hb3)
  obtain ⟨vo, _, _, p0, _, _, _, _, po, _⟩ := HS3.out.parts
  have PO := Lib.hid po.bare
  have hn1 : rb ≠ w3.heap.size := (World.new_ne w3 _ p0).symm
  have hn2 : w.heap.size ≠ w3.heap.size := (World.new_ne w3 _ c1).symm
  have hn3 : w3.heap.size ≠ w1.heap.size := by have := HX3.out.lt; omega
  have hBw : w1.heap.size < w3.heap.size := HX3.out.lt
  have HP := Lib.hid (fun wq (hb : Below w3.heap.size w3 wq) (v : Value) (hv : Ops wq v xs) => pre_walk hv ⟨q.1.text.toArray⟩)
  rw [show bl (⟨q.1.text.toArray⟩ : ByteArray) = q.1.text from rfl, hpre] at HP
  have HP2 := Lib.hid (HPP.out w3)
  clear hb3 po c2 c4 cf hpre HPP
  go_wp2_with fail
  have HP0 := Lib.hid p0
  have HC1 := Lib.hid c1
  refine wp_region_held_drew (S := fun w' => (w'.cell? ⟨rb, 0, none⟩ = some vo ∧ w'.cell? ⟨w.heap.size, 1, none⟩ = some (.string ⟨q.1.text.toArray⟩)) ∧ Below w3.heap.size w3 w') (by kernel_rfl) ⟨⟨p0, c1⟩, (Below.refl _ _).drew⟩ (fun hHeld => ?_)
  first | (refine held_t (i := 0) hHeld ?_; apply Exists.intro; refine ⟨fun wq hq => ?_, ?_⟩; (focus ((try dsimp only at hq); go_simp; (first | done | with_reducible rfl | fail)))) | refine held_s (i := 0) hHeld ?_ | fail
  first | (refine held_t (i := 1) hHeld ?_; apply Exists.intro; refine ⟨fun wq hq => ?_, ?_⟩; (focus ((try dsimp only at hq); go_simp; (first | done | with_reducible rfl | fail)))) | refine held_s (i := 1) hHeld ?_ | fail
  first | (refine held_t (i := 2) hHeld ?_; apply Exists.intro; refine ⟨fun wq hq => ?_, ?_⟩; (focus ((try dsimp only at hq); go_simp; (first | done | with_reducible rfl | fail)))) | refine held_s (i := 2) hHeld ?_ | fail
  first | (refine held_t (i := 3) hHeld ?_; apply Exists.intro; refine ⟨fun wq hq => ?_, ?_⟩; (focus ((try dsimp only at hq); go_simp; (first | done | with_reducible rfl | fail)))) | refine held_s (i := 3) hHeld ?_ | fail
  first | (refine held_t (i := 4) hHeld ?_; apply Exists.intro; refine ⟨fun wq hq => ?_, ?_⟩; (focus ((try dsimp only at hq); go_simp; (first | done | with_reducible rfl | fail)))) | refine held_s (i := 4) hHeld ?_ | fail
  first | (refine held_t (i := 5) hHeld ?_; apply Exists.intro; refine ⟨fun wq hq => ?_, ?_⟩; (focus ((try dsimp only at hq); go_simp; (first | done | with_reducible rfl | fail)))) | refine held_s (i := 5) hHeld ?_ | fail
  try simp only [Act.put, List.setIfInBounds_toArray, List.set_cons_zero, List.set_cons_succ]
  refine wpAnyH_ready (rs := [6, 10]) (by kernel_rfl) (by simp) ?_
  refine AllReadyH.cons (by simp only [List.getElem?_toArray, List.getElem?_cons_zero, List.getElem?_cons_succ]; rfl) (fun K hK => ?_) (AllReadyH.cons (by simp only [List.getElem?_toArray, List.getElem?_cons_zero, List.getElem?_cons_succ]; rfl) (fun K hK => ?_) AllReadyH.nil)
  · go_simp
    (go_at_call 118; refine (HP.out _ hHeld.2 _ (PO.out.ext hHeld.2)).mono ?_; rintro e w4 ⟨rfl, hb4⟩)
    refine hK.out _ _ (⟨⟨cell_later hb4 hHeld.1.1, cell_later hb4 hHeld.1.2⟩, Ext.trans' hHeld.2 hb4⟩) (fun hHeld => ?_)
    clear hK K
    try simp only [Act.put, List.setIfInBounds_toArray, List.set_cons_zero, List.set_cons_succ]
    have hS4 := hHeld
    first | (refine held_t (i := 7) hHeld ?_; apply Exists.intro; refine ⟨fun wq hq => ?_, ?_⟩; (focus ((try dsimp only at hq); go_simp; (first | done | with_reducible rfl | fail)))) | refine held_s (i := 7) hHeld ?_ | fail
    first | (refine held_t (i := 8) hHeld ?_; apply Exists.intro; refine ⟨fun wq hq => ?_, ?_⟩; (focus ((try dsimp only at hq); go_simp; (first | done | with_reducible rfl | fail)))) | refine held_s (i := 8) hHeld ?_ | fail
    first | (refine held_t (i := 9) hHeld ?_; apply Exists.intro; refine ⟨fun wq hq => ?_, ?_⟩; (focus ((try dsimp only at hq); go_simp; (first | done | with_reducible rfl | fail)))) | refine held_s (i := 9) hHeld ?_ | fail
    try simp only [Act.put, List.setIfInBounds_toArray, List.set_cons_zero, List.set_cons_succ]
    refine held_c 10 fun K hK => ?_
    go_simp
    skip
    refine hK.out _ _ (⟨⟨cell_later (bel1' _ _) hHeld.1.1, cell_later (bel1' _ _) hHeld.1.2⟩, Ext.trans' hHeld.2 (bel1' _ _)⟩) (fun hHeld => ?_)
    clear hK K
    try simp only [Act.put, List.setIfInBounds_toArray, List.set_cons_zero, List.set_cons_succ]
    refine held_c 11 fun K hK => ?_
    go_simp
    skip
    refine hK.out _ _ (⟨⟨cell_later (bel1' _ _) hS4.1.1, cell_later (bel1' _ _) hS4.1.2⟩, Ext.trans' hS4.2 (bel1' _ _)⟩) (fun hHeld => ?_)
    clear hK K
    try simp only [Act.put, List.setIfInBounds_toArray, List.set_cons_zero, List.set_cons_succ]
    first | (refine held_t (i := 12) hHeld ?_; apply Exists.intro; refine ⟨fun wq hq => ?_, ?_⟩; (focus ((try dsimp only at hq); go_simp; (first | done | with_reducible rfl | fail)))) | refine held_s (i := 12) hHeld ?_ | fail
    try simp only [Act.put, List.setIfInBounds_toArray, List.set_cons_zero, List.set_cons_succ]
    refine wpAnyH_done (by kernel_rfl) ?_ _
    have HBX0 := Lib.hid (box_ext_new w4 #[.string pn, .string pk, .int .i64 pl] 93 (Below.refl _ _))
    have hAB : w4.heap.size ≠ w1.heap.size := by have := hS4.2.size; omega
    have HB5 := Lib.hid hHeld.2
    clear hHeld hS4 hb4 p0 c1 c0 c3
    generalize World.alloc w4 (.cells #[.string pn, .string pk, .int .i64 pl] 93) = w5 at *
    generalize w4.heap.size = A at *
    have hs5 := HS3.out.later HB5.out
    have HBG := begins_at hs5
    rw [hbg] at HBG
    have HBG := Lib.hid HBG
    obtain ⟨b0, b1, b2, bf⟩ := HBX0.out.three
    clear hs5 HP hn1 hn2
    (go_wp2_with fail; go_fit (HBG.out); rintro e w6 ⟨rfl, hb6⟩)
    have HBX6 := Lib.hid (HBX0.out.ext hb6)
    have HB6 := Lib.hid (Ext.trans' HB5.out hb6)
    have hm1 : rb ≠ w6.heap.size := by have := HB6.out.size; have := HS3.out.lt; omega
    have hm2 : w.heap.size ≠ w6.heap.size := by have := HB6.out.size; have := HX13.out.lt; omega
    have y0 := cell_later HB6.out HP0.out
    have y1 := cell_later HB6.out HC1.out
    clear hb6 b0 b1 b2 bf
    go_wp2_with fail
    refine wp_region_held_drew (S := fun w' => (w'.cell? ⟨rb, 0, none⟩ = some vo ∧ w'.cell? ⟨w.heap.size, 1, none⟩ = some (.string ⟨q.1.text.toArray⟩)) ∧ Below w6.heap.size w6 w') (by kernel_rfl) ⟨⟨y0, y1⟩, (Below.refl _ _).drew⟩ (fun hHeld => ?_)
    first | (refine held_t (i := 0) hHeld ?_; apply Exists.intro; refine ⟨fun wq hq => ?_, ?_⟩; (focus ((try dsimp only at hq); go_simp; (first | done | with_reducible rfl | fail)))) | refine held_s (i := 0) hHeld ?_ | fail
    first | (refine held_t (i := 1) hHeld ?_; apply Exists.intro; refine ⟨fun wq hq => ?_, ?_⟩; (focus ((try dsimp only at hq); go_simp; (first | done | with_reducible rfl | fail)))) | refine held_s (i := 1) hHeld ?_ | fail
    first | (refine held_t (i := 2) hHeld ?_; apply Exists.intro; refine ⟨fun wq hq => ?_, ?_⟩; (focus ((try dsimp only at hq); go_simp; (first | done | with_reducible rfl | fail)))) | refine held_s (i := 2) hHeld ?_ | fail
    first | (refine held_t (i := 3) hHeld ?_; apply Exists.intro; refine ⟨fun wq hq => ?_, ?_⟩; (focus ((try dsimp only at hq); go_simp; (first | done | with_reducible rfl | fail)))) | refine held_s (i := 3) hHeld ?_ | fail
    first | (refine held_t (i := 4) hHeld ?_; apply Exists.intro; refine ⟨fun wq hq => ?_, ?_⟩; (focus ((try dsimp only at hq); go_simp; (first | done | with_reducible rfl | fail)))) | refine held_s (i := 4) hHeld ?_ | fail
    first | (refine held_t (i := 5) hHeld ?_; apply Exists.intro; refine ⟨fun wq hq => ?_, ?_⟩; (focus ((try dsimp only at hq); go_simp; (first | done | with_reducible rfl | fail)))) | refine held_s (i := 5) hHeld ?_ | fail
    try simp only [Act.put, List.setIfInBounds_toArray, List.set_cons_zero, List.set_cons_succ]
    refine wpAnyH_ready (rs := [6, 10]) (by kernel_rfl) (by simp) ?_
    refine AllReadyH.cons (by simp only [List.getElem?_toArray, List.getElem?_cons_zero, List.getElem?_cons_succ]; rfl) (fun K hK => ?_) (AllReadyH.cons (by simp only [List.getElem?_toArray, List.getElem?_cons_zero, List.getElem?_cons_succ]; rfl) (fun K hK => ?_) AllReadyH.nil)
    · go_simp
      (go_at_call 100; refine (HP2.out _ (Ext.trans' HB6.out hHeld.2) _ (PO.out.ext (Ext.trans' HB6.out hHeld.2))).mono ?_; rintro e w7 ⟨rfl, hb7⟩)
      refine hK.out _ _ (⟨⟨cell_later hb7 hHeld.1.1, cell_later hb7 hHeld.1.2⟩, Ext.trans' hHeld.2 hb7⟩) (fun hHeld => ?_)
      clear hK K
      try simp only [Act.put, List.setIfInBounds_toArray, List.set_cons_zero, List.set_cons_succ]
      have hS7 := hHeld
      first | (refine held_t (i := 7) hHeld ?_; apply Exists.intro; refine ⟨fun wq hq => ?_, ?_⟩; (focus ((try dsimp only at hq); go_simp; (first | done | with_reducible rfl | fail)))) | refine held_s (i := 7) hHeld ?_ | fail
      first | (refine held_t (i := 8) hHeld ?_; apply Exists.intro; refine ⟨fun wq hq => ?_, ?_⟩; (focus ((try dsimp only at hq); go_simp; (first | done | with_reducible rfl | fail)))) | refine held_s (i := 8) hHeld ?_ | fail
      first | (refine held_t (i := 9) hHeld ?_; apply Exists.intro; refine ⟨fun wq hq => ?_, ?_⟩; (focus ((try dsimp only at hq); go_simp; (first | done | with_reducible rfl | fail)))) | refine held_s (i := 9) hHeld ?_ | fail
      try simp only [Act.put, List.setIfInBounds_toArray, List.set_cons_zero, List.set_cons_succ]
      refine held_c 10 fun K hK => ?_
      go_simp
      skip
      refine hK.out _ _ (⟨⟨cell_later (bel1' _ _) hHeld.1.1, cell_later (bel1' _ _) hHeld.1.2⟩, Ext.trans' hHeld.2 (bel1' _ _)⟩) (fun hHeld => ?_)
      clear hK K
      try simp only [Act.put, List.setIfInBounds_toArray, List.set_cons_zero, List.set_cons_succ]
      refine held_c 11 fun K hK => ?_
      go_simp
      skip
      refine hK.out _ _ (⟨⟨cell_later (bel1' _ _) hS7.1.1, cell_later (bel1' _ _) hS7.1.2⟩, Ext.trans' hS7.2 (bel1' _ _)⟩) (fun hHeld => ?_)
      clear hK K
      try simp only [Act.put, List.setIfInBounds_toArray, List.set_cons_zero, List.set_cons_succ]
      first | (refine held_t (i := 12) hHeld ?_; apply Exists.intro; refine ⟨fun wq hq => ?_, ?_⟩; (focus ((try dsimp only at hq); go_simp; (first | done | with_reducible rfl | fail)))) | refine held_s (i := 12) hHeld ?_ | fail
      try simp only [Act.put, List.setIfInBounds_toArray, List.set_cons_zero, List.set_cons_succ]
      refine wpAnyH_done (by kernel_rfl) ?_ _
      have HBY0 := Lib.hid (box_ext_new w7 #[.string bn, .string bk, .int .i64 bv] 93 (Below.refl _ _))
      have HB8 := Lib.hid hHeld.2
      clear hHeld hS7 hb7 y0 y1
      generalize World.alloc w7 (.cells #[.string bn, .string bk, .int .i64 bv] 93) = w8 at *
      generalize w7.heap.size = A2 at *
      obtain ⟨_, _, b2, _⟩ := (HBX6.out.ext HB8.out).three
      obtain ⟨_, _, d2, _⟩ := HBY0.out.three
      have HB38 := Lib.hid (Ext.trans' HB6.out HB8.out)
      obtain ⟨_, c1, _, _, _, _⟩ := (HX13.out.ext HB38.out).five
      (go_wp2_with fail; go_fit (atom_at _ ⟨q.1.text.toArray⟩); rintro e w9 ⟨rfl, hb9⟩)
      obtain ⟨r0, r1, r2, r3, rf⟩ := ((HX3.out.ext HB38.out).ext hb9).four
      have HB9 := Lib.hid (Ext.trans' HB38.out hb9)
      clear hb9 b2 d2 c1
      by_cases hz : max pl bv ≤ most
      · have hzd : decide (max pl bv ≤ most) = true := decide_eq_true hz
        have HN := Lib.hid (show X = some ((aT q.1.text, max pl bv), s) from HXX.out.symm.trans (if_pos hz))
        go_wp2
        refine bodyPost_ret (v := .tuple #[.agg #[.int .i64 2, .int .i64 0, .string ⟨q.1.text.toArray⟩, .slice none 0 0], .int .i64 (max pl bv), .bool true]) (by rw [results_cell3 rfl]; go_simp) rfl ?_
        exact tdone_some (HT3.out.trans (Turn.below HB9.out)) (HS3.out.later HB9.out) HMd.out HSB.out (plusB_self D _) HMB.out (leaf_tm _ i64_2 i64_0 HTS.out) HN.out
      · have hzd : decide (max pl bv ≤ most) = false := decide_eq_false hz
        have HN := Lib.hid (show X = none from HXX.out.symm.trans (if_neg hz))
        go_wp2
        refine bodyPost_ret (v := .tuple #[.agg #[.int .i64 2, .int .i64 0, .string ⟨q.1.text.toArray⟩, .slice none 0 0], .int .i64 (max pl bv), .bool false]) (by rw [results_cell3 rfl]; go_simp) rfl ?_
        exact tdone_none (HT3.out.trans (Turn.below HB9.out)) (HS3.out.later HB9.out).okd HMd.out HSB.out (plusB_self D _) (leaf_tm _ i64_2 i64_0 HTS.out) HN.out
    · go_simp
      skip
      refine hK.out _ _ (⟨⟨cell_later (bel1' _ _) hHeld.1.1, cell_later (bel1' _ _) hHeld.1.2⟩, Ext.trans' hHeld.2 (bel1' _ _)⟩) (fun hHeld => ?_)
      clear hK K
      try simp only [Act.put, List.setIfInBounds_toArray, List.set_cons_zero, List.set_cons_succ]
      refine held_c 6 fun K hK => ?_
      go_simp
      (go_at_call 100; refine (HP2.out _ (Ext.trans' HB6.out hHeld.2) _ (PO.out.ext (Ext.trans' HB6.out hHeld.2))).mono ?_; rintro e w7 ⟨rfl, hb7⟩; have hbx : Box w7 w6.heap.size [.string ⟨#[]⟩, .string ⟨#[]⟩, .int .i64 0] := box_ext_new w6.drew _ _ hb7; obtain ⟨e0, e1, e2, ef⟩ := hbx.three)
      refine hK.out _ _ (⟨⟨cell_later hb7 hHeld.1.1, cell_later hb7 hHeld.1.2⟩, Ext.trans' hHeld.2 hb7⟩) (fun hHeld => ?_)
      clear hK K
      try simp only [Act.put, List.setIfInBounds_toArray, List.set_cons_zero, List.set_cons_succ]
      first | (refine held_t (i := 7) hHeld ?_; apply Exists.intro; refine ⟨fun wq hq => ?_, ?_⟩; (focus ((try dsimp only at hq); go_simp; (first | done | with_reducible rfl | fail)))) | refine held_s (i := 7) hHeld ?_ | fail
      first | (refine held_t (i := 8) hHeld ?_; apply Exists.intro; refine ⟨fun wq hq => ?_, ?_⟩; (focus ((try dsimp only at hq); go_simp; (first | done | with_reducible rfl | fail)))) | refine held_s (i := 8) hHeld ?_ | fail
      first | (refine held_t (i := 9) hHeld ?_; apply Exists.intro; refine ⟨fun wq hq => ?_, ?_⟩; (focus ((try dsimp only at hq); go_simp; (first | done | with_reducible rfl | fail)))) | refine held_s (i := 9) hHeld ?_ | fail
      try simp only [Act.put, List.setIfInBounds_toArray, List.set_cons_zero, List.set_cons_succ]
      refine held_c 11 fun K hK => ?_
      go_simp
      skip
      refine hK.out _ _ (⟨⟨far3 hHeld.1.1 hm1 _ _ _, far3 hHeld.1.2 hm2 _ _ _⟩, Below.set3 hHeld.2 (Nat.le_refl _) _ _ _⟩) (fun hHeld => ?_)
      clear hK K
      try simp only [Act.put, List.setIfInBounds_toArray, List.set_cons_zero, List.set_cons_succ]
      first | (refine held_t (i := 12) hHeld ?_; apply Exists.intro; refine ⟨fun wq hq => ?_, ?_⟩; (focus ((try dsimp only at hq); go_simp; (first | done | with_reducible rfl | fail)))) | refine held_s (i := 12) hHeld ?_ | fail
      try simp only [Act.put, List.setIfInBounds_toArray, List.set_cons_zero, List.set_cons_succ]
      refine wpAnyH_done (by kernel_rfl) ?_ _
      have HBY0 := Lib.hid (show Box (((w7.setCell ⟨w6.heap.size, 0, none⟩ (.string bn)).setCell ⟨w6.heap.size, 1, none⟩ (.string bk)).setCell ⟨w6.heap.size, 2, none⟩ (.int .i64 bv)) w6.heap.size [.string bn, .string bk, .int .i64 bv] from hbx.all3 (.string bn) (.string bk) (.int .i64 bv))
      have HB8 := Lib.hid (show Below w6.heap.size w6 (((w7.setCell ⟨w6.heap.size, 0, none⟩ (.string bn)).setCell ⟨w6.heap.size, 1, none⟩ (.string bk)).setCell ⟨w6.heap.size, 2, none⟩ (.int .i64 bv)) from hHeld.2)
      clear hHeld hb7 hbx e0 e1 e2 ef y0 y1
      generalize (((w7.setCell ⟨w6.heap.size, 0, none⟩ (.string bn)).setCell ⟨w6.heap.size, 1, none⟩ (.string bk)).setCell ⟨w6.heap.size, 2, none⟩ (.int .i64 bv)) = w8 at *
      obtain ⟨_, _, b2, _⟩ := (HBX6.out.ext HB8.out).three
      obtain ⟨_, _, d2, _⟩ := HBY0.out.three
      have HB38 := Lib.hid (Ext.trans' HB6.out HB8.out)
      obtain ⟨_, c1, _, _, _, _⟩ := (HX13.out.ext HB38.out).five
      (go_wp2_with fail; go_fit (atom_at _ ⟨q.1.text.toArray⟩); rintro e w9 ⟨rfl, hb9⟩)
      obtain ⟨r0, r1, r2, r3, rf⟩ := ((HX3.out.ext HB38.out).ext hb9).four
      have HB9 := Lib.hid (Ext.trans' HB38.out hb9)
      clear hb9 b2 d2 c1
      by_cases hz : max pl bv ≤ most
      · have hzd : decide (max pl bv ≤ most) = true := decide_eq_true hz
        have HN := Lib.hid (show X = some ((aT q.1.text, max pl bv), s) from HXX.out.symm.trans (if_pos hz))
        go_wp2
        refine bodyPost_ret (v := .tuple #[.agg #[.int .i64 2, .int .i64 0, .string ⟨q.1.text.toArray⟩, .slice none 0 0], .int .i64 (max pl bv), .bool true]) (by rw [results_cell3 rfl]; go_simp) rfl ?_
        exact tdone_some (HT3.out.trans (Turn.below HB9.out)) (HS3.out.later HB9.out) HMd.out HSB.out (plusB_self D _) HMB.out (leaf_tm _ i64_2 i64_0 HTS.out) HN.out
      · have hzd : decide (max pl bv ≤ most) = false := decide_eq_false hz
        have HN := Lib.hid (show X = none from HXX.out.symm.trans (if_neg hz))
        go_wp2
        refine bodyPost_ret (v := .tuple #[.agg #[.int .i64 2, .int .i64 0, .string ⟨q.1.text.toArray⟩, .slice none 0 0], .int .i64 (max pl bv), .bool false]) (by rw [results_cell3 rfl]; go_simp) rfl ?_
        exact tdone_none (HT3.out.trans (Turn.below HB9.out)) (HS3.out.later HB9.out).okd HMd.out HSB.out (plusB_self D _) (leaf_tm _ i64_2 i64_0 HTS.out) HN.out
  · go_simp
    skip
    refine hK.out _ _ (⟨⟨cell_later (bel1' _ _) hHeld.1.1, cell_later (bel1' _ _) hHeld.1.2⟩, Ext.trans' hHeld.2 (bel1' _ _)⟩) (fun hHeld => ?_)
    clear hK K
    try simp only [Act.put, List.setIfInBounds_toArray, List.set_cons_zero, List.set_cons_succ]
    refine held_c 6 fun K hK => ?_
    go_simp
    (go_at_call 118; refine (HP.out _ hHeld.2 _ (PO.out.ext hHeld.2)).mono ?_; rintro e w4 ⟨rfl, hb4⟩; have hbx : Box w4 w3.heap.size [.string ⟨#[]⟩, .string ⟨#[]⟩, .int .i64 0] := box_ext_new w3.drew _ _ hb4; obtain ⟨e0, e1, e2, ef⟩ := hbx.three)
    refine hK.out _ _ (⟨⟨cell_later hb4 hHeld.1.1, cell_later hb4 hHeld.1.2⟩, Ext.trans' hHeld.2 hb4⟩) (fun hHeld => ?_)
    clear hK K
    try simp only [Act.put, List.setIfInBounds_toArray, List.set_cons_zero, List.set_cons_succ]
    first | (refine held_t (i := 7) hHeld ?_; apply Exists.intro; refine ⟨fun wq hq => ?_, ?_⟩; (focus ((try dsimp only at hq); go_simp; (first | done | with_reducible rfl | fail)))) | refine held_s (i := 7) hHeld ?_ | fail
    first | (refine held_t (i := 8) hHeld ?_; apply Exists.intro; refine ⟨fun wq hq => ?_, ?_⟩; (focus ((try dsimp only at hq); go_simp; (first | done | with_reducible rfl | fail)))) | refine held_s (i := 8) hHeld ?_ | fail
    first | (refine held_t (i := 9) hHeld ?_; apply Exists.intro; refine ⟨fun wq hq => ?_, ?_⟩; (focus ((try dsimp only at hq); go_simp; (first | done | with_reducible rfl | fail)))) | refine held_s (i := 9) hHeld ?_ | fail
    try simp only [Act.put, List.setIfInBounds_toArray, List.set_cons_zero, List.set_cons_succ]
    refine held_c 11 fun K hK => ?_
    go_simp
    skip
    refine hK.out _ _ (⟨⟨far3 hHeld.1.1 hn1 _ _ _, far3 hHeld.1.2 hn2 _ _ _⟩, Below.set3 hHeld.2 (Nat.le_refl _) _ _ _⟩) (fun hHeld => ?_)
    clear hK K
    try simp only [Act.put, List.setIfInBounds_toArray, List.set_cons_zero, List.set_cons_succ]
    first | (refine held_t (i := 12) hHeld ?_; apply Exists.intro; refine ⟨fun wq hq => ?_, ?_⟩; (focus ((try dsimp only at hq); go_simp; (first | done | with_reducible rfl | fail)))) | refine held_s (i := 12) hHeld ?_ | fail
    try simp only [Act.put, List.setIfInBounds_toArray, List.set_cons_zero, List.set_cons_succ]
    refine wpAnyH_done (by kernel_rfl) ?_ _
    have HBX0 := Lib.hid (show Box (((w4.setCell ⟨w3.heap.size, 0, none⟩ (.string pn)).setCell ⟨w3.heap.size, 1, none⟩ (.string pk)).setCell ⟨w3.heap.size, 2, none⟩ (.int .i64 pl)) w3.heap.size [.string pn, .string pk, .int .i64 pl] from hbx.all3 (.string pn) (.string pk) (.int .i64 pl))
    have hAB : w3.heap.size ≠ w1.heap.size := hn3
    have HB5 := Lib.hid (show Below w3.heap.size w3 (((w4.setCell ⟨w3.heap.size, 0, none⟩ (.string pn)).setCell ⟨w3.heap.size, 1, none⟩ (.string pk)).setCell ⟨w3.heap.size, 2, none⟩ (.int .i64 pl)) from hHeld.2)
    clear hHeld hb4 hbx e0 e1 e2 ef p0 c1 c0 c3
    generalize (((w4.setCell ⟨w3.heap.size, 0, none⟩ (.string pn)).setCell ⟨w3.heap.size, 1, none⟩ (.string pk)).setCell ⟨w3.heap.size, 2, none⟩ (.int .i64 pl)) = w5 at *
    have hs5 := HS3.out.later HB5.out
    have HBG := begins_at hs5
    rw [hbg] at HBG
    have HBG := Lib.hid HBG
    obtain ⟨b0, b1, b2, bf⟩ := HBX0.out.three
    clear hs5 HP hn1 hn2
    (go_wp2_with fail; go_fit (HBG.out); rintro e w6 ⟨rfl, hb6⟩)
    have HBX6 := Lib.hid (HBX0.out.ext hb6)
    have HB6 := Lib.hid (Ext.trans' HB5.out hb6)
    have hm1 : rb ≠ w6.heap.size := by have := HB6.out.size; have := HS3.out.lt; omega
    have hm2 : w.heap.size ≠ w6.heap.size := by have := HB6.out.size; have := HX13.out.lt; omega
    have y0 := cell_later HB6.out HP0.out
    have y1 := cell_later HB6.out HC1.out
    clear hb6 b0 b1 b2 bf
    go_wp2_with fail
    refine wp_region_held_drew (S := fun w' => (w'.cell? ⟨rb, 0, none⟩ = some vo ∧ w'.cell? ⟨w.heap.size, 1, none⟩ = some (.string ⟨q.1.text.toArray⟩)) ∧ Below w6.heap.size w6 w') (by kernel_rfl) ⟨⟨y0, y1⟩, (Below.refl _ _).drew⟩ (fun hHeld => ?_)
    first | (refine held_t (i := 0) hHeld ?_; apply Exists.intro; refine ⟨fun wq hq => ?_, ?_⟩; (focus ((try dsimp only at hq); go_simp; (first | done | with_reducible rfl | fail)))) | refine held_s (i := 0) hHeld ?_ | fail
    first | (refine held_t (i := 1) hHeld ?_; apply Exists.intro; refine ⟨fun wq hq => ?_, ?_⟩; (focus ((try dsimp only at hq); go_simp; (first | done | with_reducible rfl | fail)))) | refine held_s (i := 1) hHeld ?_ | fail
    first | (refine held_t (i := 2) hHeld ?_; apply Exists.intro; refine ⟨fun wq hq => ?_, ?_⟩; (focus ((try dsimp only at hq); go_simp; (first | done | with_reducible rfl | fail)))) | refine held_s (i := 2) hHeld ?_ | fail
    first | (refine held_t (i := 3) hHeld ?_; apply Exists.intro; refine ⟨fun wq hq => ?_, ?_⟩; (focus ((try dsimp only at hq); go_simp; (first | done | with_reducible rfl | fail)))) | refine held_s (i := 3) hHeld ?_ | fail
    first | (refine held_t (i := 4) hHeld ?_; apply Exists.intro; refine ⟨fun wq hq => ?_, ?_⟩; (focus ((try dsimp only at hq); go_simp; (first | done | with_reducible rfl | fail)))) | refine held_s (i := 4) hHeld ?_ | fail
    first | (refine held_t (i := 5) hHeld ?_; apply Exists.intro; refine ⟨fun wq hq => ?_, ?_⟩; (focus ((try dsimp only at hq); go_simp; (first | done | with_reducible rfl | fail)))) | refine held_s (i := 5) hHeld ?_ | fail
    try simp only [Act.put, List.setIfInBounds_toArray, List.set_cons_zero, List.set_cons_succ]
    refine wpAnyH_ready (rs := [6, 10]) (by kernel_rfl) (by simp) ?_
    refine AllReadyH.cons (by simp only [List.getElem?_toArray, List.getElem?_cons_zero, List.getElem?_cons_succ]; rfl) (fun K hK => ?_) (AllReadyH.cons (by simp only [List.getElem?_toArray, List.getElem?_cons_zero, List.getElem?_cons_succ]; rfl) (fun K hK => ?_) AllReadyH.nil)
    · go_simp
      (go_at_call 100; refine (HP2.out _ (Ext.trans' HB6.out hHeld.2) _ (PO.out.ext (Ext.trans' HB6.out hHeld.2))).mono ?_; rintro e w7 ⟨rfl, hb7⟩)
      refine hK.out _ _ (⟨⟨cell_later hb7 hHeld.1.1, cell_later hb7 hHeld.1.2⟩, Ext.trans' hHeld.2 hb7⟩) (fun hHeld => ?_)
      clear hK K
      try simp only [Act.put, List.setIfInBounds_toArray, List.set_cons_zero, List.set_cons_succ]
      have hS7 := hHeld
      first | (refine held_t (i := 7) hHeld ?_; apply Exists.intro; refine ⟨fun wq hq => ?_, ?_⟩; (focus ((try dsimp only at hq); go_simp; (first | done | with_reducible rfl | fail)))) | refine held_s (i := 7) hHeld ?_ | fail
      first | (refine held_t (i := 8) hHeld ?_; apply Exists.intro; refine ⟨fun wq hq => ?_, ?_⟩; (focus ((try dsimp only at hq); go_simp; (first | done | with_reducible rfl | fail)))) | refine held_s (i := 8) hHeld ?_ | fail
      first | (refine held_t (i := 9) hHeld ?_; apply Exists.intro; refine ⟨fun wq hq => ?_, ?_⟩; (focus ((try dsimp only at hq); go_simp; (first | done | with_reducible rfl | fail)))) | refine held_s (i := 9) hHeld ?_ | fail
      try simp only [Act.put, List.setIfInBounds_toArray, List.set_cons_zero, List.set_cons_succ]
      refine held_c 10 fun K hK => ?_
      go_simp
      skip
      refine hK.out _ _ (⟨⟨cell_later (bel1' _ _) hHeld.1.1, cell_later (bel1' _ _) hHeld.1.2⟩, Ext.trans' hHeld.2 (bel1' _ _)⟩) (fun hHeld => ?_)
      clear hK K
      try simp only [Act.put, List.setIfInBounds_toArray, List.set_cons_zero, List.set_cons_succ]
      refine held_c 11 fun K hK => ?_
      go_simp
      skip
      refine hK.out _ _ (⟨⟨cell_later (bel1' _ _) hS7.1.1, cell_later (bel1' _ _) hS7.1.2⟩, Ext.trans' hS7.2 (bel1' _ _)⟩) (fun hHeld => ?_)
      clear hK K
      try simp only [Act.put, List.setIfInBounds_toArray, List.set_cons_zero, List.set_cons_succ]
      first | (refine held_t (i := 12) hHeld ?_; apply Exists.intro; refine ⟨fun wq hq => ?_, ?_⟩; (focus ((try dsimp only at hq); go_simp; (first | done | with_reducible rfl | fail)))) | refine held_s (i := 12) hHeld ?_ | fail
      try simp only [Act.put, List.setIfInBounds_toArray, List.set_cons_zero, List.set_cons_succ]
      refine wpAnyH_done (by kernel_rfl) ?_ _
      have HBY0 := Lib.hid (box_ext_new w7 #[.string bn, .string bk, .int .i64 bv] 93 (Below.refl _ _))
      have HB8 := Lib.hid hHeld.2
      clear hHeld hS7 hb7 y0 y1
      generalize World.alloc w7 (.cells #[.string bn, .string bk, .int .i64 bv] 93) = w8 at *
      generalize w7.heap.size = A2 at *
      obtain ⟨_, _, b2, _⟩ := (HBX6.out.ext HB8.out).three
      obtain ⟨_, _, d2, _⟩ := HBY0.out.three
      have HB38 := Lib.hid (Ext.trans' HB6.out HB8.out)
      obtain ⟨_, c1, _, _, _, _⟩ := (HX13.out.ext HB38.out).five
      (go_wp2_with fail; go_fit (atom_at _ ⟨q.1.text.toArray⟩); rintro e w9 ⟨rfl, hb9⟩)
      obtain ⟨r0, r1, r2, r3, rf⟩ := ((HX3.out.ext HB38.out).ext hb9).four
      have HB9 := Lib.hid (Ext.trans' HB38.out hb9)
      clear hb9 b2 d2 c1
      by_cases hz : max pl bv ≤ most
      · have hzd : decide (max pl bv ≤ most) = true := decide_eq_true hz
        have HN := Lib.hid (show X = some ((aT q.1.text, max pl bv), s) from HXX.out.symm.trans (if_pos hz))
        go_wp2
        refine bodyPost_ret (v := .tuple #[.agg #[.int .i64 2, .int .i64 0, .string ⟨q.1.text.toArray⟩, .slice none 0 0], .int .i64 (max pl bv), .bool true]) (by rw [results_cell3 rfl]; go_simp) rfl ?_
        exact tdone_some (HT3.out.trans (Turn.below HB9.out)) (HS3.out.later HB9.out) HMd.out HSB.out (plusB_self D _) HMB.out (leaf_tm _ i64_2 i64_0 HTS.out) HN.out
      · have hzd : decide (max pl bv ≤ most) = false := decide_eq_false hz
        have HN := Lib.hid (show X = none from HXX.out.symm.trans (if_neg hz))
        go_wp2
        refine bodyPost_ret (v := .tuple #[.agg #[.int .i64 2, .int .i64 0, .string ⟨q.1.text.toArray⟩, .slice none 0 0], .int .i64 (max pl bv), .bool false]) (by rw [results_cell3 rfl]; go_simp) rfl ?_
        exact tdone_none (HT3.out.trans (Turn.below HB9.out)) (HS3.out.later HB9.out).okd HMd.out HSB.out (plusB_self D _) (leaf_tm _ i64_2 i64_0 HTS.out) HN.out
    · go_simp
      skip
      refine hK.out _ _ (⟨⟨cell_later (bel1' _ _) hHeld.1.1, cell_later (bel1' _ _) hHeld.1.2⟩, Ext.trans' hHeld.2 (bel1' _ _)⟩) (fun hHeld => ?_)
      clear hK K
      try simp only [Act.put, List.setIfInBounds_toArray, List.set_cons_zero, List.set_cons_succ]
      refine held_c 6 fun K hK => ?_
      go_simp
      (go_at_call 100; refine (HP2.out _ (Ext.trans' HB6.out hHeld.2) _ (PO.out.ext (Ext.trans' HB6.out hHeld.2))).mono ?_; rintro e w7 ⟨rfl, hb7⟩; have hbx : Box w7 w6.heap.size [.string ⟨#[]⟩, .string ⟨#[]⟩, .int .i64 0] := box_ext_new w6.drew _ _ hb7; obtain ⟨e0, e1, e2, ef⟩ := hbx.three)
      refine hK.out _ _ (⟨⟨cell_later hb7 hHeld.1.1, cell_later hb7 hHeld.1.2⟩, Ext.trans' hHeld.2 hb7⟩) (fun hHeld => ?_)
      clear hK K
      try simp only [Act.put, List.setIfInBounds_toArray, List.set_cons_zero, List.set_cons_succ]
      first | (refine held_t (i := 7) hHeld ?_; apply Exists.intro; refine ⟨fun wq hq => ?_, ?_⟩; (focus ((try dsimp only at hq); go_simp; (first | done | with_reducible rfl | fail)))) | refine held_s (i := 7) hHeld ?_ | fail
      first | (refine held_t (i := 8) hHeld ?_; apply Exists.intro; refine ⟨fun wq hq => ?_, ?_⟩; (focus ((try dsimp only at hq); go_simp; (first | done | with_reducible rfl | fail)))) | refine held_s (i := 8) hHeld ?_ | fail
      first | (refine held_t (i := 9) hHeld ?_; apply Exists.intro; refine ⟨fun wq hq => ?_, ?_⟩; (focus ((try dsimp only at hq); go_simp; (first | done | with_reducible rfl | fail)))) | refine held_s (i := 9) hHeld ?_ | fail
      try simp only [Act.put, List.setIfInBounds_toArray, List.set_cons_zero, List.set_cons_succ]
      refine held_c 11 fun K hK => ?_
      go_simp
      skip
      refine hK.out _ _ (⟨⟨far3 hHeld.1.1 hm1 _ _ _, far3 hHeld.1.2 hm2 _ _ _⟩, Below.set3 hHeld.2 (Nat.le_refl _) _ _ _⟩) (fun hHeld => ?_)
      clear hK K
      try simp only [Act.put, List.setIfInBounds_toArray, List.set_cons_zero, List.set_cons_succ]
      first | (refine held_t (i := 12) hHeld ?_; apply Exists.intro; refine ⟨fun wq hq => ?_, ?_⟩; (focus ((try dsimp only at hq); go_simp; (first | done | with_reducible rfl | fail)))) | refine held_s (i := 12) hHeld ?_ | fail
      try simp only [Act.put, List.setIfInBounds_toArray, List.set_cons_zero, List.set_cons_succ]
      refine wpAnyH_done (by kernel_rfl) ?_ _
      have HBY0 := Lib.hid (show Box (((w7.setCell ⟨w6.heap.size, 0, none⟩ (.string bn)).setCell ⟨w6.heap.size, 1, none⟩ (.string bk)).setCell ⟨w6.heap.size, 2, none⟩ (.int .i64 bv)) w6.heap.size [.string bn, .string bk, .int .i64 bv] from hbx.all3 (.string bn) (.string bk) (.int .i64 bv))
      have HB8 := Lib.hid (show Below w6.heap.size w6 (((w7.setCell ⟨w6.heap.size, 0, none⟩ (.string bn)).setCell ⟨w6.heap.size, 1, none⟩ (.string bk)).setCell ⟨w6.heap.size, 2, none⟩ (.int .i64 bv)) from hHeld.2)
      clear hHeld hb7 hbx e0 e1 e2 ef y0 y1
      generalize (((w7.setCell ⟨w6.heap.size, 0, none⟩ (.string bn)).setCell ⟨w6.heap.size, 1, none⟩ (.string bk)).setCell ⟨w6.heap.size, 2, none⟩ (.int .i64 bv)) = w8 at *
      obtain ⟨_, _, b2, _⟩ := (HBX6.out.ext HB8.out).three
      obtain ⟨_, _, d2, _⟩ := HBY0.out.three
      have HB38 := Lib.hid (Ext.trans' HB6.out HB8.out)
      obtain ⟨_, c1, _, _, _, _⟩ := (HX13.out.ext HB38.out).five
      (go_wp2_with fail; go_fit (atom_at _ ⟨q.1.text.toArray⟩); rintro e w9 ⟨rfl, hb9⟩)
      obtain ⟨r0, r1, r2, r3, rf⟩ := ((HX3.out.ext HB38.out).ext hb9).four
      have HB9 := Lib.hid (Ext.trans' HB38.out hb9)
      clear hb9 b2 d2 c1
      by_cases hz : max pl bv ≤ most
      · have hzd : decide (max pl bv ≤ most) = true := decide_eq_true hz
        have HN := Lib.hid (show X = some ((aT q.1.text, max pl bv), s) from HXX.out.symm.trans (if_pos hz))
        go_wp2
        refine bodyPost_ret (v := .tuple #[.agg #[.int .i64 2, .int .i64 0, .string ⟨q.1.text.toArray⟩, .slice none 0 0], .int .i64 (max pl bv), .bool true]) (by rw [results_cell3 rfl]; go_simp) rfl ?_
        exact tdone_some (HT3.out.trans (Turn.below HB9.out)) (HS3.out.later HB9.out) HMd.out HSB.out (plusB_self D _) HMB.out (leaf_tm _ i64_2 i64_0 HTS.out) HN.out
      · have hzd : decide (max pl bv ≤ most) = false := decide_eq_false hz
        have HN := Lib.hid (show X = none from HXX.out.symm.trans (if_neg hz))
        go_wp2
        refine bodyPost_ret (v := .tuple #[.agg #[.int .i64 2, .int .i64 0, .string ⟨q.1.text.toArray⟩, .slice none 0 0], .int .i64 (max pl bv), .bool false]) (by rw [results_cell3 rfl]; go_simp) rfl ?_
        exact tdone_none (HT3.out.trans (Turn.below HB9.out)) (HS3.out.later HB9.out).okd HMd.out HSB.out (plusB_self D _) (leaf_tm _ i64_2 i64_0 HTS.out) HN.out
end Go.Proofs.YtaojalicnnnkmaaGreatDoor
