import Derived.Test.YtaojalicnnnkmaaGreatDoorHyyaj
set_option linter.unusedVariables false
set_option linter.unusedSimpArgs false
/- The project's reader: named: an operator ahead. -/
namespace Go.Proofs.YtaojalicnnnkmaaGreatDoor
open Go.Shelf Go.RowKit
set_option linter.unusedVariables false

theorem box_ext_new (w : World) (cs : Array Value) (ty : TypeId) {w' : World} (hb : Below (w.alloc (.cells cs ty)).heap.size (w.alloc (.cells cs ty)) w') : Box w' w.heap.size cs.toList := by
  obtain ⟨w1, rfl, _, _, h⟩ := box_new w cs ty
  exact h.ext hb
theorem Box.all3 {w : World} {b : Nat} {v0 v1 v2 : Value} (h : Box w b [v0, v1, v2]) (u0 u1 u2 : Value) : Box (set3 w b u0 u1 u2) b [u0, u1, u2] :=
  ((h.set (k := 0) (by simp)).set (k := 1) (by simp)).set (k := 2) (by simp)
theorem ahead_none {T : TFun} {name : List UInt8} {o : O} {s : RS} {sr : Int} (hs : (sidesB (bl o.k) o.l).2 = sr) (h : T sr s = none) : aheadR T name o s = none := by unfold aheadR; rw [hs, h]
theorem ahead_some {T : TFun} {name : List UInt8} {o : O} {s s1 : RS} {sr : Int} {p : TL} (hs : (sidesB (bl o.k) o.l).2 = sr) (h : T sr s = some (p, s1)) : aheadR T name o s = some ((.mk 2 0 (ba name) [p.1], o.l), s1) := by unfold aheadR; rw [hs, h]
set_option maxRecDepth 100000 in
set_option maxHeartbeats 8000000 in
theorem named_ahead {xs : List O} {n : Nat} (ih : IHT xs n) {D M : Nat → Bool} {w : World} {rb : Nat} {s : RS} (h : St D M w rb xs s) (hlt : s.rest.length < n) (q : TokP) (hq : tokOk q) (most : Int) (hm : isMinusR q (headR s) = false) (ho : q.1.opens = false) (hk : q.1.kind = 1)
    (pn pk : ByteArray) (pl : Int) (hpre : oneB xs q.1.text 1 = (⟨pn, pk, pl⟩, true)) (hle : pl ≤ most) (hbg : beginsR (preO xs) (betO xs) (headR s) = true) :
    Calls Tryz.prog 96 #[.pointer (some ⟨rb, 0, none⟩), tkVal q, .int .i64 most] w (TPost D M w rb xs (aheadR (TERMX xs) q.1.text ⟨pn, pk, pl⟩ s)) := by
  obtain ⟨X, hX⟩ : ∃ X, aheadR (TERMX xs) q.1.text ⟨pn, pk, pl⟩ s = X := ⟨_, rfl⟩
  rw [hX]
  have HXX := Lib.hid hX
  obtain ⟨w1, hw1, hb1, hz1, hx1⟩ := box_new w #[.int .i64 (q.1.kind : Int), .string ⟨q.1.text.toArray⟩, .int .i64 (q.1.n : Int), .bool q.1.opens, .int .i64 (q.2 : Int)] 125
  obtain ⟨w2, hw2, hb2, hz2, hx2⟩ := box_new w1 #[.int .i64 0, .int .i64 0, .string ⟨#[]⟩, .slice none 0 0] 31
  have h2 := h.box (Ext.trans' hb1 hb2) hb1.size hx2.lt
  have HMd := Lib.hid h.md
  have HMB := Lib.hid (Old.out h hb1.size)
  have HMT := Lib.hid (Old.out h (Nat.le_refl _))
  have HSB := Lib.hid hb1.size
  have HT2 := Lib.hid (box_plus (D := D) (M := M) hb1 hb2)
  have HM := isMinus_at h2 q hq.2.2
  rw [hm] at HM
  have HM := Lib.hid HM
  have HS2 := Lib.hid h2
  have HX := Lib.hid hx2
  have HX1 := Lib.hid (hx1.ext hb2)
  obtain ⟨c0, c1, c2, c3, c4, cf⟩ := HX1.out.five
  have HQ := Lib.hid hq
  have HO := Lib.hid ho
  obtain ⟨⟨sl, sr⟩, hsd⟩ : ∃ r, sidesB (bl pk) pl = r := ⟨_, rfl⟩
  have HSD := Lib.hid (fun wq => sides_walk pn pk pl wq)
  rw [hsd] at HSD
  have HSR := Lib.hid (show (sidesB (bl pk) pl).2 = sr by rw [hsd])
  have hled : decide (pl ≤ most) = true := decide_eq_true hle
  clear hsd hle
  have HIH := Lib.hid ih
  have HLT := Lib.hid hlt
  have hts : (⟨q.1.text.toArray⟩ : ByteArray).size ≤ BIG := by have := hq.2.1; show q.1.text.toArray.size ≤ _; simp; unfold BIG; omega
  have HTS := Lib.hid hts
  have k2 : ((q.1.kind : Int) == 2) = false := by rw [hk]; rfl
  have hlt0 := h.lt
  have hrb1 : rb ≠ w1.heap.size := by omega
  have hne1 : w.heap.size ≠ w1.heap.size := by omega
  clear h hq hb1 hb2 hz1 hz2 hx1 hx2 h2 hm ho hk hX hlt ih hts
  go_enter Tryz.func96, Tryz.ntmps96
  go_wp2_with fail
  (try rw [hw1])
  (try rw [hw2])
  clear hw1 hw2
  (go_wp2_with fail; go_fit (HM.out); rintro e w3 ⟨rfl, hb3⟩)
  obtain ⟨c0, c1, c2, c3, c4, cf⟩ := (HX1.out.ext hb3).five
  rw [HO.out] at c3
  have HS3 := Lib.hid (HS2.out.later hb3)
  have HT3 := Lib.hid (HT2.out.trans (Turn.below hb3))
  have HX3 := Lib.hid (HX.out.ext hb3)
  have HX13 := Lib.hid (HX1.out.ext hb3)
  obtain ⟨vo, _, _, p0, _, _, _, _, po, _⟩ := HS3.out.parts
  have PO := Lib.hid po.bare
  have hn1 : rb ≠ w3.heap.size := (World.new_ne w3 _ p0).symm
  have hn2 : w.heap.size ≠ w3.heap.size := (World.new_ne w3 _ c1).symm
  have hn3 : w3.heap.size ≠ w1.heap.size := by have := HX3.out.lt; omega
  have hBw : w1.heap.size < w3.heap.size := HX3.out.lt
  have HP := Lib.hid (fun wq (hb : Below w3.heap.size w3 wq) (v : Value) (hv : Ops wq v xs) => pre_walk hv ⟨q.1.text.toArray⟩)
  rw [show bl (⟨q.1.text.toArray⟩ : ByteArray) = q.1.text from rfl, hpre] at HP
  clear hb3 po c2 c4 cf hpre
  go_wp2_with fail
  refine wp_region_held_drew (S := fun w' => (w'.cell? ⟨rb, 0, none⟩ = some vo ∧ w'.cell? ⟨w.heap.size, 1, none⟩ = some (.string ⟨q.1.text.toArray⟩)) ∧ Below w3.heap.size w3 w') (by kernel_rfl) ⟨⟨p0, c1⟩, (Below.refl _ _).drew⟩ (fun hHeld => ?_)
  first | (refine held_t (i := 0) hHeld ?_; apply Exists.intro; refine ⟨fun wq hq => ?_, ?_⟩; (focus ((try dsimp only at hq); go_simp; (first | done | with_reducible rfl | fail)))) | refine held_s (i := 0) hHeld ?_ | fail
  first | (refine held_t (i := 1) hHeld ?_; apply Exists.intro; refine ⟨fun wq hq => ?_, ?_⟩; (focus ((try dsimp only at hq); go_simp; (first | done | with_reducible rfl | fail)))) | refine held_s (i := 1) hHeld ?_ | fail
  first | (refine held_t (i := 2) hHeld ?_; apply Exists.intro; refine ⟨fun wq hq => ?_, ?_⟩; (focus ((try dsimp only at hq); go_simp; (first | done | with_reducible rfl | fail)))) | refine held_s (i := 2) hHeld ?_ | fail
  first | (refine held_t (i := 3) hHeld ?_; apply Exists.intro; refine ⟨fun wq hq => ?_, ?_⟩; (focus ((try dsimp only at hq); go_simp; (first | done | with_reducible rfl | fail)))) | refine held_s (i := 3) hHeld ?_ | fail
  first | (refine held_t (i := 4) hHeld ?_; apply Exists.intro; refine ⟨fun wq hq => ?_, ?_⟩; (focus ((try dsimp only at hq); go_simp; (first | done | with_reducible rfl | fail)))) | refine held_s (i := 4) hHeld ?_ | fail
  first | (refine held_t (i := 5) hHeld ?_; apply Exists.intro; refine ⟨fun wq hq => ?_, ?_⟩; (focus ((try dsimp only at hq); go_simp; (first | done | with_reducible rfl | fail)))) | refine held_s (i := 5) hHeld ?_ | fail
  try simp only [Act.put, List.setIfInBounds_toArray, List.set_cons_zero, List.set_cons_succ]
  refine wpAnyH_ready (rs := [6, 10]) (by kernel_rfl) (by simp) ?_
  refine AllReadyH.cons (by simp only [List.getElem?_toArray, List.getElem?_cons_zero, List.getElem?_cons_succ]; rfl) (fun K hK => ?_) (AllReadyH.cons (by simp only [List.getElem?_toArray, List.getElem?_cons_zero, List.getElem?_cons_succ]; rfl) (fun K hK => ?_) AllReadyH.nil)
  · go_simp
    (go_at_call 118; refine (HP.out _ hHeld.2 _ (PO.out.ext hHeld.2)).mono ?_; rintro e w4 ⟨rfl, hb4⟩)
    refine hK.out _ _ (⟨⟨cell_later hb4 hHeld.1.1, cell_later hb4 hHeld.1.2⟩, Ext.trans' hHeld.2 hb4⟩) (fun hHeld => ?_)
    clear hK K
    try simp only [Act.put, List.setIfInBounds_toArray, List.set_cons_zero, List.set_cons_succ]
    have hS4 := hHeld
    first | (refine held_t (i := 7) hHeld ?_; apply Exists.intro; refine ⟨fun wq hq => ?_, ?_⟩; (focus ((try dsimp only at hq); go_simp; (first | done | with_reducible rfl | fail)))) | refine held_s (i := 7) hHeld ?_ | fail
    first | (refine held_t (i := 8) hHeld ?_; apply Exists.intro; refine ⟨fun wq hq => ?_, ?_⟩; (focus ((try dsimp only at hq); go_simp; (first | done | with_reducible rfl | fail)))) | refine held_s (i := 8) hHeld ?_ | fail
    first | (refine held_t (i := 9) hHeld ?_; apply Exists.intro; refine ⟨fun wq hq => ?_, ?_⟩; (focus ((try dsimp only at hq); go_simp; (first | done | with_reducible rfl | fail)))) | refine held_s (i := 9) hHeld ?_ | fail
    try simp only [Act.put, List.setIfInBounds_toArray, List.set_cons_zero, List.set_cons_succ]
    refine held_c 10 fun K hK => ?_
    go_simp
    skip
    refine hK.out _ _ (⟨⟨cell_later (bel1' _ _) hHeld.1.1, cell_later (bel1' _ _) hHeld.1.2⟩, Ext.trans' hHeld.2 (bel1' _ _)⟩) (fun hHeld => ?_)
    clear hK K
    try simp only [Act.put, List.setIfInBounds_toArray, List.set_cons_zero, List.set_cons_succ]
    refine held_c 11 fun K hK => ?_
    go_simp
    skip
    refine hK.out _ _ (⟨⟨cell_later (bel1' _ _) hS4.1.1, cell_later (bel1' _ _) hS4.1.2⟩, Ext.trans' hS4.2 (bel1' _ _)⟩) (fun hHeld => ?_)
    clear hK K
    try simp only [Act.put, List.setIfInBounds_toArray, List.set_cons_zero, List.set_cons_succ]
    first | (refine held_t (i := 12) hHeld ?_; apply Exists.intro; refine ⟨fun wq hq => ?_, ?_⟩; (focus ((try dsimp only at hq); go_simp; (first | done | with_reducible rfl | fail)))) | refine held_s (i := 12) hHeld ?_ | fail
    try simp only [Act.put, List.setIfInBounds_toArray, List.set_cons_zero, List.set_cons_succ]
    refine wpAnyH_done (by kernel_rfl) ?_ _
    have HBX0 := Lib.hid (box_ext_new w4 #[.string pn, .string pk, .int .i64 pl] 93 (Below.refl _ _))
    have hAB : w4.heap.size ≠ w1.heap.size := by have := hS4.2.size; omega
    have hAge : w3.heap.size ≤ w4.heap.size := hS4.2.size
    have HB5 := Lib.hid hHeld.2
    clear hHeld hS4 hb4 p0 c1 c0 c3
    generalize World.alloc w4 (.cells #[.string pn, .string pk, .int .i64 pl] 93) = w5 at *
    generalize w4.heap.size = A at *
    have hs5 := HS3.out.later HB5.out
    have HBG := begins_at hs5
    rw [hbg] at HBG
    have HBG := Lib.hid HBG
    obtain ⟨b0, b1, b2, bf⟩ := HBX0.out.three
    clear hs5 HP PO hn1 hn2
    (go_wp2_with fail; go_fit (HBG.out); rintro e w6 ⟨rfl, hb6⟩)
    obtain ⟨b0, b1, b2, bf⟩ := (HBX0.out.ext hb6).three
    (go_wp2_with fail; go_fit (HSD.out _); rintro e w7 ⟨rfl, hb7⟩)
    have HB7 := Lib.hid (Ext.trans' (Ext.trans' HB5.out hb6) hb7)
    have HBX7 := Lib.hid ((HBX0.out.ext hb6).ext hb7)
    have hs7 := HS3.out.later HB7.out
    have HTM := Lib.hid (HIH.out _ _ _ rb _ sr hs7 HLT.out)
    have HMD7 := Lib.hid hs7.md
    have HX7 := Lib.hid (HX3.out.ext HB7.out)
    have HX17 := Lib.hid (HX13.out.ext HB7.out)
    have HT7 := Lib.hid (HT3.out.trans (Turn.below HB7.out))
    have HMA : Hid (∀ (b : Nat) (vs : List Value), Box w7 b vs → w3.heap.size ≤ b → M b = false) := Lib.hid (fun b vs hb hge => by
      cases hm : M b with
      | false => rfl
      | true => have h1 := HS3.out.md b hm; rw [HS3.out.old b hge] at h1; cases h1)
    have HMAx := Lib.hid (HMA.out _ _ HBX7.out (hAge))
    clear hb6 hb7 hs7 b0 b1 b2 bf HBG HSD HMA
    (go_wp2_with fail; go_fit (HTM.out); rintro e w8 ⟨D8, M8, t8, v8, lv8, ok, rfl, htv, ht8, ho8, hok8, hsm8⟩)
    obtain ⟨k8, n8, s8, a8, m8, c8, rfl⟩ := htv.full
    have HDB := Lib.hid ((ht8.dd _ HX7.out.lt).trans (plusB_self D _))
    have HMB8 := Lib.hid ((ht8.mm _ HX7.out.lt).trans HMB.out)
    have HX8 := Lib.hid (HX7.out.turn ht8 HMB.out)
    have HBX8 := Lib.hid (((HBX7.out.turn ht8 HMAx.out)).far4 hAB (.int .i64 k8) (.int .i64 n8) (.string s8) (.slice a8 m8 c8))
    have HX18 := Lib.hid ((HX17.out.turn ht8 HMT.out).far4 hne1 (.int .i64 k8) (.int .i64 n8) (.string s8) (.slice a8 m8 c8))
    have HT9 := Lib.hid ((HT7.out.trans ht8).set4 (b := w1.heap.size) (Or.inl HSB.out) (.int .i64 k8) (.int .i64 n8) (.string s8) (.slice a8 m8 c8))
    have HV9 := Lib.hid (htv.put4 HDB.out (.int .i64 k8) (.int .i64 n8) (.string s8) (.slice a8 m8 c8))
    have HO9 := Lib.hid (ho8.put4 w1.heap.size (.int .i64 k8) (.int .i64 n8) (.string s8) (.slice a8 m8 c8))
    have HX9 := Lib.hid (HX8.out.all4 (.int .i64 k8) (.int .i64 n8) (.string s8) (.slice a8 m8 c8))
    have HSM := Lib.hid hsm8
    have HOK := Lib.hid hok8
    obtain ⟨r0, r1, r2, r3, rf⟩ := HX8.out.four
    clear htv ht8 ho8 hok8 hsm8
    obtain ⟨w9, hw9⟩ : ∃ w9, set4 w8 w1.heap.size (.int .i64 k8) (.int .i64 n8) (.string s8) (.slice a8 m8 c8) = w9 := ⟨_, rfl⟩
    rw [hw9] at HT9 HV9 HO9 HX9 HBX8 HX18
    obtain ⟨u0, u1, u2, u3, uf⟩ := HX9.out.four
    obtain ⟨b0, b1, b2, bf⟩ := HBX8.out.three
    obtain ⟨_, c1, _, _, _, _⟩ := HX18.out.five
    have HCM := Lib.hid (comp_hide (w := w9.drew.alloc (.cells #[.int .i64 k8, .int .i64 n8, .string s8, .slice a8 m8 c8] 31)) (D := D8) ⟨q.1.text.toArray⟩ HTS.out (HO9.out.2.mono (show w9.heap.size ≤ _ from (bel1' w9.drew _).size)) (tms_one (w := w9.drew) HO9.out.2 (TmV.later (Below.refl _ _).drew HV9.out) _))
    cases hX1 : TERMX xs sr s with
    | none =>
      obtain rfl : ok = false := by rw [HOK.out, hX1]; rfl
      have HN := Lib.hid (show X = none from HXX.out.symm.trans (ahead_none HSR.out hX1))
      clear hX1
      go_wp2_with fail
      (try rw [hw9])
      clear hw9
      refine wp_region_held_drew (S := fun w' => w'.cell? ⟨w.heap.size, 1, none⟩ = some (.string ⟨q.1.text.toArray⟩) ∧ w'.cell? ⟨A, 2, none⟩ = some (.int .i64 pl)) (by kernel_rfl) ⟨c1, b2⟩ (fun hHeld => ?_)
      first | (refine held_t (i := 0) hHeld ?_; apply Exists.intro; refine ⟨fun wq hq => ?_, ?_⟩; (focus ((try dsimp only at hq); go_simp; (first | done | with_reducible rfl | fail)))) | refine held_s (i := 0) hHeld ?_ | fail
      first | (refine held_t (i := 1) hHeld ?_; apply Exists.intro; refine ⟨fun wq hq => ?_, ?_⟩; (focus ((try dsimp only at hq); go_simp; (first | done | with_reducible rfl | fail)))) | refine held_s (i := 1) hHeld ?_ | fail
      first | (refine held_t (i := 5) hHeld ?_; apply Exists.intro; refine ⟨fun wq hq => ?_, ?_⟩; (focus ((try dsimp only at hq); go_simp; (first | done | with_reducible rfl | fail)))) | refine held_s (i := 5) hHeld ?_ | fail
      first | (refine held_t (i := 6) hHeld ?_; apply Exists.intro; refine ⟨fun wq hq => ?_, ?_⟩; (focus ((try dsimp only at hq); go_simp; (first | done | with_reducible rfl | fail)))) | refine held_s (i := 6) hHeld ?_ | fail
      first | (refine held_t (i := 7) hHeld ?_; apply Exists.intro; refine ⟨fun wq hq => ?_, ?_⟩; (focus ((try dsimp only at hq); go_simp; (first | done | with_reducible rfl | fail)))) | refine held_s (i := 7) hHeld ?_ | fail
      try simp only [Act.put, List.setIfInBounds_toArray, List.set_cons_zero, List.set_cons_succ]
      refine held_c 2 fun K hK => ?_
      go_simp
      skip
      refine hK.out _ _ (hHeld) (fun hHeld => ?_)
      clear hK K
      try simp only [Act.put, List.setIfInBounds_toArray, List.set_cons_zero, List.set_cons_succ]
      refine held_c 3 fun K hK => ?_
      go_simp
      skip
      refine hK.out _ _ (⟨cell_later (bel1' _ _) hHeld.1, cell_later (bel1' _ _) hHeld.2⟩) (fun hHeld => ?_)
      clear hK K
      try simp only [Act.put, List.setIfInBounds_toArray, List.set_cons_zero, List.set_cons_succ]
      refine held_c 4 fun K hK => ?_
      go_simp
      (go_at_call 26; refine HCM.out.mono ?_; rintro e w11 ⟨a11, c11, rfl, hv11, hb11⟩; obtain ⟨r0, r1, r2, r3, rf⟩ := ((HX9.out.ext (Below.refl _ _).drew).ext (Ext.trans' (bel1' _ _) hb11)).four; have HV11 := Lib.hid hv11; have HB11 := Lib.hid (Ext.trans' (Below.refl w9.heap.size w9).drew (Ext.trans' (bel1' w9.drew _) hb11)))
      refine hK.out _ _ (⟨cell_later hb11 hHeld.1, cell_later hb11 hHeld.2⟩) (fun hHeld => ?_)
      clear hK K
      try simp only [Act.put, List.setIfInBounds_toArray, List.set_cons_zero, List.set_cons_succ]
      refine held_c 8 fun K hK => ?_
      go_simp
      skip
      refine hK.out _ _ (⟨far4 hHeld.1 hne1 _ _ _ _, far4 hHeld.2 hAB _ _ _ _⟩) (fun hHeld => ?_)
      clear hK K
      try simp only [Act.put, List.setIfInBounds_toArray, List.set_cons_zero, List.set_cons_succ]
      first | (refine held_t (i := 9) hHeld ?_; apply Exists.intro; refine ⟨fun wq hq => ?_, ?_⟩; (focus ((try dsimp only at hq); go_simp; (first | done | with_reducible rfl | fail)))) | refine held_s (i := 9) hHeld ?_ | fail
      first | (refine held_t (i := 10) hHeld ?_; apply Exists.intro; refine ⟨fun wq hq => ?_, ?_⟩; (focus ((try dsimp only at hq); go_simp; (first | done | with_reducible rfl | fail)))) | refine held_s (i := 10) hHeld ?_ | fail
      try simp only [Act.put, List.setIfInBounds_toArray, List.set_cons_zero, List.set_cons_succ]
      refine wpAnyH_done (by kernel_rfl) ?_ _
      go_wp2
      refine bodyPost_ret (v := .tuple #[.agg #[.int .i64 2, .int .i64 0, .string ⟨q.1.text.toArray⟩, .slice a11 1 c11], .int .i64 pl, .bool false]) (by rw [results_cell3 rfl]; go_simp) rfl ?_
      exact tdone_none (HT9.out.trans (Turn.below HB11.out)) (HO9.out.later HB11.out.size) HMd.out HSB.out HDB.out HV11.out HN.out
    | some p =>
      obtain ⟨⟨tq, lq⟩, s1⟩ := p
      obtain rfl : ok = true := by rw [HOK.out, hX1]; rfl
      obtain ⟨rfl, rfl, hs8⟩ := HSM.out _ _ hX1
      have HN := Lib.hid (show X = some ((.mk 2 0 (ba q.1.text) [t8], pl), s1) from HXX.out.symm.trans (ahead_some HSR.out hX1))
      have hs9 := hs8.put4 HDB.out HMB8.out (.int .i64 k8) (.int .i64 n8) (.string s8) (.slice a8 m8 c8)
      rw [hw9] at hs9
      have HS9 := Lib.hid hs9
      clear hX1 hs8 hs9
      go_wp2_with fail
      (try rw [hw9])
      clear hw9
      refine wp_region_held_drew (S := fun w' => w'.cell? ⟨w.heap.size, 1, none⟩ = some (.string ⟨q.1.text.toArray⟩) ∧ w'.cell? ⟨A, 2, none⟩ = some (.int .i64 pl)) (by kernel_rfl) ⟨c1, b2⟩ (fun hHeld => ?_)
      first | (refine held_t (i := 0) hHeld ?_; apply Exists.intro; refine ⟨fun wq hq => ?_, ?_⟩; (focus ((try dsimp only at hq); go_simp; (first | done | with_reducible rfl | fail)))) | refine held_s (i := 0) hHeld ?_ | fail
      first | (refine held_t (i := 1) hHeld ?_; apply Exists.intro; refine ⟨fun wq hq => ?_, ?_⟩; (focus ((try dsimp only at hq); go_simp; (first | done | with_reducible rfl | fail)))) | refine held_s (i := 1) hHeld ?_ | fail
      first | (refine held_t (i := 5) hHeld ?_; apply Exists.intro; refine ⟨fun wq hq => ?_, ?_⟩; (focus ((try dsimp only at hq); go_simp; (first | done | with_reducible rfl | fail)))) | refine held_s (i := 5) hHeld ?_ | fail
      first | (refine held_t (i := 6) hHeld ?_; apply Exists.intro; refine ⟨fun wq hq => ?_, ?_⟩; (focus ((try dsimp only at hq); go_simp; (first | done | with_reducible rfl | fail)))) | refine held_s (i := 6) hHeld ?_ | fail
      first | (refine held_t (i := 7) hHeld ?_; apply Exists.intro; refine ⟨fun wq hq => ?_, ?_⟩; (focus ((try dsimp only at hq); go_simp; (first | done | with_reducible rfl | fail)))) | refine held_s (i := 7) hHeld ?_ | fail
      try simp only [Act.put, List.setIfInBounds_toArray, List.set_cons_zero, List.set_cons_succ]
      refine held_c 2 fun K hK => ?_
      go_simp
      skip
      refine hK.out _ _ (hHeld) (fun hHeld => ?_)
      clear hK K
      try simp only [Act.put, List.setIfInBounds_toArray, List.set_cons_zero, List.set_cons_succ]
      refine held_c 3 fun K hK => ?_
      go_simp
      skip
      refine hK.out _ _ (⟨cell_later (bel1' _ _) hHeld.1, cell_later (bel1' _ _) hHeld.2⟩) (fun hHeld => ?_)
      clear hK K
      try simp only [Act.put, List.setIfInBounds_toArray, List.set_cons_zero, List.set_cons_succ]
      refine held_c 4 fun K hK => ?_
      go_simp
      (go_at_call 26; refine HCM.out.mono ?_; rintro e w11 ⟨a11, c11, rfl, hv11, hb11⟩; obtain ⟨r0, r1, r2, r3, rf⟩ := ((HX9.out.ext (Below.refl _ _).drew).ext (Ext.trans' (bel1' _ _) hb11)).four; have HV11 := Lib.hid hv11; have HB11 := Lib.hid (Ext.trans' (Below.refl w9.heap.size w9).drew (Ext.trans' (bel1' w9.drew _) hb11)))
      refine hK.out _ _ (⟨cell_later hb11 hHeld.1, cell_later hb11 hHeld.2⟩) (fun hHeld => ?_)
      clear hK K
      try simp only [Act.put, List.setIfInBounds_toArray, List.set_cons_zero, List.set_cons_succ]
      refine held_c 8 fun K hK => ?_
      go_simp
      skip
      refine hK.out _ _ (⟨far4 hHeld.1 hne1 _ _ _ _, far4 hHeld.2 hAB _ _ _ _⟩) (fun hHeld => ?_)
      clear hK K
      try simp only [Act.put, List.setIfInBounds_toArray, List.set_cons_zero, List.set_cons_succ]
      first | (refine held_t (i := 9) hHeld ?_; apply Exists.intro; refine ⟨fun wq hq => ?_, ?_⟩; (focus ((try dsimp only at hq); go_simp; (first | done | with_reducible rfl | fail)))) | refine held_s (i := 9) hHeld ?_ | fail
      first | (refine held_t (i := 10) hHeld ?_; apply Exists.intro; refine ⟨fun wq hq => ?_, ?_⟩; (focus ((try dsimp only at hq); go_simp; (first | done | with_reducible rfl | fail)))) | refine held_s (i := 10) hHeld ?_ | fail
      try simp only [Act.put, List.setIfInBounds_toArray, List.set_cons_zero, List.set_cons_succ]
      refine wpAnyH_done (by kernel_rfl) ?_ _
      go_wp2
      refine bodyPost_ret (v := .tuple #[.agg #[.int .i64 2, .int .i64 0, .string ⟨q.1.text.toArray⟩, .slice a11 1 c11], .int .i64 pl, .bool true]) (by rw [results_cell3 rfl]; go_simp) rfl ?_
      exact tdone_some (HT9.out.trans (Turn.below HB11.out)) (HS9.out.later HB11.out) HMd.out HSB.out HDB.out HMB8.out HV11.out HN.out
  · go_simp
    skip
    refine hK.out _ _ (⟨⟨cell_later (bel1' _ _) hHeld.1.1, cell_later (bel1' _ _) hHeld.1.2⟩, Ext.trans' hHeld.2 (bel1' _ _)⟩) (fun hHeld => ?_)
    clear hK K
    try simp only [Act.put, List.setIfInBounds_toArray, List.set_cons_zero, List.set_cons_succ]
    refine held_c 6 fun K hK => ?_
    go_simp
    (go_at_call 118; refine (HP.out _ hHeld.2 _ (PO.out.ext hHeld.2)).mono ?_; rintro e w4 ⟨rfl, hb4⟩; have hbx : Box w4 w3.heap.size [.string ⟨#[]⟩, .string ⟨#[]⟩, .int .i64 0] := box_ext_new w3.drew _ _ hb4; obtain ⟨e0, e1, e2, ef⟩ := hbx.three)
    refine hK.out _ _ (⟨⟨cell_later hb4 hHeld.1.1, cell_later hb4 hHeld.1.2⟩, Ext.trans' hHeld.2 hb4⟩) (fun hHeld => ?_)
    clear hK K
    try simp only [Act.put, List.setIfInBounds_toArray, List.set_cons_zero, List.set_cons_succ]
    first | (refine held_t (i := 7) hHeld ?_; apply Exists.intro; refine ⟨fun wq hq => ?_, ?_⟩; (focus ((try dsimp only at hq); go_simp; (first | done | with_reducible rfl | fail)))) | refine held_s (i := 7) hHeld ?_ | fail
    first | (refine held_t (i := 8) hHeld ?_; apply Exists.intro; refine ⟨fun wq hq => ?_, ?_⟩; (focus ((try dsimp only at hq); go_simp; (first | done | with_reducible rfl | fail)))) | refine held_s (i := 8) hHeld ?_ | fail
    first | (refine held_t (i := 9) hHeld ?_; apply Exists.intro; refine ⟨fun wq hq => ?_, ?_⟩; (focus ((try dsimp only at hq); go_simp; (first | done | with_reducible rfl | fail)))) | refine held_s (i := 9) hHeld ?_ | fail
    try simp only [Act.put, List.setIfInBounds_toArray, List.set_cons_zero, List.set_cons_succ]
    refine held_c 11 fun K hK => ?_
    go_simp
    skip
    refine hK.out _ _ (⟨⟨far3 hHeld.1.1 hn1 _ _ _, far3 hHeld.1.2 hn2 _ _ _⟩, Below.set3 hHeld.2 (Nat.le_refl _) _ _ _⟩) (fun hHeld => ?_)
    clear hK K
    try simp only [Act.put, List.setIfInBounds_toArray, List.set_cons_zero, List.set_cons_succ]
    first | (refine held_t (i := 12) hHeld ?_; apply Exists.intro; refine ⟨fun wq hq => ?_, ?_⟩; (focus ((try dsimp only at hq); go_simp; (first | done | with_reducible rfl | fail)))) | refine held_s (i := 12) hHeld ?_ | fail
    try simp only [Act.put, List.setIfInBounds_toArray, List.set_cons_zero, List.set_cons_succ]
    refine wpAnyH_done (by kernel_rfl) ?_ _
    have HBX0 := Lib.hid (show Box (((w4.setCell ⟨w3.heap.size, 0, none⟩ (.string pn)).setCell ⟨w3.heap.size, 1, none⟩ (.string pk)).setCell ⟨w3.heap.size, 2, none⟩ (.int .i64 pl)) w3.heap.size [.string pn, .string pk, .int .i64 pl] from hbx.all3 (.string pn) (.string pk) (.int .i64 pl))
    have hAB : w3.heap.size ≠ w1.heap.size := hn3
    have HB5 := Lib.hid (show Below w3.heap.size w3 (((w4.setCell ⟨w3.heap.size, 0, none⟩ (.string pn)).setCell ⟨w3.heap.size, 1, none⟩ (.string pk)).setCell ⟨w3.heap.size, 2, none⟩ (.int .i64 pl)) from hHeld.2)
    clear hHeld hb4 hbx e0 e1 e2 ef p0 c1 c0 c3
    generalize (((w4.setCell ⟨w3.heap.size, 0, none⟩ (.string pn)).setCell ⟨w3.heap.size, 1, none⟩ (.string pk)).setCell ⟨w3.heap.size, 2, none⟩ (.int .i64 pl)) = w5 at *
    have hs5 := HS3.out.later HB5.out
    have HBG := begins_at hs5
    rw [hbg] at HBG
    have HBG := Lib.hid HBG
    obtain ⟨b0, b1, b2, bf⟩ := HBX0.out.three
    clear hs5 HP PO hn1 hn2
    (go_wp2_with fail; go_fit (HBG.out); rintro e w6 ⟨rfl, hb6⟩)
    obtain ⟨b0, b1, b2, bf⟩ := (HBX0.out.ext hb6).three
    (go_wp2_with fail; go_fit (HSD.out _); rintro e w7 ⟨rfl, hb7⟩)
    have HB7 := Lib.hid (Ext.trans' (Ext.trans' HB5.out hb6) hb7)
    have HBX7 := Lib.hid ((HBX0.out.ext hb6).ext hb7)
    have hs7 := HS3.out.later HB7.out
    have HTM := Lib.hid (HIH.out _ _ _ rb _ sr hs7 HLT.out)
    have HMD7 := Lib.hid hs7.md
    have HX7 := Lib.hid (HX3.out.ext HB7.out)
    have HX17 := Lib.hid (HX13.out.ext HB7.out)
    have HT7 := Lib.hid (HT3.out.trans (Turn.below HB7.out))
    have HMA : Hid (∀ (b : Nat) (vs : List Value), Box w7 b vs → w3.heap.size ≤ b → M b = false) := Lib.hid (fun b vs hb hge => by
      cases hm : M b with
      | false => rfl
      | true => have h1 := HS3.out.md b hm; rw [HS3.out.old b hge] at h1; cases h1)
    have HMAx := Lib.hid (HMA.out _ _ HBX7.out (Nat.le_refl _))
    clear hb6 hb7 hs7 b0 b1 b2 bf HBG HSD HMA
    (go_wp2_with fail; go_fit (HTM.out); rintro e w8 ⟨D8, M8, t8, v8, lv8, ok, rfl, htv, ht8, ho8, hok8, hsm8⟩)
    obtain ⟨k8, n8, s8, a8, m8, c8, rfl⟩ := htv.full
    have HDB := Lib.hid ((ht8.dd _ HX7.out.lt).trans (plusB_self D _))
    have HMB8 := Lib.hid ((ht8.mm _ HX7.out.lt).trans HMB.out)
    have HX8 := Lib.hid (HX7.out.turn ht8 HMB.out)
    have HBX8 := Lib.hid (((HBX7.out.turn ht8 HMAx.out)).far4 hAB (.int .i64 k8) (.int .i64 n8) (.string s8) (.slice a8 m8 c8))
    have HX18 := Lib.hid ((HX17.out.turn ht8 HMT.out).far4 hne1 (.int .i64 k8) (.int .i64 n8) (.string s8) (.slice a8 m8 c8))
    have HT9 := Lib.hid ((HT7.out.trans ht8).set4 (b := w1.heap.size) (Or.inl HSB.out) (.int .i64 k8) (.int .i64 n8) (.string s8) (.slice a8 m8 c8))
    have HV9 := Lib.hid (htv.put4 HDB.out (.int .i64 k8) (.int .i64 n8) (.string s8) (.slice a8 m8 c8))
    have HO9 := Lib.hid (ho8.put4 w1.heap.size (.int .i64 k8) (.int .i64 n8) (.string s8) (.slice a8 m8 c8))
    have HX9 := Lib.hid (HX8.out.all4 (.int .i64 k8) (.int .i64 n8) (.string s8) (.slice a8 m8 c8))
    have HSM := Lib.hid hsm8
    have HOK := Lib.hid hok8
    obtain ⟨r0, r1, r2, r3, rf⟩ := HX8.out.four
    clear htv ht8 ho8 hok8 hsm8
    obtain ⟨w9, hw9⟩ : ∃ w9, set4 w8 w1.heap.size (.int .i64 k8) (.int .i64 n8) (.string s8) (.slice a8 m8 c8) = w9 := ⟨_, rfl⟩
    rw [hw9] at HT9 HV9 HO9 HX9 HBX8 HX18
    obtain ⟨u0, u1, u2, u3, uf⟩ := HX9.out.four
    obtain ⟨b0, b1, b2, bf⟩ := HBX8.out.three
    obtain ⟨_, c1, _, _, _, _⟩ := HX18.out.five
    have HCM := Lib.hid (comp_hide (w := w9.drew.alloc (.cells #[.int .i64 k8, .int .i64 n8, .string s8, .slice a8 m8 c8] 31)) (D := D8) ⟨q.1.text.toArray⟩ HTS.out (HO9.out.2.mono (show w9.heap.size ≤ _ from (bel1' w9.drew _).size)) (tms_one (w := w9.drew) HO9.out.2 (TmV.later (Below.refl _ _).drew HV9.out) _))
    cases hX1 : TERMX xs sr s with
    | none =>
      obtain rfl : ok = false := by rw [HOK.out, hX1]; rfl
      have HN := Lib.hid (show X = none from HXX.out.symm.trans (ahead_none HSR.out hX1))
      clear hX1
      go_wp2_with fail
      (try rw [hw9])
      clear hw9
      refine wp_region_held_drew (S := fun w' => w'.cell? ⟨w.heap.size, 1, none⟩ = some (.string ⟨q.1.text.toArray⟩) ∧ w'.cell? ⟨w3.heap.size, 2, none⟩ = some (.int .i64 pl)) (by kernel_rfl) ⟨c1, b2⟩ (fun hHeld => ?_)
      first | (refine held_t (i := 0) hHeld ?_; apply Exists.intro; refine ⟨fun wq hq => ?_, ?_⟩; (focus ((try dsimp only at hq); go_simp; (first | done | with_reducible rfl | fail)))) | refine held_s (i := 0) hHeld ?_ | fail
      first | (refine held_t (i := 1) hHeld ?_; apply Exists.intro; refine ⟨fun wq hq => ?_, ?_⟩; (focus ((try dsimp only at hq); go_simp; (first | done | with_reducible rfl | fail)))) | refine held_s (i := 1) hHeld ?_ | fail
      first | (refine held_t (i := 5) hHeld ?_; apply Exists.intro; refine ⟨fun wq hq => ?_, ?_⟩; (focus ((try dsimp only at hq); go_simp; (first | done | with_reducible rfl | fail)))) | refine held_s (i := 5) hHeld ?_ | fail
      first | (refine held_t (i := 6) hHeld ?_; apply Exists.intro; refine ⟨fun wq hq => ?_, ?_⟩; (focus ((try dsimp only at hq); go_simp; (first | done | with_reducible rfl | fail)))) | refine held_s (i := 6) hHeld ?_ | fail
      first | (refine held_t (i := 7) hHeld ?_; apply Exists.intro; refine ⟨fun wq hq => ?_, ?_⟩; (focus ((try dsimp only at hq); go_simp; (first | done | with_reducible rfl | fail)))) | refine held_s (i := 7) hHeld ?_ | fail
      try simp only [Act.put, List.setIfInBounds_toArray, List.set_cons_zero, List.set_cons_succ]
      refine held_c 2 fun K hK => ?_
      go_simp
      skip
      refine hK.out _ _ (hHeld) (fun hHeld => ?_)
      clear hK K
      try simp only [Act.put, List.setIfInBounds_toArray, List.set_cons_zero, List.set_cons_succ]
      refine held_c 3 fun K hK => ?_
      go_simp
      skip
      refine hK.out _ _ (⟨cell_later (bel1' _ _) hHeld.1, cell_later (bel1' _ _) hHeld.2⟩) (fun hHeld => ?_)
      clear hK K
      try simp only [Act.put, List.setIfInBounds_toArray, List.set_cons_zero, List.set_cons_succ]
      refine held_c 4 fun K hK => ?_
      go_simp
      (go_at_call 26; refine HCM.out.mono ?_; rintro e w11 ⟨a11, c11, rfl, hv11, hb11⟩; obtain ⟨r0, r1, r2, r3, rf⟩ := ((HX9.out.ext (Below.refl _ _).drew).ext (Ext.trans' (bel1' _ _) hb11)).four; have HV11 := Lib.hid hv11; have HB11 := Lib.hid (Ext.trans' (Below.refl w9.heap.size w9).drew (Ext.trans' (bel1' w9.drew _) hb11)))
      refine hK.out _ _ (⟨cell_later hb11 hHeld.1, cell_later hb11 hHeld.2⟩) (fun hHeld => ?_)
      clear hK K
      try simp only [Act.put, List.setIfInBounds_toArray, List.set_cons_zero, List.set_cons_succ]
      refine held_c 8 fun K hK => ?_
      go_simp
      skip
      refine hK.out _ _ (⟨far4 hHeld.1 hne1 _ _ _ _, far4 hHeld.2 hAB _ _ _ _⟩) (fun hHeld => ?_)
      clear hK K
      try simp only [Act.put, List.setIfInBounds_toArray, List.set_cons_zero, List.set_cons_succ]
      first | (refine held_t (i := 9) hHeld ?_; apply Exists.intro; refine ⟨fun wq hq => ?_, ?_⟩; (focus ((try dsimp only at hq); go_simp; (first | done | with_reducible rfl | fail)))) | refine held_s (i := 9) hHeld ?_ | fail
      first | (refine held_t (i := 10) hHeld ?_; apply Exists.intro; refine ⟨fun wq hq => ?_, ?_⟩; (focus ((try dsimp only at hq); go_simp; (first | done | with_reducible rfl | fail)))) | refine held_s (i := 10) hHeld ?_ | fail
      try simp only [Act.put, List.setIfInBounds_toArray, List.set_cons_zero, List.set_cons_succ]
      refine wpAnyH_done (by kernel_rfl) ?_ _
      go_wp2
      refine bodyPost_ret (v := .tuple #[.agg #[.int .i64 2, .int .i64 0, .string ⟨q.1.text.toArray⟩, .slice a11 1 c11], .int .i64 pl, .bool false]) (by rw [results_cell3 rfl]; go_simp) rfl ?_
      exact tdone_none (HT9.out.trans (Turn.below HB11.out)) (HO9.out.later HB11.out.size) HMd.out HSB.out HDB.out HV11.out HN.out
    | some p =>
      obtain ⟨⟨tq, lq⟩, s1⟩ := p
      obtain rfl : ok = true := by rw [HOK.out, hX1]; rfl
      obtain ⟨rfl, rfl, hs8⟩ := HSM.out _ _ hX1
      have HN := Lib.hid (show X = some ((.mk 2 0 (ba q.1.text) [t8], pl), s1) from HXX.out.symm.trans (ahead_some HSR.out hX1))
      have hs9 := hs8.put4 HDB.out HMB8.out (.int .i64 k8) (.int .i64 n8) (.string s8) (.slice a8 m8 c8)
      rw [hw9] at hs9
      have HS9 := Lib.hid hs9
      clear hX1 hs8 hs9
      go_wp2_with fail
      (try rw [hw9])
      clear hw9
      refine wp_region_held_drew (S := fun w' => w'.cell? ⟨w.heap.size, 1, none⟩ = some (.string ⟨q.1.text.toArray⟩) ∧ w'.cell? ⟨w3.heap.size, 2, none⟩ = some (.int .i64 pl)) (by kernel_rfl) ⟨c1, b2⟩ (fun hHeld => ?_)
      first | (refine held_t (i := 0) hHeld ?_; apply Exists.intro; refine ⟨fun wq hq => ?_, ?_⟩; (focus ((try dsimp only at hq); go_simp; (first | done | with_reducible rfl | fail)))) | refine held_s (i := 0) hHeld ?_ | fail
      first | (refine held_t (i := 1) hHeld ?_; apply Exists.intro; refine ⟨fun wq hq => ?_, ?_⟩; (focus ((try dsimp only at hq); go_simp; (first | done | with_reducible rfl | fail)))) | refine held_s (i := 1) hHeld ?_ | fail
      first | (refine held_t (i := 5) hHeld ?_; apply Exists.intro; refine ⟨fun wq hq => ?_, ?_⟩; (focus ((try dsimp only at hq); go_simp; (first | done | with_reducible rfl | fail)))) | refine held_s (i := 5) hHeld ?_ | fail
      first | (refine held_t (i := 6) hHeld ?_; apply Exists.intro; refine ⟨fun wq hq => ?_, ?_⟩; (focus ((try dsimp only at hq); go_simp; (first | done | with_reducible rfl | fail)))) | refine held_s (i := 6) hHeld ?_ | fail
      first | (refine held_t (i := 7) hHeld ?_; apply Exists.intro; refine ⟨fun wq hq => ?_, ?_⟩; (focus ((try dsimp only at hq); go_simp; (first | done | with_reducible rfl | fail)))) | refine held_s (i := 7) hHeld ?_ | fail
      try simp only [Act.put, List.setIfInBounds_toArray, List.set_cons_zero, List.set_cons_succ]
      refine held_c 2 fun K hK => ?_
      go_simp
      skip
      refine hK.out _ _ (hHeld) (fun hHeld => ?_)
      clear hK K
      try simp only [Act.put, List.setIfInBounds_toArray, List.set_cons_zero, List.set_cons_succ]
      refine held_c 3 fun K hK => ?_
      go_simp
      skip
      refine hK.out _ _ (⟨cell_later (bel1' _ _) hHeld.1, cell_later (bel1' _ _) hHeld.2⟩) (fun hHeld => ?_)
      clear hK K
      try simp only [Act.put, List.setIfInBounds_toArray, List.set_cons_zero, List.set_cons_succ]
      refine held_c 4 fun K hK => ?_
      go_simp
      (go_at_call 26; refine HCM.out.mono ?_; rintro e w11 ⟨a11, c11, rfl, hv11, hb11⟩; obtain ⟨r0, r1, r2, r3, rf⟩ := ((HX9.out.ext (Below.refl _ _).drew).ext (Ext.trans' (bel1' _ _) hb11)).four; have HV11 := Lib.hid hv11; have HB11 := Lib.hid (Ext.trans' (Below.refl w9.heap.size w9).drew (Ext.trans' (bel1' w9.drew _) hb11)))
      refine hK.out _ _ (⟨cell_later hb11 hHeld.1, cell_later hb11 hHeld.2⟩) (fun hHeld => ?_)
      clear hK K
      try simp only [Act.put, List.setIfInBounds_toArray, List.set_cons_zero, List.set_cons_succ]
      refine held_c 8 fun K hK => ?_
      go_simp
      skip
      refine hK.out _ _ (⟨far4 hHeld.1 hne1 _ _ _ _, far4 hHeld.2 hAB _ _ _ _⟩) (fun hHeld => ?_)
      clear hK K
      try simp only [Act.put, List.setIfInBounds_toArray, List.set_cons_zero, List.set_cons_succ]
      first | (refine held_t (i := 9) hHeld ?_; apply Exists.intro; refine ⟨fun wq hq => ?_, ?_⟩; (focus ((try dsimp only at hq); go_simp; (first | done | with_reducible rfl | fail)))) | refine held_s (i := 9) hHeld ?_ | fail
      first | (refine held_t (i := 10) hHeld ?_; apply Exists.intro; refine ⟨fun wq hq => ?_, ?_⟩; (focus ((try dsimp only at hq); go_simp; (first | done | with_reducible rfl | fail)))) | refine held_s (i := 10) hHeld ?_ | fail
      try simp only [Act.put, List.setIfInBounds_toArray, List.set_cons_zero, List.set_cons_succ]
      refine wpAnyH_done (by kernel_rfl) ?_ _
      go_wp2
      refine bodyPost_ret (v := .tuple #[.agg #[.int .i64 2, .int .i64 0, .string ⟨q.1.text.toArray⟩, .slice a11 1 c11], .int .i64 pl, .bool true]) (by rw [results_cell3 rfl]; go_simp) rfl ?_
      exact tdone_some (HT9.out.trans (Turn.below HB11.out)) (HS9.out.later HB11.out) HMd.out HSB.out HDB.out HMB8.out HV11.out HN.out
end Go.Proofs.YtaojalicnnnkmaaGreatDoor
