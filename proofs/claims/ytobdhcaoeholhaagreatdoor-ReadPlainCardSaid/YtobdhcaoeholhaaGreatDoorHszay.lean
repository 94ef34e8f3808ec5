import Derived.Test.YtobdhcaoeholhaaGreatDoorHszax
import Derived.Test.YtobdhcaoeholhaaGreatDoorHszam
import Derived.Test.YtobdhcaoeholhaaGreatDoorHszaa
import Derived.Test.YtobdhcaoeholhaaGreatDoorHszan
import Derived.Test.YtobdhcaoeholhaaGreatDoorHszat
import Derived.Test.YtobdhcaoeholhaaGreatDoorHszaf
import Derived.Test.YtobdhcaoeholhaaGreatDoorHszaq
import Derived.Test.YtobdhcaoeholhaaGreatDoorHszap
set_option linter.unusedVariables false
set_option linter.unusedSimpArgs false
/- The document's reader: term. (gen_rp14.py) -/
namespace Go.Proofs.YtobdhcaoeholhaaGreatDoor
open Go.Shelf Go.RowKit
set_option linter.unusedVariables false

theorem oneO_good {xs : List O} (hg : goodB xs = true) {n : List UInt8} {s : Int} {o : O} (h : oneB xs n s = (o, true)) : 1 ≤ o.l ∧ o.l ≤ 1200 := by
  unfold oneB at h
  rcases place_cases xs n s with ⟨hm, _⟩ | ⟨k, x, hm, hx, ha, _⟩
  · rw [hm] at h; simp at h
  · split at h
    · cases h
    · injection h with h _
      rw [hm] at h
      have e : xs[((k : Nat) : Int).toNat]! = x := by
        rw [List.getElem!_eq_getElem?_getD, show ((k : Nat) : Int).toNat = k by omega, hx]; rfl
      rw [e] at h
      subst h
      exact good_level hg hx
theorem between_good {xs : List O} (hg : goodB xs = true) {q : TokP} {o : O} (h : betweenR (betO xs) q = (o, true)) : 1 ≤ o.l ∧ o.l ≤ 1200 := by
  unfold betweenR at h
  split at h
  · exact oneO_good hg h
  · cases h
/-- How much is left to read. -/
def dLeft (w : World) (rb N : Nat) : Nat := match w.cell? ⟨rb, 5, none⟩ with
  | some (.bool false) => (match w.cell? ⟨rb, 2, none⟩ with
    | some (.int _ a) => 1 + (N - a.toNat)
    | _ => 0)
  | _ => 0
theorem Sd.left {D M : Nat → Bool} {w : World} {rb : Nat} {xs : List O} {L : List TokP} {s : RS} (h : Sd D M w rb xs L (some s)) : dLeft w rb L.length = 1 + s.rest.length := by
  obtain ⟨_, _, _, a, _, _, c2, _, _, c5, _, _, _, _, _, hr, _⟩ := h.parts
  unfold dLeft
  rw [c5, hr, List.length_drop]
  simp only [c2, Int.toNat_natCast]
theorem Sd.left0 {D M : Nat → Bool} {w : World} {rb N : Nat} {xs : List O} {L : List TokP} (h : Sd D M w rb xs L none) : dLeft w rb N = 0 := by
  have c5 : w.cell? ⟨rb, 5, none⟩ = some (.bool true) := h.c5
  unfold dLeft
  rw [c5]
/-- Where the loop of term stands. -/
structure DLoop (D M : Nat → Bool) (w : World) (rb B BL : Nat) (xs : List O) (L : List TokP) (n : Nat) (most : Int) (X : Out TL) (wr : World) (D1 M1 : Nat → Bool) (o : Option RS) (t : Tm) (lv : Int) (v0 v1 v2 v3 : Value) : Prop where
  sd : Sd D1 M1 wr rb xs L o
  tm : TmV (hide D1 wr) t (.agg #[v0, v1, v2, v3])
  turn : Turn D M D1 M1 w wr
  box0 : Box wr B [.int .i64 0, .int .i64 0, .string ⟨#[]⟩, .slice none 0 0]
  boxl : Box wr BL [v0, v1, v2, v3]
  d0 : D1 B = true
  m0 : M1 B = false
  dl : D1 BL = true
  ml : M1 BL = false
  ok : ∀ s1, o = some s1 → LOOP (preO xs) (betO xs) most (t, lv) s1 = X ∧ s1.rest.length < n + 1
  no : o = none → X = none
set_option maxHeartbeats 8000000 in
set_option maxRecDepth 100000 in
theorem dterm_step {xs : List O} {L : List TokP} {n : Nat} (hL : WfL L) (hg : goodB xs = true) (ih : IHD xs L n) {D M : Nat → Bool} {w : World} {rb : Nat} {s : RS} (h : Sd D M w rb xs L (some s)) (hlt : s.rest.length < n + 1) {most : Int} (hmost : 0 ≤ most) :
    Calls Tryz.prog 78 #[.pointer (some ⟨rb, 0, none⟩), .int .i64 most] w (RPost D M w rb xs L (TERMX xs most s)) := by
  obtain ⟨X, hX⟩ : ∃ X, TERMX xs most s = X := ⟨_, rfl⟩
  rw [hX]
  have HXX := Lib.hid hX
  obtain ⟨w1, hw1, hb1, hz1, hx1⟩ := box_new w #[.int .i64 0, .int .i64 0, .string ⟨#[]⟩, .slice none 0 0] 66
  have h1 := h.box hb1 (Nat.le_refl _) hx1.lt
  have HMd := Lib.hid h.md
  have HMRB := Lib.hid h.mb
  have HMB := Lib.hid (h.out (Nat.le_refl _))
  have HT1 := Lib.hid (Turn.into (D := D) (M := M) hb1 (Nat.le_refl _))
  have HPR := Lib.hid (dprimary_at hL hg ih h1 hlt hmost)
  have HX1 := Lib.hid hx1
  have HLL := Lib.hid hL
  have HGG := Lib.hid hg
  have HIH := Lib.hid ih
  have HLT := Lib.hid hlt
  obtain ⟨NL, hNL⟩ : ∃ NL, L.length = NL := ⟨_, rfl⟩
  have HNL := Lib.hid hNL
  obtain ⟨P, hP⟩ : ∃ P, primR (preO xs) (betO xs) (TERMX xs) most s = P := ⟨_, rfl⟩
  rw [hP] at HPR
  have HPP := Lib.hid hP
  clear h hX hlt ih h1 hx1 hb1 hz1 hL hg hmost hNL hP
  go_enter Tryz.func78, Tryz.ntmps78
  go_wp2_with fail
  (try rw [hw1])
  clear hw1
  (go_wp2_with fail; go_fit (HPR.out); rintro e w2 ⟨D2, M2, t2, v2, lv2, rfl, htv, ht2, hs2, hx2⟩)
  obtain ⟨k2, n2, s2, a2, m2, c2, rfl⟩ := htv.full
  obtain ⟨w3, hw3, hb3, hz3, hx3⟩ := box_new w2 #[.int .i64 k2, .int .i64 n2, .string s2, .slice a2 m2 c2] 66
  obtain ⟨d0, d1, d2, d3, df⟩ := hx3.four
  obtain ⟨o, ho⟩ : ∃ o, P.map (·.2) = o := ⟨_, rfl⟩
  have HBL := Lib.hid (show w.heap.size < w2.heap.size from Nat.lt_of_lt_of_le HX1.out.lt ht2.size)
  have HDL : Hid (DLoop D M w rb w.heap.size w2.heap.size xs L n most X w3 (plusB D2 w2.heap.size) M2 o t2 lv2 (.int .i64 k2) (.int .i64 n2) (.string s2) (.slice a2 m2 c2)) := Lib.hid (by
    subst ho
    refine { sd := hs2.box hb3 (Nat.le_refl _) hx3.lt, tm := htv.box hb3 (Nat.le_refl _), turn := (HT1.out.trans ht2).into2 hb3 (Nat.le_refl _), box0 := (HX1.out.turn ht2 HMB.out).ext hb3, boxl := hx3, d0 := plusB_of ((ht2.dd _ HX1.out.lt).trans (plusB_self D _)), m0 := (ht2.mm _ HX1.out.lt).trans HMB.out, dl := plusB_self _ _, ml := hs2.out (Nat.le_refl _), ok := fun s1 hs => ?_, no := fun hs => ?_ }
    · cases hP : P with
      | none => rw [hP] at hs; cases hs
      | some p =>
        obtain ⟨p, s1'⟩ := p
        rw [hP] at hs
        obtain rfl : s1' = s1 := Option.some.inj hs
        obtain ⟨e1, e2⟩ := hx2 p s1' hP
        have hq := HPP.out.trans hP
        refine ⟨?_, ?_⟩
        · rw [← HXX.out, e1, e2]; exact (TERM_some hq).symm
        · have := prim_shr TERM_shr hq; have := HLT.out; omega
    · cases hP : P with
      | none => rw [← HXX.out]; exact TERM_none (HPP.out.trans hP)
      | some p => rw [hP] at hs; cases hs)
  clear htv ht2 hs2 hx2 hb3 hz3 hx3 HPR HXX HX1 HT1 HMB HPP HLT ho
  go_wp2_with fail
  (try rw [hw3])
  clear hw3 d0 d1 d2 d3 df
  go_loopw [7] (fun lv wr => ∃ (D1 M1 : Nat → Bool) (o : Option RS) (t1 : Tm) (l1 k1 n1 : Int) (s1 : ByteArray) (a1 : Option Addr) (m1 c1 : Nat), lv = .int .i64 l1 ∧ Hid (DLoop D M w rb w.heap.size w2.heap.size xs L n most X wr D1 M1 o t1 l1 (.int .i64 k1) (.int .i64 n1) (.string s1) (.slice a1 m1 c1)))
    (fun lv wr => dLeft wr rb NL)
  case atStart => exact ⟨_, M2, o, t2, lv2, k2, n2, s2, a2, m2, c2, rfl, HDL⟩
  case round =>
    obtain ⟨D1, M1, o, t1, l1, k1, n1, s1, a1, m1, c1, rfl, HL⟩ := hrel
    have c5 := HL.out.sd.c5
    obtain ⟨b0, b1, b2, b3, bf⟩ := HL.out.box0.four
    obtain ⟨r0, r1, r2, r3, rf⟩ := HL.out.boxl.four
    have HT := Lib.hid HL.out.turn
    have HV := Lib.hid HL.out.tm
    have HXB := Lib.hid HL.out.box0
    have HXL := Lib.hid HL.out.boxl
    have HDB := Lib.hid HL.out.d0
    have HMB := Lib.hid HL.out.m0
    have HDLL := Lib.hid HL.out.dl
    have HML := Lib.hid HL.out.ml
    clear HDL
    cases o with
    | none =>
      have HN := Lib.hid (HL.out.no rfl)
      have HS := Lib.hid HL.out.sd
      have hbad : (none : Option RS).isNone = true := rfl
      rw [hbad] at c5
      clear hbad HL
      have HFL := Lib.hid (dfail_at HS.out)
      (go_wp2_with fail; go_fit (HFL.out); rintro e wf ⟨rfl, hsf, htf⟩)
      have HSF := Lib.hid hsf
      have HTF := Lib.hid (HT.out.trans htf)
      have HXF := Lib.hid (HXB.out.turn htf HMB.out)
      obtain ⟨b0, b1, b2, b3, bf⟩ := HXF.out.four
      clear hsf htf
      go_wp2
      refine bodyPost_ret (v := .tuple #[zVal, .int .i64 0]) (by rw [results_cell2' rfl]; go_simp; (try rfl)) rfl ?_
      exact rfailed HN.out HTF.out HSF.out HMd.out (Nat.le_refl _) HDB.out HMB.out
    | some ss =>
      have HS := Lib.hid HL.out.sd
      obtain ⟨hX, hl⟩ := HL.out.ok ss rfl
      have HLX := Lib.hid hX
      have HL1 := Lib.hid hl
      have hbad : (some ss).isNone = false := rfl
      rw [hbad] at c5
      have hleft := HS.out.left
      rw [HNL.out] at hleft
      have HLF := Lib.hid hleft
      have HPK := Lib.hid (dpeek_at HLL.out HS.out)
      have HBt := Lib.hid (fun (wq : World) (hq : Below wr.heap.size wr wq) => dbetween_at HGG.out (HS.out.later hq) (headR ss))
      obtain ⟨⟨⟨zn, zk, zl⟩, zg⟩, hz⟩ : ∃ z, betweenR (betO xs) (headR ss) = z := ⟨_, rfl⟩
      rw [hz] at HBt
      have HZ := Lib.hid hz
      obtain ⟨⟨sl, sr⟩, hsd⟩ : ∃ r, sidesB (bl zk) zl = r := ⟨_, rfl⟩
      have hSD := fun wq => rsides_walk zn zk zl wq
      rw [hsd] at hSD
      have HSD := Lib.hid hSD
      have HSR := Lib.hid hsd
      have HTK0 := Lib.hid HS.out.gd.nice.head
      obtain ⟨x, hx⟩ : ∃ x, headR ss = x := ⟨_, rfl⟩
      rw [hx] at HPK HBt
      have HHX := Lib.hid hx
      clear hX hl hz hSD hsd hleft hx HL b0 b1 b2 b3 bf r0 r1 r2 r3 rf
      (go_wp2_with fail; go_fit (HPK.out); rintro e wp ⟨rfl, hbp⟩)
      (go_wp2_with fail; go_fit (HBt.out _ hbp); rintro e wq ⟨rfl, hbq⟩)
      have hb2 := Ext.trans' hbp hbq
      obtain ⟨w3, hw3, hb3, hz3, hx3⟩ := box_new wq #[.string zn, .string zk, .int .i64 zl] 114
      have HB3 := Lib.hid (Ext.trans' hb2 hb3)
      have HX3 := Lib.hid hx3
      have HB2S : wr.heap.size ≤ wq.heap.size := hb2.size
      obtain ⟨z0, z1, z2, zf⟩ := hx3.three
      clear hb2 hb3 hz3 hx3 HBt HPK hbp hbq
      go_wp2_with fail
      (try rw [hw3])
      clear hw3
      (go_wp2_with fail; go_fit (HSD.out _); rintro e w4 ⟨rfl, hb4⟩)
      have hb34 := Ext.trans' HB3.out hb4
      have HB4 := Lib.hid hb34
      have hs4 := HS.out.later hb34
      have HS4 := Lib.hid hs4
      have HT4 := Lib.hid (HT.out.trans (Turn.below hb34))
      have HX4 := Lib.hid (HX3.out.ext hb4)
      have HXB4 := Lib.hid (HXB.out.ext hb34)
      have HXL4 := Lib.hid (HXL.out.ext hb34)
      obtain ⟨z0, z1, z2, zf⟩ := HX4.out.three
      obtain ⟨b0, b1, b2, b3, bf⟩ := HXB4.out.four
      obtain ⟨r0, r1, r2, r3, rf⟩ := HXL4.out.four
      have c5 := hs4.c5
      rw [hbad] at c5
      clear hb34 hs4 hb4 HSD hbad
      cases zg with
      | false =>
        have HN := Lib.hid (show X = some ((t1, l1), ss) from HLX.out.symm.trans (LOOP_stop (Or.inl (by rw [HZ.out]))))
        go_wp2
        refine bodyPost_ret (v := .tuple #[.agg #[.int .i64 k1, .int .i64 n1, .string s1, .slice a1 m1 c1], .int .i64 l1]) (by rw [results_cell2' rfl]; go_simp) rfl ?_
        exact rgave HN.out HT4.out HS4.out HMd.out (Nat.le_refl _) HDB.out HMB.out (TmV.later HB4.out HV.out)
      | true =>
        by_cases h1 : most < zl
        · have h1d : decide (most < zl) = true := decide_eq_true h1
          have HN := Lib.hid (show X = some ((t1, l1), ss) from HLX.out.symm.trans (LOOP_stop (Or.inr (Or.inl (by rw [HZ.out]; exact h1)))))
          go_wp2
          refine bodyPost_ret (v := .tuple #[.agg #[.int .i64 k1, .int .i64 n1, .string s1, .slice a1 m1 c1], .int .i64 l1]) (by rw [results_cell2' rfl]; go_simp) rfl ?_
          exact rgave HN.out HT4.out HS4.out HMd.out (Nat.le_refl _) HDB.out HMB.out (TmV.later HB4.out HV.out)
        have h1d : decide (most < zl) = false := decide_eq_false h1
        by_cases h2 : sl < l1
        · have h2d : decide (sl < l1) = true := decide_eq_true h2
          have HN := Lib.hid (show X = some ((t1, l1), ss) from HLX.out.symm.trans (LOOP_stop (Or.inr (Or.inr (by rw [HZ.out, HSR.out]; exact h2)))))
          go_wp2
          refine bodyPost_ret (v := .tuple #[.agg #[.int .i64 k1, .int .i64 n1, .string s1, .slice a1 m1 c1], .int .i64 l1]) (by rw [results_cell2' rfl]; go_simp) rfl ?_
          exact rgave HN.out HT4.out HS4.out HMd.out (Nat.le_refl _) HDB.out HMB.out (TmV.later HB4.out HV.out)
        have h2d : decide (sl < l1) = false := decide_eq_false h2
        have HNS := Lib.hid (show ¬ stopR (betO xs) most (t1, l1) ss by
          unfold stopR
          rw [HZ.out, HSR.out]
          rintro (h | h | h)
          · cases h
          · exact h1 h
          · exact h2 h)
        have hlev := between_good HGG.out (o := ⟨zn, zk, zl⟩) HZ.out
        have hnn := sides_nn (k := bl zk) hlev
        rw [HSR.out] at hnn
        have HNN := Lib.hid hnn
        clear h1 h2 hlev hnn
        obtain ⟨_, _, _, a, _, _, c2, _, _, _, fz, _, _, _, _, hr, hal⟩ := HS4.out.parts
        have hne : ss.rest ≠ [] := between_ne (bet := betO xs) (s := ss) (by rw [HZ.out])
        have ha2 : a < L.length := by
          rcases Nat.lt_or_ge a L.length with hh | hh
          · exact hh
          · exact absurd (by rw [hr]; exact List.drop_eq_nil_of_le hh) hne
        have hLl := HLL.out.1
        have hwa : IntKind.i64.wrap ((a : Int) + 1) = (a : Int) + 1 := by rw [IntKind.wrap_i64]; omega
        have hmZ : M1 wq.heap.size = false := okd_out HS.out.okd HB2S
        have hrB : rb ≠ w.heap.size := fun e => by have := HS.out.mb; rw [e, HMB.out] at this; cases this
        have hrL : rb ≠ w2.heap.size := fun e => by have := HS.out.mb; rw [e, HML.out] at this; cases this
        have hrZ : rb ≠ wq.heap.size := fun e => by have := HS.out.mb; rw [e, hmZ] at this; cases this
        have HS5 := Lib.hid (HS4.out.pass c2 (by omega))
        have HT5 := Lib.hid (HT4.out.set ⟨rb, 2, none⟩ (.int .i64 ((a : Int) + 1)) (Or.inr HMRB.out))
        have HXB5 := Lib.hid (HXB4.out.far (c := rb) (k := 2) (u := .int .i64 ((a : Int) + 1)) (Ne.symm hrB))
        have HXL5 := Lib.hid (HXL4.out.far (c := rb) (k := 2) (u := .int .i64 ((a : Int) + 1)) (Ne.symm hrL))
        have HXZ5 := Lib.hid (HX4.out.far (c := rb) (k := 2) (u := .int .i64 ((a : Int) + 1)) (Ne.symm hrZ))
        have HV5 := Lib.hid (TmV.stay (Stays.set ⟨rb, 2, none⟩ (.int .i64 ((a : Int) + 1)) (HS.out.md rb HS.out.mb)) _ _ (TmV.later HB4.out HV.out))
        have HTM := Lib.hid (HIH.out D1 M1 _ rb _ sr HNN.out HS5.out (by have := dropS_lt hne; have := HL1.out; omega))
        have HMZ := Lib.hid hmZ
        have hwL : w2.heap.size < wr.heap.size := HXL.out.lt
        clear hne ha2 hal hr hmZ HX3
        (go_wp2_with fail; go_fit (HTM.out); rintro e w7 ⟨D7, M7, t7, v7, lv7, rfl, htv, ht7, hs7, hx7⟩)
        obtain ⟨k7, n7, s7, a7, m7, c7, rfl⟩ := htv.full
        obtain ⟨w8, hw8, hb8, hz8, hx8⟩ := box_new w7 #[.int .i64 k7, .int .i64 n7, .string s7, .slice a7 m7 c7] 66
        have hBlt := HXB5.out.lt
        have hLlt := HXL5.out.lt
        have HXB8 := Lib.hid ((HXB5.out.turn ht7 HMB.out).ext hb8)
        have HXL8 := Lib.hid ((HXL5.out.turn ht7 HML.out).ext hb8)
        have HXZ8 := Lib.hid ((HXZ5.out.turn ht7 HMZ.out).ext hb8)
        have HXY8 := Lib.hid hx8
        have HDB8 := Lib.hid (plusB_of (b := w7.heap.size) ((ht7.dd _ hBlt).trans HDB.out))
        have HDL8 := Lib.hid (plusB_of (b := w7.heap.size) ((ht7.dd _ hLlt).trans HDLL.out))
        have HMB8 := Lib.hid ((ht7.mm _ hBlt).trans HMB.out)
        have HML8 := Lib.hid ((ht7.mm _ hLlt).trans HML.out)
        have HS8 := Lib.hid (hs7.box hb8 (Nat.le_refl _) hx8.lt)
        have HT8 := Lib.hid ((HT5.out.trans ht7).into2 hb8 (Nat.le_refl _))
        have HV8 := Lib.hid ((TmV.stay (ht7.stays HS5.out.md) _ _ HV5.out).box hb8 (Nat.le_refl _))
        have HW8 := Lib.hid (htv.box hb8 (Nat.le_refl _))
        have HX7 := Lib.hid hx7
        have hYL : w7.heap.size ≠ w2.heap.size := by have := (HXL5.out.turn ht7 HML.out).lt; omega
        have hZL : wq.heap.size ≠ w2.heap.size := by omega
        have hBL : w.heap.size ≠ w2.heap.size := by have := HBL.out; omega
        have hwBL : w.heap.size ≤ w2.heap.size := by have := HBL.out; omega
        obtain ⟨D8, hD8⟩ : ∃ D8, plusB D7 w7.heap.size = D8 := ⟨_, rfl⟩
        rw [hD8] at HDB8 HDL8 HS8 HT8 HV8 HW8
        obtain ⟨p0, p1, p2, p3, pf⟩ := HXL8.out.four
        obtain ⟨z0, _, z2, _⟩ := HXZ8.out.three
        obtain ⟨x0, x1, x2, x3, _⟩ := HXY8.out.four
        clear htv ht7 hs7 hx7 hb8 hz8 hx8 hBlt hLlt hD8 c2 fz c5 b0 b1 b2 b3 bf r0 r1 r2 r3 rf HTM
        have hzs : zn.size ≤ BIG := by
          have h := between_name (o := ⟨zn, zk, zl⟩) HZ.out
          have h2 := congrArg List.length h
          rw [bl_len] at h2
          have h3 := HTK0.out.2.1
          unfold BIG
          simp only at h2
          omega
        have hCV := tms_two (w := w8.drew) HS8.out.old (TmV.later (Below.refl _ _).drew HV8.out) (TmV.later (Below.refl _ _).drew HW8.out) 66
        have HCV : Hid (TmV (hide D8 (w8.drew.alloc (.cells #[.int .i64 k1, .int .i64 n1, .string s1, .slice a1 m1 c1, .int .i64 k7, .int .i64 n7, .string s7, .slice a7 m7 c7] 66))) (.mk 2 0 zn [t1, t7]) (.agg #[.int .i64 2, .int .i64 0, .string zn, .slice (some ⟨w8.drew.heap.size, 0, none⟩) 2 2])) := Lib.hid (tmV_iff.2 ⟨_, rfl, hzs, i64_2, i64_0, hCV⟩)
        have HTN : Hid (∀ (w11 : World) (a11 : Option Addr) (c11 : Nat), Below w8.heap.size w8 w11 → TmV (hide D8 w11) (.mk 2 0 zn [t1, t7]) (.agg #[.int .i64 2, .int .i64 0, .string zn, .slice a11 2 c11]) → DLoop D M w rb w.heap.size w2.heap.size xs L n most X (set4 w11 w2.heap.size (.int .i64 2) (.int .i64 0) (.string zn) (.slice a11 2 c11)) D8 M7 ((TERMX xs sr (dropR ss)).map (·.2)) (.mk 2 0 zn [t1, t7]) zl (.int .i64 2) (.int .i64 0) (.string zn) (.slice a11 2 c11)) := Lib.hid (fun w11 a11 c11 hb hv => by
          have hnz := HNS.out
          refine { sd := (HS8.out.later hb).put4 HDL8.out HML8.out _ _ _ _, tm := hv.put4 HDL8.out _ _ _ _, turn := (HT8.out.trans (Turn.below hb)).set4 (Or.inl hwBL) _ _ _ _, box0 := (HXB8.out.ext hb).far4 hBL _ _ _ _, boxl := (HXL8.out.ext hb).all4 _ _ _ _, d0 := HDB8.out, m0 := HMB8.out, dl := HDL8.out, ml := HML8.out, ok := fun s2 hs => ?_, no := fun hs => ?_ }
          · cases hX1 : TERMX xs sr (dropR ss) with
            | none => rw [hX1] at hs; cases hs
            | some p =>
              obtain ⟨p, s2'⟩ := p
              rw [hX1] at hs
              obtain rfl : s2' = s2 := Option.some.inj hs
              obtain ⟨e1, e2⟩ := HX7.out _ _ hX1
              have hss := LOOP_some (pre := preO xs) hnz (by rw [HZ.out]; simp only [HSR.out]; exact hX1)
              rw [HZ.out] at hss
              refine ⟨?_, by have := hss.2; have := HL1.out; omega⟩
              rw [← HLX.out, hss.1, e1]
          · cases hX1 : TERMX xs sr (dropR ss) with
            | none => rw [← HLX.out]; exact LOOP_none hnz (by rw [HZ.out]; simp only [HSR.out]; exact hX1)
            | some p => rw [hX1] at hs; cases hs)
        have HTN2 : Hid (∀ (w11 : World) (a11 : Option Addr) (c11 : Nat), Below w8.heap.size w8 w11 → dLeft (set4 w11 w2.heap.size (.int .i64 2) (.int .i64 0) (.string zn) (.slice a11 2 c11)) rb NL < dLeft wr rb NL) := Lib.hid (fun w11 a11 c11 hb => by
          have hs9 := (HS8.out.later hb).put4 HDL8.out HML8.out (.int .i64 2) (.int .i64 0) (.string zn) (.slice a11 2 c11)
          rw [HLF.out]
          cases hX1 : TERMX xs sr (dropR ss) with
          | none =>
            rw [hX1] at hs9
            rw [Sd.left0 hs9]
            omega
          | some p =>
            obtain ⟨p, s2⟩ := p
            rw [hX1] at hs9
            have he := Sd.left (s := s2) hs9
            rw [HNL.out] at he
            rw [he]
            have := TERM_shr _ _ _ _ hX1
            have := dropS_le ss
            omega)
        clear hCV hzs
        go_wp2_with fail
        (try rw [hw8])
        clear hw8
        refine wp_region_held_drew (S := fun w' => w'.cell? ⟨wq.heap.size, 0, none⟩ = some (.string zn) ∧ w'.cell? ⟨wq.heap.size, 2, none⟩ = some (.int .i64 zl) ∧ w'.cell? ⟨w7.heap.size, 0, none⟩ = some (.int .i64 k7) ∧ w'.cell? ⟨w7.heap.size, 1, none⟩ = some (.int .i64 n7) ∧ w'.cell? ⟨w7.heap.size, 2, none⟩ = some (.string s7) ∧ w'.cell? ⟨w7.heap.size, 3, none⟩ = some (.slice a7 m7 c7)) (by kernel_rfl) ⟨z0, z2, x0, x1, x2, x3⟩ (fun hHeld => ?_)
        first | (refine held_t (i := 0) hHeld ?_; apply Exists.intro; refine ⟨fun wq hq => ?_, ?_⟩; (focus ((try dsimp only at hq); go_simp; (first | done | with_reducible rfl | fail)))) | refine held_s (i := 0) hHeld ?_ | fail
        first | (refine held_t (i := 1) hHeld ?_; apply Exists.intro; refine ⟨fun wq hq => ?_, ?_⟩; (focus ((try dsimp only at hq); go_simp; (first | done | with_reducible rfl | fail)))) | refine held_s (i := 1) hHeld ?_ | fail
        first | (refine held_t (i := 3) hHeld ?_; apply Exists.intro; refine ⟨fun wq hq => ?_, ?_⟩; (focus ((try dsimp only at hq); go_simp; (first | done | with_reducible rfl | fail)))) | refine held_s (i := 3) hHeld ?_ | fail
        first | (refine held_t (i := 6) hHeld ?_; apply Exists.intro; refine ⟨fun wq hq => ?_, ?_⟩; (focus ((try dsimp only at hq); go_simp; (first | done | with_reducible rfl | fail)))) | refine held_s (i := 6) hHeld ?_ | fail
        first | (refine held_t (i := 7) hHeld ?_; apply Exists.intro; refine ⟨fun wq hq => ?_, ?_⟩; (focus ((try dsimp only at hq); go_simp; (first | done | with_reducible rfl | fail)))) | refine held_s (i := 7) hHeld ?_ | fail
        try simp only [Act.put, List.setIfInBounds_toArray, List.set_cons_zero, List.set_cons_succ]
        refine held_c 2 fun K hK => ?_
        go_simp
        skip
        refine hK.out _ _ (hHeld) (fun hHeld => ?_)
        clear hK K
        try simp only [Act.put, List.setIfInBounds_toArray, List.set_cons_zero, List.set_cons_succ]
        refine held_c 4 fun K hK => ?_
        go_simp
        skip
        refine hK.out _ _ (⟨cell_later (bel1' _ _) hHeld.1, cell_later (bel1' _ _) hHeld.2.1, cell_later (bel1' _ _) hHeld.2.2.1, cell_later (bel1' _ _) hHeld.2.2.2.1, cell_later (bel1' _ _) hHeld.2.2.2.2.1, cell_later (bel1' _ _) hHeld.2.2.2.2.2⟩) (fun hHeld => ?_)
        clear hK K
        try simp only [Act.put, List.setIfInBounds_toArray, List.set_cons_zero, List.set_cons_succ]
        refine held_c 5 fun K hK => ?_
        go_simp
        (go_at_call 118; refine (rcomp_at _ _ _ _ _).mono ?_; rintro e w11 ⟨rfl, hb11⟩; obtain ⟨r0, r1, r2, r3, rf⟩ := ((HXL8.out.ext (Below.refl _ _).drew).ext (Ext.trans' (bel1' _ _) hb11)).four; have HV11 := Lib.hid (HCV.out.later hb11); have HB11 := Lib.hid (Ext.trans' (Below.refl w8.heap.size w8).drew (Ext.trans' (bel1' w8.drew _) hb11)))
        refine hK.out _ _ (⟨cell_later hb11 hHeld.1, cell_later hb11 hHeld.2.1, cell_later hb11 hHeld.2.2.1, cell_later hb11 hHeld.2.2.2.1, cell_later hb11 hHeld.2.2.2.2.1, cell_later hb11 hHeld.2.2.2.2.2⟩) (fun hHeld => ?_)
        clear hK K
        try simp only [Act.put, List.setIfInBounds_toArray, List.set_cons_zero, List.set_cons_succ]
        refine held_c 8 fun K hK => ?_
        go_simp
        skip
        refine hK.out _ _ (⟨far4 hHeld.1 hZL _ _ _ _, far4 hHeld.2.1 hZL _ _ _ _, far4 hHeld.2.2.1 hYL _ _ _ _, far4 hHeld.2.2.2.1 hYL _ _ _ _, far4 hHeld.2.2.2.2.1 hYL _ _ _ _, far4 hHeld.2.2.2.2.2 hYL _ _ _ _⟩) (fun hHeld => ?_)
        clear hK K
        try simp only [Act.put, List.setIfInBounds_toArray, List.set_cons_zero, List.set_cons_succ]
        first | (refine held_t (i := 9) hHeld ?_; apply Exists.intro; refine ⟨fun wq hq => ?_, ?_⟩; (focus ((try dsimp only at hq); go_simp; (first | done | with_reducible rfl | fail)))) | refine held_s (i := 9) hHeld ?_ | fail
        try simp only [Act.put, List.setIfInBounds_toArray, List.set_cons_zero, List.set_cons_succ]
        refine wpAnyH_done (by kernel_rfl) ?_ _
        have HF := Lib.hid (HTN.out w11 _ _ HB11.out HV11.out)
        have HG := Lib.hid (HTN2.out w11 (some ⟨w8.drew.heap.size, 0, none⟩) 2 HB11.out)
        clear HTN HTN2 HCV hHeld
        go_wp2
        go_roundw
        case rel => exact ⟨D8, M7, _, _, zl, 2, 0, zn, _, 2, _, rfl, HF⟩
        case measure => exact HG.out
theorem dterm_all {xs : List O} {L : List TokP} (hL : WfL L) (hg : goodB xs = true) : ∀ n, IHD xs L n
  | 0 => fun D M w rb s most hm h hlt => by omega
  | n + 1 => fun D M w rb s most hm h hlt => dterm_step hL hg (dterm_all hL hg n) h hlt hm
theorem dterm_at {xs : List O} {L : List TokP} (hL : WfL L) (hg : goodB xs = true) {D M : Nat → Bool} {w : World} {rb : Nat} {s : RS} (h : Sd D M w rb xs L (some s)) {most : Int} (hm : 0 ≤ most) :
    Calls Tryz.prog 78 #[.pointer (some ⟨rb, 0, none⟩), .int .i64 most] w (RPost D M w rb xs L (TERMX xs most s)) := dterm_all hL hg _ D M w rb s most hm h (Nat.lt_succ_self _)
end Go.Proofs.YtobdhcaoeholhaaGreatDoor
/- Reading: what stands behind an end, and where the tokens stand, changes nothing. Pure. -/
namespace Go.Proofs.YtobdhcaoeholhaaGreatDoor
set_option linter.unusedVariables false

/-- A name that is Open has a mark behind it. -/
def WfT : List TokP → Prop
  | [] => True
  | q :: r => (q.1.opens = true → ∃ x r', r = x :: r' ∧ x.1.kind = 5) ∧ WfT r
section
variable (e1 e2 : TokP) (X1 X2 : List TokP) (d : Nat)
end
section
variable {e1 e2 : TokP} {X1 X2 : List TokP} {d : Nat}
end
end Go.Proofs.YtobdhcaoeholhaaGreatDoor
/- Reading: texts one behind the other: from letters. Pure. -/
namespace Go.Proofs.YtobdhcaoeholhaaGreatDoor
set_option linter.unusedVariables false

theorem next_opens (c : UInt8) (r : List UInt8) (t : TokB) (h : nextC c r = .tok t) : t.opens = openB ((c :: r).drop t.len) := by
  have base : ∀ (kind : Nat) (text : List UInt8) (n k : Nat), tokB kind text n k (c :: r) = .tok t → t.opens = openB ((c :: r).drop t.len) := fun kind text n k he => by
    unfold tokB at he
    cases he
    rfl
  have name : ∀ (k : Nat), nameB k (c :: r) = .tok t → t.opens = openB ((c :: r).drop t.len) := fun k he => by
    unfold nameB at he
    split at he
    · exact base _ _ _ _ he
    · cases he
  unfold nextC at h
  by_cases h1 : blankB c = true
  · rw [if_pos h1] at h; cases h
  rw [if_neg h1] at h
  by_cases h2 : (c == 37) = true
  · rw [if_pos h2] at h; cases h
  rw [if_neg h2] at h
  by_cases h3 : smallB c = true
  · rw [if_pos h3] at h; exact name _ h
  rw [if_neg h3] at h
  by_cases h4 : greatB c = true
  · rw [if_pos h4] at h; exact base _ _ _ _ h
  rw [if_neg h4] at h
  by_cases h5 : digitB c = true
  · rw [if_pos h5] at h
    split at h
    · exact base _ _ _ _ h
    · cases h
  rw [if_neg h5] at h
  by_cases h6 : (c == 39) = true
  · rw [if_pos h6] at h
    cases hq : quoB r with
    | none => rw [hq] at h; cases h
    | some p =>
      rw [hq] at h
      simp only at h
      split at h
      · exact base _ _ _ _ h
      · cases h
  rw [if_neg h6] at h
  by_cases h7 : (c == 46 && endB r) = true
  · rw [if_pos h7] at h; exact base _ _ _ _ h
  rw [if_neg h7] at h
  by_cases h8 : symB c = true
  · rw [if_pos h8] at h; exact name _ h
  rw [if_neg h8] at h
  by_cases h9 : (c == 59 || c == 33) = true
  · rw [if_pos h9] at h; exact name _ h
  rw [if_neg h9] at h
  by_cases h10 : ((c == 91 && r.head? == some 93) || (c == 123 && r.head? == some 125)) = true
  · rw [if_pos h10] at h; exact name _ h
  rw [if_neg h10] at h
  by_cases h11 : [40, 41, 91, 93, 123, 125, 44, 124].contains c = true
  · rw [if_pos h11] at h; exact base _ _ _ _ h
  rw [if_neg h11] at h
  cases h
theorem next_paren (r : List UInt8) : nextC 40 r = tokB 5 [40] 0 1 (40 :: r) := by
  unfold nextC
  rw [if_neg (by decide), if_neg (by decide), if_neg (by decide), if_neg (by decide), if_neg (by decide), if_neg (by decide), if_neg (by simp), if_neg (by decide), if_neg (by decide), if_neg (by simp), if_pos (by decide)]
theorem lex_wf : ∀ (n p : Nat) (s : List UInt8) (x : List (TokB × Nat)), lexL n p s = some x → WfT x
  | n, p, [], x, h => by rw [lex_nil] at h; cases h; trivial
  | 0, p, c :: r, x, h => by cases h
  | n + 1, p, c :: r, x, h => by
    rw [lexL] at h
    cases hn : nextC c r with
    | skip k => rw [hn] at h; exact lex_wf n _ _ x h
    | bad o => rw [hn] at h; cases h
    | tok u =>
      rw [hn] at h
      obtain ⟨l, hl, he⟩ := Option.map_eq_some_iff.1 h
      cases he
      refine ⟨fun ho => ?_, lex_wf n _ _ l hl⟩
      have hop := next_opens c r u hn
      simp only at ho
      rw [ho] at hop
      cases hd : (c :: r).drop u.len with
      | nil => rw [hd] at hop; cases hop
      | cons y z =>
        rw [hd] at hop hl
        unfold openB at hop
        simp only at hop
        have hy : y = 40 := by
          have := hop.symm
          simpa using this
        subst hy
        cases n with
        | zero => cases hl
        | succ n =>
          rw [lexL, next_paren] at hl
          unfold tokB at hl
          obtain ⟨l', _, he'⟩ := Option.map_eq_some_iff.1 hl
          exact ⟨_, l', he'.symm, rfl⟩
end Go.Proofs.YtobdhcaoeholhaaGreatDoor
/- The document's Read. -/
namespace Go.Proofs.YtobdhcaoeholhaaGreatDoor
open Go.Shelf Go.RowKit
set_option linter.unusedVariables false

theorem next_six (c : UInt8) (r : List UInt8) (t : TokB) (h : nextC c r = .tok t) : t.kind ≤ 6 := by
  have base : ∀ (kind : Nat) (text : List UInt8) (n k : Nat), kind ≤ 6 → tokB kind text n k (c :: r) = .tok t → t.kind ≤ 6 := fun kind text n k hk he => by
    unfold tokB at he
    cases he
    exact hk
  have name : ∀ (k : Nat), nameB k (c :: r) = .tok t → t.kind ≤ 6 := fun k he => by
    unfold nameB at he
    split at he
    · exact base _ _ _ _ (by decide) he
    · cases he
  unfold nextC at h
  by_cases h1 : blankB c = true
  · rw [if_pos h1] at h; cases h
  rw [if_neg h1] at h
  by_cases h2 : (c == 37) = true
  · rw [if_pos h2] at h; cases h
  rw [if_neg h2] at h
  by_cases h3 : smallB c = true
  · rw [if_pos h3] at h; exact name _ h
  rw [if_neg h3] at h
  by_cases h4 : greatB c = true
  · rw [if_pos h4] at h; exact base _ _ _ _ (by decide) h
  rw [if_neg h4] at h
  by_cases h5 : digitB c = true
  · rw [if_pos h5] at h
    split at h
    · exact base _ _ _ _ (by decide) h
    · cases h
  rw [if_neg h5] at h
  by_cases h6 : (c == 39) = true
  · rw [if_pos h6] at h
    cases hq : quoB r with
    | none => rw [hq] at h; cases h
    | some p =>
      rw [hq] at h
      simp only at h
      split at h
      · exact base _ _ _ _ (by decide) h
      · cases h
  rw [if_neg h6] at h
  by_cases h7 : (c == 46 && endB r) = true
  · rw [if_pos h7] at h; exact base _ _ _ _ (by decide) h
  rw [if_neg h7] at h
  by_cases h8 : symB c = true
  · rw [if_pos h8] at h; exact name _ h
  rw [if_neg h8] at h
  by_cases h9 : (c == 59 || c == 33) = true
  · rw [if_pos h9] at h; exact name _ h
  rw [if_neg h9] at h
  by_cases h10 : ((c == 91 && r.head? == some 93) || (c == 123 && r.head? == some 125)) = true
  · rw [if_pos h10] at h; exact name _ h
  rw [if_neg h10] at h
  by_cases h11 : [40, 41, 91, 93, 123, 125, 44, 124].contains c = true
  · rw [if_pos h11] at h; exact base _ _ _ _ (by decide) h
  rw [if_neg h11] at h
  cases h
theorem lex_kind : ∀ (n p : Nat) (s : List UInt8) (x : List (TokB × Nat)), lexL n p s = some x → ∀ q ∈ x, q.1.kind ≤ 6
  | n, p, [], x, h => by rw [lex_nil] at h; cases h; intro q hq; cases hq
  | 0, p, c :: r, x, h => by cases h
  | n + 1, p, c :: r, x, h => by
    rw [lexL] at h
    cases hn : nextC c r with
    | skip k => rw [hn] at h; exact lex_kind n _ _ x h
    | bad o => rw [hn] at h; cases h
    | tok u =>
      rw [hn] at h
      obtain ⟨l, hl, he⟩ := Option.map_eq_some_iff.1 h
      cases he
      intro q hq
      rcases List.mem_cons.1 hq with rfl | hq
      · exact next_six c r u hn
      · exact lex_kind n _ _ l hl q hq
theorem wft_get : ∀ {L : List TokP}, WfT L → ∀ (i : Nat) (q : TokP), L[i]? = some q → q.1.opens = true → ∃ r, L[i + 1]? = some r ∧ r.1.kind = 5
  | [], _, i, q, hx, _ => by simp at hx
  | y :: r, h, 0, q, hx, ho => by
    obtain rfl : y = q := by simpa using hx
    obtain ⟨x, r', e, hk⟩ := h.1 ho
    exact ⟨x, by rw [e]; rfl, hk⟩
  | y :: r, h, i + 1, q, hx, ho => by
    obtain ⟨z, hz, hk⟩ := wft_get h.2 i q (by simpa using hx) ho
    exact ⟨z, by simpa using hz, hk⟩
theorem cut_wf {s : List UInt8} {l : List TokP} (h : cutB s = .ok l) : WfL l :=
  ⟨by have := (cut_toks h).1; omega, wft_get (lex_wf _ _ _ _ (cutB_ok.1 h).2.1), fun q hq => lex_kind _ _ _ _ (cutB_ok.1 h).2.1 q hq⟩
/-- A reader of its own, from token a on. -/
theorem Sd.start {E : Nat → Bool} {w w4 : World} {xs : List O} {L : List TokP} {vo vl : Value} {a : Nat} (hE : Old E w) (ho : Ops (hide E w) vo xs) (hl : Toks (hide E w) vl L) (hL : L.length ≤ 1024 ∧ ∀ q ∈ L, tokOk q) (ha : a ≤ L.length) (hb : Below w.heap.size w w4)
    (hx : Box w4 w.heap.size [vo, vl, .int .i64 (a : Int), .slice none 0 0, .int .i64 0, .bool false]) : Sd (plusB E w.heap.size) (fun k => k == w.heap.size) w4 w.heap.size xs L (some ⟨L.drop a, 0, []⟩) := by
  have hst : Stays (hide E w) (hide (plusB E w.heap.size) w4) := Stays.below hb fun k hk hd => (plusB_ne (by omega)).trans hd
  have hlt := hx.lt
  refine { mb := by simp, md := fun k hk => ?_, old := fun k hk => (plusB_ne (by omega)).trans (hE k (Nat.le_trans hb.size hk)), co := ⟨vo, hx.cells 0 _ rfl, Elems.stay ho hst⟩, c5 := hx.cells 5 _ rfl, fz := hx.fz, good := fun s hs => ?_ }
  · obtain rfl : k = w.heap.size := by simpa using hk
    exact plusB_self _ _
  · cases hs
    exact { cl := ⟨vl, hx.cells 1 _ rfl, Elems.stay hl hst⟩
            c2 := ⟨a, hx.cells 2 _ rfl, rfl, by omega⟩
            c3 := ⟨_, hx.cells 3 _ rfl, World.ownsRow_nil _ _ _ _, fun k hk => by cases hk⟩
            c4 := hx.cells 4 _ rfl
            nice := ⟨by show 0 + (L.drop a).length ≤ 2000; rw [List.length_drop]; omega, Nat.le_refl _, fun q hq => hL.2 q (List.mem_of_mem_drop hq), fun p hp => by cases hp⟩
            nou := fun p hp => by cases hp }
/-- The tokens lie behind what is hidden. -/
theorem toks_hide {E : Nat → Bool} {w : World} {B : Nat} {v : Value} {l : List TokP} (h : RowT1 w B v l) (hE : ∀ k, B ≤ k → E k = false) : Toks (hide E w) v l := by
  have h2 : RowT1 (hide E w) B v l := row_at h (fun g hg => by
    have h1 := row_in h hg
    rw [hide_get _ _ _ (hE g h1.1)])
  exact Elems.owned tCells_len h2
theorem whole_no {xs : List O} {l : List TokP} (h : TERMX xs 1200 (anewR l) = none) : wholeR (preO xs) (betO xs) l = none := by unfold wholeR; unfold TERMX at h; rw [h]
theorem whole_open {xs : List O} {l : List TokP} {p : TL} {s : RS} (h : TERMX xs 1200 (anewR l) = some (p, s)) (hk : (headR s).1.kind ≠ 6) : wholeR (preO xs) (betO xs) l = none := by unfold wholeR; unfold TERMX at h; rw [h]; simp only; rw [if_neg hk]
theorem whole_yes {xs : List O} {l : List TokP} {p : TL} {s : RS} (h : TERMX xs 1200 (anewR l) = some (p, s)) (hk : (headR s).1.kind = 6) : wholeR (preO xs) (betO xs) l = some (p.1, dropR s) := by unfold wholeR; unfold TERMX at h; rw [h]; simp only; rw [if_pos hk]
set_option maxRecDepth 100000 in
set_option maxHeartbeats 8000000 in
theorem dread_at {xs : List O} {w : World} {v : Value} (h : Ops w v xs) (s : ByteArray) (hs : s.size ≤ 140737488351232) :
    Calls Tryz.prog 48 #[v, .string s] w (TermX w (readB oneR xs (bl s))) := by
  obtain ⟨X, hX⟩ : ∃ X, readB oneR xs (bl s) = X := ⟨_, rfl⟩
  rw [hX]
  obtain ⟨ao, co, hvo, hl1, hl2⟩ := h.form
  obtain ⟨w1, hw1, hb1, hz1, hx1⟩ := box_new w #[.int .i64 0, .int .i64 0, .string ⟨#[]⟩, .slice none 0 0] 66
  have HG := goodOps_walk (h.ext hb1)
  obtain ⟨mo, hmo⟩ : ∃ m, xs.length = m := ⟨_, rfl⟩
  rw [hmo] at hvo
  subst hvo
  have HO := Lib.hid h
  have HX1 := Lib.hid hx1
  have HB1 := Lib.hid hb1
  have HXX := Lib.hid hX
  have HC := Lib.hid (fun wq => rcut_any s wq hs)
  have h1lt := hx1.lt
  clear h hb1 hz1 hx1 hl1 hl2 hmo hX hs
  cases hg : goodB xs with
  | false =>
    rw [hg] at HG
    have HG := Lib.hid HG
    have HN := Lib.hid (show X = .bad 1 by rw [← HXX.out]; unfold readB; rw [hg]; rfl)
    clear hg
    go_enter Tryz.func48, Tryz.ntmps48
    go_wp2_with fail
    (try rw [hw1])
    clear hw1
    (go_wp2_with fail; go_fit (HG.out); rintro e w2 ⟨rfl, hb2⟩)
    have HB2 := Lib.hid (Ext.trans' HB1.out hb2)
    obtain ⟨r0, r1, r2, r3, rf⟩ := (HX1.out.ext hb2).four
    clear hb2
    go_wp2
    refine bodyPost_ret (v := .tuple #[.agg #[.int .i64 0, .int .i64 0, .string ⟨#[]⟩, .slice none 0 0], .slice none 0 0, .int .i64 1]) (by rw [results_cell3 rfl]; go_simp) rfl ?_
    rw [HN.out]
    exact ⟨rfl, Below.set4 HB2.out (Nat.le_refl _) _ _ _ _⟩
  | true =>
  rw [hg] at HG
  have HG := Lib.hid HG
  cases hc : cutB (bl s) with
  | bad p o =>
    have HC2 : Hid (∀ w2, Calls Tryz.prog 77 #[.string s] w2 fun e w' => e = .returned (.tuple #[.slice none 0 0, .int .i64 (p : Int), .int .i64 (if o then 3 else 2)]) ∧ Below w2.heap.size w2 w') := Lib.hid (fun w2 => (HC.out w2).mono fun e w' h => by rw [hc] at h; exact h)
    have HN := Lib.hid (show X = .bad (if o then 3 else 2) by rw [← HXX.out]; unfold readB; rw [hg, hc]; rfl)
    clear hg hc HC
    go_enter Tryz.func48, Tryz.ntmps48
    go_wp2_with fail
    (try rw [hw1])
    clear hw1
    (go_wp2_with fail; go_fit (HG.out); rintro e w2 ⟨rfl, hb2⟩)
    have HB2 := Lib.hid (Ext.trans' HB1.out hb2)
    have HX2 := Lib.hid (HX1.out.ext hb2)
    clear hb2
    cases o
    all_goals
      (go_wp2_with fail; go_fit (HC2.out _); rintro e w3 ⟨rfl, hb3⟩)
      have HB3 := Lib.hid (Ext.trans' HB2.out hb3)
      obtain ⟨r0, r1, r2, r3, rf⟩ := (HX2.out.ext hb3).four
      clear hb3
      go_wp2
    · refine bodyPost_ret (v := .tuple #[.agg #[.int .i64 0, .int .i64 0, .string ⟨#[]⟩, .slice none 0 0], .slice none 0 0, .int .i64 2]) (by rw [results_cell3 rfl]; go_simp) rfl ?_
      rw [HN.out]
      exact ⟨rfl, Below.set4 HB3.out (Nat.le_refl _) _ _ _ _⟩
    · refine bodyPost_ret (v := .tuple #[.agg #[.int .i64 0, .int .i64 0, .string ⟨#[]⟩, .slice none 0 0], .slice none 0 0, .int .i64 3]) (by rw [results_cell3 rfl]; go_simp) rfl ?_
      rw [HN.out]
      exact ⟨rfl, Below.set4 HB3.out (Nat.le_refl _) _ _ _ _⟩
  | ok l =>
    obtain ⟨ml, hml⟩ : ∃ m, l.length = m := ⟨_, rfl⟩
    have HC2 : Hid (∀ w2, Calls Tryz.prog 77 #[.string s] w2 fun e w' => ∃ (al : Option Addr) (cl : Nat), e = .returned (.tuple #[.slice al ml cl, .int .i64 (s.size : Int), .int .i64 0]) ∧ RowT1 w' w2.heap.size (.slice al ml cl) l ∧ Below w2.heap.size w2 w') := Lib.hid (fun w2 => (HC.out w2).mono fun e w' h => by
      rw [hc] at h
      obtain ⟨⟨al, cl, h1, h2⟩, h3⟩ := h
      rw [hml] at h1 h2
      exact ⟨al, cl, h1, h2, h3⟩)
    have HGC := Lib.hid (And.intro hg hc)
    have HML := Lib.hid hml
    have HWF := Lib.hid (cut_wf hc)
    have HTO := Lib.hid (cut_toks hc)
    clear hg hc HC hml
    go_enter Tryz.func48, Tryz.ntmps48
    go_wp2_with fail
    (try rw [hw1])
    clear hw1
    (go_wp2_with fail; go_fit (HG.out); rintro e w2 ⟨rfl, hb2⟩)
    have HB2 := Lib.hid (Ext.trans' HB1.out hb2)
    have HX2 := Lib.hid (HX1.out.ext hb2)
    have h2lt := HX2.out.lt
    clear hb2
    (go_wp2_with fail; go_fit (HC2.out _); rintro e w3 ⟨al, cl, rfl, htk, hb3⟩)
    obtain ⟨w4, hw4, hb4, hz4, hx4⟩ := box_new w3 #[.slice ao mo co, .slice al ml cl, .int .i64 0, .slice none 0 0, .int .i64 0, .bool false] 135
    have HB3 := Lib.hid (Ext.trans' HB2.out hb3)
    have h3lt : w.heap.size < w3.heap.size := Nat.lt_of_lt_of_le h2lt hb3.size
    have hS4 := Sd.start (E := fun k => k == w.heap.size) (a := 0) (fun k hk => by simp; omega) (Elems.stay HO.out (hide_one (Nat.le_refl _) HB3.out)) (toks_hide htk (fun k hk => by simp; omega)) HTO.out (Nat.zero_le _) hb4 hx4
    have hS4 : Sd (plusB (fun k => k == w.heap.size) w3.heap.size) (fun k => k == w3.heap.size) w4 w3.heap.size xs l (some (anewR l)) := hS4
    have HTM := Lib.hid (dterm_at HWF.out HGC.out.1 hS4 (most := 1200) (by decide))
    have HB4 := Lib.hid (Ext.trans' HB3.out hb4)
    have HX4 := Lib.hid ((HX2.out.ext hb3).ext hb4)
    have HMd := Lib.hid hS4.md
    have hrbB : w3.heap.size ≠ w.heap.size := by omega
    have HM0 := Lib.hid (show ∀ k, k < w3.heap.size → (fun k => k == w3.heap.size) k = false from fun k hk => by simp; omega)
    clear htk hb3 hb4 hz4 hx4 hS4 HC2
    go_wp2_with fail
    (try rw [hw4])
    clear hw4
    obtain ⟨rb, hrb⟩ : ∃ rb, w3.heap.size = rb := ⟨_, rfl⟩
    simp only [hrb] at HTM HM0 HMd hrbB h3lt ⊢
    obtain ⟨M, hM⟩ : ∃ M : Nat → Bool, (fun k => k == rb) = M := ⟨_, rfl⟩
    obtain ⟨D, hD⟩ : ∃ D : Nat → Bool, plusB (fun k => k == w.heap.size) rb = D := ⟨_, rfl⟩
    simp only [hM, hD] at HTM HM0 HMd
    have HMBB : Hid (M w.heap.size = false) := Lib.hid (by rw [← hM]; simp; omega)
    have HDBB : Hid (D w.heap.size = true) := Lib.hid (by rw [← hD]; exact plusB_of (by simp))
    have HM1 : Hid (∀ k, k < rb → M k = false) := Lib.hid (fun k hk => by rw [← hM]; simp; omega)
    have HRB := Lib.hid hrb
    clear hM hD hrb HM0
    (go_wp2_with fail; go_fit (HTM.out); rintro e w5 ⟨D5, M5, t5, v5, lv5, rfl, htv, ht5, hs5, hx5⟩)
    obtain ⟨k5, n5, s5, a5, m5, c5', rfl⟩ := htv.full
    obtain ⟨w6, hw6, hb6, hz6, hx6⟩ := box_new w5 #[.int .i64 k5, .int .i64 n5, .string s5, .slice a5 m5 c5'] 66
    have HB5 := Lib.hid (Below.trans HB4.out (ht5.bel HB4.out.size (fun k hk => HM1.out k (by omega))))
    have HB6 := Lib.hid (Ext.trans' HB5.out hb6)
    have HB56 := Lib.hid hb6
    have HX6 := Lib.hid ((HX4.out.turn ht5 HMBB.out).ext hb6)
    have HDB := Lib.hid ((ht5.dd _ HX4.out.lt).trans HDBB.out)
    have HV5 := Lib.hid htv
    have HXN := Lib.hid hx6
    have HS6 := Lib.hid (hs5.later hb6)
    have HX5 := Lib.hid hx5
    have hneB : w5.heap.size ≠ w.heap.size := by have := HX4.out.lt; have := ht5.size; omega
    obtain ⟨x0, x1, x2, x3, xf⟩ := hx6.four
    obtain ⟨r0, r1, r2, r3, rf⟩ := HX6.out.four
    have c5 := HS6.out.c5
    clear htv ht5 hs5 hx5 hb6 hz6 hx6 HTM
    cases hM : TERMX xs 1200 (anewR l) with
    | none =>
      rw [hM] at c5
      have hbad : ((none : Out TL).map (·.2)).isNone = true := rfl
      rw [hbad] at c5
      have HN := Lib.hid (show X = .bad 2 from HXX.out.symm.trans (one_bad HGC.out.1 HGC.out.2 (whole_no hM)))
      clear hM hbad
      go_wp2_with fail
      (try rw [hw6])
      clear hw6
      go_wp2
      refine bodyPost_ret (v := .tuple #[.agg #[.int .i64 0, .int .i64 0, .string ⟨#[]⟩, .slice none 0 0], .slice none 0 0, .int .i64 2]) (by rw [results_cell3 rfl]; go_simp) rfl ?_
      rw [HN.out]
      exact ⟨rfl, Below.set4 (HB6.out) (Nat.le_refl _) _ _ _ _⟩
    | some q =>
      obtain ⟨p, s1⟩ := q
      rw [hM] at c5 HS6
      have hbad : ((some (p, s1) : Out TL).map (·.2)).isNone = false := rfl
      rw [hbad] at c5
      have HS6 : Hid (Sd D5 M5 w6 rb xs l (some s1)) := HS6
      obtain ⟨rfl, _⟩ := HX5.out p s1 hM
      have HPK := Lib.hid (dpeek_at HWF.out HS6.out)
      obtain ⟨x, hx⟩ : ∃ x, headR s1 = x := ⟨_, rfl⟩
      rw [hx] at HPK
      unfold tkVal at HPK
      have hfd : ∀ wq : World, (Instr.field 138 (.agg #[.int .i64 (x.1.kind : Int), .string ⟨x.1.text.toArray⟩, .int .i64 (x.1.n : Int), .bool x.1.opens, .int .i64 (x.2 : Int)]) 0).run Tryz.prog wq = .ok (.int .i64 (x.1.kind : Int)) wq := fun _ => by kernel_rfl
      have HHX := Lib.hid hx
      have HMM := Lib.hid hM
      clear hM hbad hx
      by_cases hk : x.1.kind = 6
      · have k6 : ((x.1.kind : Int) != 6) = false := by rw [hk]; rfl
        have HW := Lib.hid (whole_yes HMM.out (by rw [HHX.out]; exact hk))
        obtain ⟨_, _, vn, a, _, _, c2, p3, _, _, pf, _, _, pn, pm, hr, hal⟩ := HS6.out.parts
        have hne : s1.rest ≠ [] := head_ne (by rw [HHX.out]; omega)
        have ha2 : a < ml := by
          rw [← HML.out]
          rcases Nat.lt_or_ge a l.length with hh | hh
          · exact hh
          · exact absurd (by rw [hr]; exact List.drop_eq_nil_of_le hh) hne
        have hml : ml ≤ 1024 := by rw [← HML.out]; exact HTO.out.1
        have hwm : IntKind.i64.wrap ((ml : Int) - 1) = (ml : Int) - 1 := by rw [IntKind.wrap_i64]; omega
        have HPN := Lib.hid pn
        have HRD := Lib.hid (show (dropR s1).rest = l.drop (a + 1) by show s1.rest.tail = _; rw [hr, drop_tail])
        have hM4B : ∀ k, vn.ownBlock = some k → k ≠ w.heap.size := fun k hk e => by
          have h1 := (row_in pn hk).1
          omega
        have HMB := Lib.hid hM4B
        clear hne hk pn pm hr hal hM4B
        by_cases hn : a + 1 = ml
        · have hat : ((a : Int) != (ml : Int) - 1) = false := by
            have e : (a : Int) = (ml : Int) - 1 := by omega
            rw [e]; simp
          have HR := Lib.hid (show (dropR s1).rest = [] by rw [HRD.out]; exact List.drop_eq_nil_of_le (by rw [HML.out]; omega))
          cases hgt : goodT p.1 with
          | false =>
            have HN := Lib.hid (show X = .bad 3 from HXX.out.symm.trans (one_over HGC.out.1 HGC.out.2 HW.out HR.out hgt))
            have HGD := Lib.hid (fun wq (hq : Below w6.heap.size w6 wq) => rgood_at p.1 wq _ (TmV.ext (Ext.trans' HB56.out hq) _ _ HV5.out.bare))
            rw [hgt] at HGD
            clear hgt hn
            go_wp2_with fail
            (try rw [hw6])
            clear hw6
            (go_wp2_with fail; go_fit (HPK.out); rintro e w7 ⟨rfl, hb7⟩)
            have HB7 := Lib.hid hb7
            have c2 := cell_later hb7 c2
            obtain ⟨x0, x1, x2, x3, xf⟩ := (HXN.out.ext hb7).four
            have pf : ∀ j, w7.frozen? ⟨rb, j, none⟩ = false := (HS6.out.later hb7).fz
            clear hb7
            (go_wp2_with fail; go_fit (HGD.out _ HB7.out); rintro e w8 ⟨rfl, hb8⟩)
            obtain ⟨r0, r1, r2, r3, rf⟩ := (HX6.out.ext (Ext.trans' HB7.out hb8)).four
            have HB8 := Lib.hid (Ext.trans' HB7.out hb8)
            clear hb8
            go_wp2
            refine bodyPost_ret (v := .tuple #[.agg #[.int .i64 0, .int .i64 0, .string ⟨#[]⟩, .slice none 0 0], .slice none 0 0, .int .i64 3]) (by rw [results_cell3 rfl]; go_simp) rfl ?_
            rw [HN.out]
            exact ⟨rfl, Below.set4 (Ext.trans' HB6.out HB8.out) (Nat.le_refl _) _ _ _ _⟩
          | true =>
            have HN := Lib.hid (show X = .ok (p.1, (dropR s1).names) from HXX.out.symm.trans (one_ok HGC.out.1 HGC.out.2 HW.out HR.out hgt))
            have HGD := Lib.hid (fun wq (hq : Below w6.heap.size w6 wq) => rgood_at p.1 wq _ (TmV.ext (Ext.trans' HB56.out hq) _ _ HV5.out.bare))
            rw [hgt] at HGD
            clear hgt hn
            go_wp2_with fail
            (try rw [hw6])
            clear hw6
            (go_wp2_with fail; go_fit (HPK.out); rintro e w7 ⟨rfl, hb7⟩)
            have HB7 := Lib.hid hb7
            have c2 := cell_later hb7 c2
            obtain ⟨x0, x1, x2, x3, xf⟩ := (HXN.out.ext hb7).four
            have pf : ∀ j, w7.frozen? ⟨rb, j, none⟩ = false := (HS6.out.later hb7).fz
            clear hb7
            (go_wp2_with fail; go_fit (HGD.out _ HB7.out); rintro e w8 ⟨rfl, hb8⟩)
            have HB8 := Lib.hid (Ext.trans' HB7.out hb8)
            obtain ⟨r0, r1, r2, r3, rf⟩ := (HX6.out.ext HB8.out).four
            obtain ⟨x0, x1, x2, x3, xf⟩ := (HXN.out.ext HB8.out).four
            have p3 := cell_later HB8.out p3
            clear hb8 c2 c5 pf
            go_wp2_with fail
            refine wp_region_held_drew (S := fun w' => w'.cell? ⟨w5.heap.size, 0, none⟩ = some (.int .i64 k5) ∧ w'.cell? ⟨w5.heap.size, 1, none⟩ = some (.int .i64 n5) ∧ w'.cell? ⟨w5.heap.size, 2, none⟩ = some (.string s5) ∧ w'.cell? ⟨w5.heap.size, 3, none⟩ = some (.slice a5 m5 c5') ∧ w'.cell? ⟨rb, 3, none⟩ = some vn) (by kernel_rfl) ⟨x0, x1, x2, x3, p3⟩ (fun hHeld => ?_)
            first | (refine held_t (i := 0) hHeld ?_; apply Exists.intro; refine ⟨fun wq hq => ?_, ?_⟩; (focus ((try dsimp only at hq); go_simp; (first | done | with_reducible rfl | fail)))) | refine held_s (i := 0) hHeld ?_ | fail
            first | (refine held_t (i := 1) hHeld ?_; apply Exists.intro; refine ⟨fun wq hq => ?_, ?_⟩; (focus ((try dsimp only at hq); go_simp; (first | done | with_reducible rfl | fail)))) | refine held_s (i := 1) hHeld ?_ | fail
            first | (refine held_t (i := 2) hHeld ?_; apply Exists.intro; refine ⟨fun wq hq => ?_, ?_⟩; (focus ((try dsimp only at hq); go_simp; (first | done | with_reducible rfl | fail)))) | refine held_s (i := 2) hHeld ?_ | fail
            first | (refine held_t (i := 3) hHeld ?_; apply Exists.intro; refine ⟨fun wq hq => ?_, ?_⟩; (focus ((try dsimp only at hq); go_simp; (first | done | with_reducible rfl | fail)))) | refine held_s (i := 3) hHeld ?_ | fail
            first | (refine held_t (i := 4) hHeld ?_; apply Exists.intro; refine ⟨fun wq hq => ?_, ?_⟩; (focus ((try dsimp only at hq); go_simp; (first | done | with_reducible rfl | fail)))) | refine held_s (i := 4) hHeld ?_ | fail
            try simp only [Act.put, List.setIfInBounds_toArray, List.set_cons_zero, List.set_cons_succ]
            refine held_c 5 fun K hK => ?_
            go_simp
            skip
            refine hK.out _ _ (⟨far4 hHeld.1 hneB _ _ _ _, far4 hHeld.2.1 hneB _ _ _ _, far4 hHeld.2.2.1 hneB _ _ _ _, far4 hHeld.2.2.2.1 hneB _ _ _ _, far4 hHeld.2.2.2.2 hrbB _ _ _ _⟩) (fun hHeld => ?_)
            clear hK K
            try simp only [Act.put, List.setIfInBounds_toArray, List.set_cons_zero, List.set_cons_succ]
            first | (refine held_t (i := 6) hHeld ?_; apply Exists.intro; refine ⟨fun wq hq => ?_, ?_⟩; (focus ((try dsimp only at hq); go_simp; (first | done | with_reducible rfl | fail)))) | refine held_s (i := 6) hHeld ?_ | fail
            first | (refine held_t (i := 7) hHeld ?_; apply Exists.intro; refine ⟨fun wq hq => ?_, ?_⟩; (focus ((try dsimp only at hq); go_simp; (first | done | with_reducible rfl | fail)))) | refine held_s (i := 7) hHeld ?_ | fail
            try simp only [Act.put, List.setIfInBounds_toArray, List.set_cons_zero, List.set_cons_succ]
            refine wpAnyH_done (by kernel_rfl) ?_ _
            go_wp2
            refine bodyPost_ret (v := .tuple #[.agg #[.int .i64 k5, .int .i64 n5, .string s5, .slice a5 m5 c5'], vn, .int .i64 0]) (by rw [results_cell3 rfl]; go_simp) rfl ?_
            rw [HN.out]
            have hBf : Below w5.heap.size w5 w8.drew := (Ext.trans' HB56.out HB8.out).drew
            have hv6 := ((TmV.later hBf HV5.out).put4 HDB.out (.int .i64 k5) (.int .i64 n5) (.string s5) (.slice a5 m5 c5')).bare
            have hBB : Below w.heap.size w (set4 w8.drew w.heap.size (.int .i64 k5) (.int .i64 n5) (.string s5) (.slice a5 m5 c5')) := Below.set4 (Ext.trans' HB5.out hBf) (Nat.le_refl _) _ _ _ _
            have hrow : (set4 w8.drew w.heap.size (.int .i64 k5) (.int .i64 n5) (.string s5) (.slice a5 m5 c5')).ownsRow (rb + 1) 90 2 vn s1.names.length (s1.names.flatMap nmCells) := row_at HPN.out (fun g hg => by
              have h1 := HMB.out g hg
              have h2 := (row_in HPN.out hg).2
              rw [Below.heap_setCell _ _ _ g (fun e => h1 e), Below.heap_setCell _ _ _ g (fun e => h1 e), Below.heap_setCell _ _ _ g (fun e => h1 e), Below.heap_setCell _ _ _ g (fun e => h1 e)]
              exact HB8.out.drew.block g h2)
            exact ⟨⟨_, _, rfl, hv6, Elems.owned nmCells_len hrow⟩, hBB⟩
        · have hat : ((a : Int) != (ml : Int) - 1) = true := by simp; omega
          have HR := Lib.hid (show (dropR s1).rest ≠ [] by
            rw [HRD.out]
            intro e
            have := congrArg List.length e
            rw [List.length_drop, HML.out] at this
            simp at this
            omega)
          have HN := Lib.hid (show X = .bad 2 from HXX.out.symm.trans (one_more HGC.out.1 HGC.out.2 HW.out HR.out))
          clear hn
          go_wp2_with fail
          (try rw [hw6])
          clear hw6
          (go_wp2_with fail; go_fit (HPK.out); rintro e w7 ⟨rfl, hb7⟩)
          have c2 := cell_later hb7 c2
          obtain ⟨r0, r1, r2, r3, rf⟩ := (HX6.out.ext hb7).four
          have HB7 := Lib.hid hb7
          clear hb7
          go_wp2
          refine bodyPost_ret (v := .tuple #[.agg #[.int .i64 0, .int .i64 0, .string ⟨#[]⟩, .slice none 0 0], .slice none 0 0, .int .i64 2]) (by rw [results_cell3 rfl]; go_simp) rfl ?_
          rw [HN.out]
          exact ⟨rfl, Below.set4 (Ext.trans' HB6.out HB7.out) (Nat.le_refl _) _ _ _ _⟩
      · have k6 : ((x.1.kind : Int) != 6) = true := by simp; omega
        have HN := Lib.hid (show X = .bad 2 from HXX.out.symm.trans (one_bad HGC.out.1 HGC.out.2 (whole_open HMM.out (by rw [HHX.out]; exact hk))))
        clear hk
        go_wp2_with fail
        (try rw [hw6])
        clear hw6
        (go_wp2_with fail; go_fit (HPK.out); rintro e w7 ⟨rfl, hb7⟩)
        obtain ⟨r0, r1, r2, r3, rf⟩ := (HX6.out.ext hb7).four
        have HB7 := Lib.hid hb7
        clear hb7
        go_wp2
        refine bodyPost_ret (v := .tuple #[.agg #[.int .i64 0, .int .i64 0, .string ⟨#[]⟩, .slice none 0 0], .slice none 0 0, .int .i64 2]) (by rw [results_cell3 rfl]; go_simp) rfl ?_
        rw [HN.out]
        exact ⟨rfl, Below.set4 (Ext.trans' HB6.out HB7.out) (Nat.le_refl _) _ _ _ _⟩
end Go.Proofs.YtobdhcaoeholhaaGreatDoor
