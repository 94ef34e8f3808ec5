import Derived.Test.YtobdhcaoeholhaaGreatDoorHszav
import Derived.Test.YtobdhcaoeholhaaGreatDoorHszat
import Derived.Deep.Cut
import Derived.Deep.CutRange
import Derived.Deep.DeepCutAuto
import Derived.Deep.Upon
set_option linter.unusedVariables false
set_option linter.unusedSimpArgs false
/- The document's reader: bracket: lists; all of it. (gen_rp10.py) -/
namespace Go.Proofs.YtobdhcaoeholhaaGreatDoor
open Go.Shelf Go.RowKit
set_option linter.unusedVariables false

theorem tail_no {xs : List O} {s1 : RS} (h : takesR [124] s1 = none) : tailR (TERMX xs) s1 = some (aT [91, 93], s1) := by unfold tailR; rw [h]
theorem tail_fail {xs : List O} {s1 s2 : RS} (h : takesR [124] s1 = some s2) (h2 : TERMX xs 999 s2 = none) : tailR (TERMX xs) s1 = none := by unfold tailR; rw [h]; simp only [h2]
theorem tail_yes {xs : List O} {s1 s2 s3 : RS} {p : TL} (h : takesR [124] s1 = some s2) (h2 : TERMX xs 999 s2 = some (p, s3)) : tailR (TERMX xs) s1 = some (p.1, s3) := by unfold tailR; rw [h]; simp only [h2]
set_option maxHeartbeats 8000000 in
theorem dlist_at {xs : List O} {L : List TokP} {n : Nat} (hL : WfL L) (ih : IHD xs L n) {D M : Nat → Bool} {w : World} {rb : Nat} {s : RS} (h : Sd D M w rb xs L (some s)) (hlt : s.rest.length < n) :
    Calls Tryz.prog 160 #[.pointer (some ⟨rb, 0, none⟩), .string ⟨#[91]⟩] w (RPost D M w rb xs L (zeroR (bracketR (TERMX xs) [91] s))) := by
  obtain ⟨X, hX⟩ : ∃ X, zeroR (bracketR (TERMX xs) [91] s) = X := ⟨_, rfl⟩
  rw [hX]
  have HXX := Lib.hid hX
  obtain ⟨w1, hw1, hb1, hz1, hx1⟩ := box_new w #[.int .i64 0, .int .i64 0, .string ⟨#[]⟩, .slice none 0 0] 66
  have h1 := h.box hb1 (Nat.le_refl _) hx1.lt
  have HMd := Lib.hid h.md
  have HMB := Lib.hid (h.out (Nat.le_refl _))
  have HT1 := Lib.hid (Turn.into (D := D) (M := M) hb1 (Nat.le_refl _))
  have HX1 := Lib.hid hx1
  have HLL := Lib.hid hL
  have HI := Lib.hid (dargs_at hL ih h1 hlt)
  have HIH := Lib.hid ih
  have HLT := Lib.hid hlt
  have HBR := Lib.hid (show bracketR (TERMX xs) [91] s = rowR (TERMX xs) s from rfl)
  clear h hX hlt ih h1 hx1 hb1 hz1 hL
  go_enter Tryz.func160, Tryz.ntmps160
  go_wp2_with fail
  (try rw [hw1])
  clear hw1
  (go_wp2_with fail; go_fit (HI.out); rintro e w2 ⟨D2, M2, l, v, rfl, hl2, ht2, hs2, hx2⟩)
  obtain ⟨a2, c2, rfl, _⟩ := hl2.len
  obtain ⟨m2, hm2⟩ : ∃ m, l.length = m := ⟨_, rfl⟩
  rw [hm2] at hl2
  have HL2 := Lib.hid hl2
  have HS2 := Lib.hid hs2
  have HT2 := Lib.hid (HT1.out.trans ht2)
  have HX2 := Lib.hid (HX1.out.turn ht2 HMB.out)
  have HDB := Lib.hid ((ht2.dd _ HX1.out.lt).trans (plusB_self D _))
  have HMB4 := Lib.hid ((ht2.mm _ HX1.out.lt).trans HMB.out)
  have HSM := Lib.hid hx2
  simp only [hm2]
  clear hl2 hs2 ht2 hx2 hm2 HI
  (go_wp2_with fail; go_fit (ratom_at _ _); rintro e w3 ⟨rfl, hb3⟩)
  obtain ⟨w4, hw4, hb4, hz4, hx4⟩ := box_new w3 #[.int .i64 2, .int .i64 0, .string ⟨#[91, 93]⟩, .slice none 0 0] 66
  have hb24 := Ext.trans' hb3 hb4
  have hT2 : w2.heap.size ≤ w3.heap.size := hb3.size
  have hBT : w.heap.size < w3.heap.size := by have h1 := HX2.out.lt; omega
  have hneB : w.heap.size ≠ w3.heap.size := by omega
  have hneT : w3.heap.size ≠ w.heap.size := by omega
  have HS4 := Lib.hid (HS2.out.box hb24 hT2 hx4.lt)
  have HL4 := Lib.hid (HL2.out.box hb24 hT2)
  have HT4 := Lib.hid (HT2.out.into2 hb24 hT2)
  have HXB4 := Lib.hid (HX2.out.ext hb24)
  have HXT4 := Lib.hid hx4
  have HDB4 := Lib.hid (plusB_of (b := w3.heap.size) HDB.out)
  have HDT4 := Lib.hid (plusB_self D2 w3.heap.size)
  have HMT4 := Lib.hid (HS2.out.out hT2)
  have HV4 : Hid (TmV (hide (plusB D2 w3.heap.size) w4) (aT [91, 93]) (.agg #[.int .i64 2, .int .i64 0, .string ⟨#[91, 93]⟩, .slice none 0 0])) := Lib.hid (leaf_tm _ i64_2 i64_0 (by decide))
  have c5 := HS4.out.c5
  have hwT : w.heap.size ≤ w3.heap.size := by omega
  have HW4 := Lib.hid hw4
  clear hw4
  clear hb3 hb4 hb24 hz4 hx4 HL2 HS2 HT2 HX2 HDB
  obtain ⟨D4, hD4⟩ : ∃ D4, plusB D2 w3.heap.size = D4 := ⟨_, rfl⟩
  rw [hD4] at HS4 HL4 HT4 HDB4 HDT4 HV4
  clear hD4
  cases hI : ITEMS (preO xs) (betO xs) s with
  | none =>
    rw [hI] at c5 HS4
    have hN : X = none := by rw [← HXX.out, HBR.out, tail_none hI]; rfl
    have HN := Lib.hid hN
    have hbad : ((none : Out (List Tm)).map (·.2)).isNone = true := rfl
    rw [hbad] at c5
    have HS4 : Hid (Sd D4 M2 w4 rb xs L none) := HS4
    clear hN hI hbad
    have c5' := c5
    rw [← HW4.out] at c5'
    go_wp2_with fail
    (try rw [HW4.out])
    clear HW4 c5'
    have HFL := Lib.hid (dfail_at HS4.out)
    (go_wp2_with fail; go_fit (HFL.out); rintro e wf ⟨rfl, hsf, htf⟩)
    have HSF := Lib.hid hsf
    have HTF := Lib.hid (HT4.out.trans htf)
    have HXF := Lib.hid (HXB4.out.turn htf HMB4.out)
    obtain ⟨b0, b1, b2, b3, bf⟩ := HXF.out.four
    clear hsf htf
    go_wp2
    refine bodyPost_ret (v := .tuple #[zVal, .int .i64 0]) (by rw [results_cell2' rfl]; go_simp; (try rfl)) rfl ?_
    exact rfailed HN.out HTF.out HSF.out HMd.out (Nat.le_refl _) HDB4.out HMB4.out
  | some q =>
    obtain ⟨l', s1⟩ := q
    rw [hI] at c5 HS4
    obtain rfl := HSM.out l' s1 hI
    have hbad : ((some (l, s1) : Out (List Tm)).map (·.2)).isNone = false := rfl
    rw [hbad] at c5
    have HS4 : Hid (Sd D4 M2 w4 rb xs L (some s1)) := HS4
    have HTK := Lib.hid (dpunct_at HLL.out HS4.out [124])
    have hsh := items_shr TERM_shr _ _ _ _ hI
    have HSH := Lib.hid hsh
    have HII := Lib.hid hI
    clear hbad hI hsh
    cases hmk : isMark [124] (headR s1) with
    | false =>
      rw [hmk] at HTK
      have hno := takesR_no hmk
      rw [hno.2] at HTK
      have HTL := Lib.hid (tail_no (xs := xs) hno.1)
      clear hno hmk
      have c5' := c5
      rw [← HW4.out] at c5'
      go_wp2_with fail
      (try rw [HW4.out])
      clear HW4 c5'
      (go_wp2_with fail; go_fit (HTK.out); rintro e w5 ⟨rfl, hs5, ht5⟩)
      have HS5 := Lib.hid hs5
      have HT5 := Lib.hid (HT4.out.trans ht5)
      have HXB5 := Lib.hid (HXB4.out.turn ht5 HMB4.out)
      have HXT5 := Lib.hid (HXT4.out.turn ht5 HMT4.out)
      have HL5 := Lib.hid (HL4.out.stay (ht5.stays HS4.out.md))
      have HV5 := Lib.hid (TmV.stay (ht5.stays HS4.out.md) _ _ HV4.out)
      have c5 := hs5.c5
      have hbad : (some s1 : Option RS).isNone = false := rfl
      rw [hbad] at c5
      clear hs5 ht5 hbad
      have HTE := Lib.hid (dpunct_at HLL.out HS5.out [93])
      cases hme : isMark [93] (headR s1) with
      | false =>
        rw [hme] at HTE
        have hno2 := takesR_no hme
        rw [hno2.2] at HTE
        have hN : X = none := by rw [← HXX.out, HBR.out, tail_open HII.out HTL.out hme]; rfl
        have HN := Lib.hid hN
        clear hN hno2 hme
        (go_wp2_with fail; go_fit (HTE.out); rintro e w8 ⟨rfl, hs8, ht8⟩)
        have HS8 := Lib.hid hs8
        have HT8 := Lib.hid (HT5.out.trans ht8)
        have HXB8 := Lib.hid (HXB5.out.turn ht8 HMB4.out)
        have HMB8 := HMB4
        have HDB8 := HDB4
        clear hs8 ht8
        have HFL := Lib.hid (dfail_at HS8.out)
        (go_wp2_with fail; go_fit (HFL.out); rintro e wf ⟨rfl, hsf, htf⟩)
        have HSF := Lib.hid hsf
        have HTF := Lib.hid (HT8.out.trans htf)
        have HXF := Lib.hid (HXB8.out.turn htf HMB8.out)
        obtain ⟨b0, b1, b2, b3, bf⟩ := HXF.out.four
        clear hsf htf
        go_wp2
        refine bodyPost_ret (v := .tuple #[zVal, .int .i64 0]) (by rw [results_cell2' rfl]; go_simp; (try rfl)) rfl ?_
        exact rfailed HN.out HTF.out HSF.out HMd.out (Nat.le_refl _) HDB8.out HMB8.out
      | true =>
        rw [hme] at HTE
        have hN : X = some ((listT l (aT [91, 93]), 0), takesS [93] s1) := by rw [← HXX.out, HBR.out, tail_done HII.out HTL.out hme]; rfl
        have HN := Lib.hid hN
        clear hN hme
        (go_wp2_with fail; go_fit (HTE.out); rintro e w8 ⟨rfl, hs8, ht8⟩)
        have HS8 := Lib.hid hs8
        have HT8 := Lib.hid (HT5.out.trans ht8)
        have HXB8 := Lib.hid (HXB5.out.turn ht8 HMB4.out)
        have HXT8 := Lib.hid (HXT5.out.turn ht8 HMT4.out)
        have HLI := Lib.hid (rlist1_at hs8.old (HL5.out.stay (ht8.stays HS5.out.md)) (TmV.stay (ht8.stays HS5.out.md) _ _ HV5.out))
        obtain ⟨t0, t1, t2, t3, tf⟩ := HXT8.out.four
        clear hs8 ht8
        (go_wp2_with fail; go_fit (HLI.out); rintro e w9 ⟨v9, rfl, hv9, hb9⟩)
        obtain ⟨k9, n9, s9, a9, m9, c9, rfl⟩ := hv9.full
        have HV9 := Lib.hid hv9
        have HB9 := Lib.hid hb9
        obtain ⟨b0, b1, b2, b3, bf⟩ := (HXB8.out.ext hb9).four
        clear hv9 hb9
        go_wp2
        refine bodyPost_ret (v := .tuple #[.agg #[.int .i64 k9, .int .i64 n9, .string s9, .slice a9 m9 c9], .int .i64 0]) (by rw [results_cell2' rfl]; go_simp) rfl ?_
        exact rgave HN.out (HT8.out.trans (Turn.below HB9.out)) (HS8.out.later HB9.out) HMd.out (Nat.le_refl _) HDB4.out HMB4.out HV9.out
    | true =>
      rw [hmk] at HTK
      have hy := takesR_yes hmk
      have hsh2 := (takes_lt hy).2
      have HY := Lib.hid hy
      clear hy hmk
      have c5' := c5
      rw [← HW4.out] at c5'
      go_wp2_with fail
      (try rw [HW4.out])
      clear HW4 c5'
      (go_wp2_with fail; go_fit (HTK.out); rintro e w5 ⟨rfl, hs5, ht5⟩)
      have HC := Lib.hid (HIH.out D4 M2 w5 rb (takesS [124] s1) 999 (by decide) hs5 (by have h1 := HSH.out; have h2 := HLT.out; omega))
      have HS5 := Lib.hid hs5
      have HT5 := Lib.hid (HT4.out.trans ht5)
      have HXB5 := Lib.hid (HXB4.out.turn ht5 HMB4.out)
      have HXT5 := Lib.hid (HXT4.out.turn ht5 HMT4.out)
      have HL5 := Lib.hid (HL4.out.stay (ht5.stays HS4.out.md))
      clear hs5 ht5 c5 hsh2
      (go_wp2_with fail; go_fit (HC.out); rintro e w6 ⟨D6, M6, t6, v6, lv6, rfl, htv, ht6, hs6, hx6⟩)
      obtain ⟨k6, n6, s6, a6, m6, c6, rfl⟩ := htv.full
      have hbB := HXB5.out.lt
      have hbT := HXT5.out.lt
      have hdB : D6 w.heap.size = true := (ht6.dd _ hbB).trans HDB4.out
      have hdT : D6 w3.heap.size = true := (ht6.dd _ hbT).trans HDT4.out
      have hmB : M6 w.heap.size = false := (ht6.mm _ hbB).trans HMB4.out
      have hmT : M6 w3.heap.size = false := (ht6.mm _ hbT).trans HMT4.out
      have hxB := HXB5.out.turn ht6 HMB4.out
      have hxT := HXT5.out.turn ht6 HMT4.out
      have HXB7 := Lib.hid (hxB.far4 hneB (.int .i64 k6) (.int .i64 n6) (.string s6) (.slice a6 m6 c6))
      have HXT7 := Lib.hid (hxT.all4 (.int .i64 k6) (.int .i64 n6) (.string s6) (.slice a6 m6 c6))
      have HS7 := Lib.hid (hs6.put4 hdT hmT (.int .i64 k6) (.int .i64 n6) (.string s6) (.slice a6 m6 c6))
      have HT7 := Lib.hid ((HT5.out.trans ht6).set4 (b := w3.heap.size) (Or.inl hwT) (.int .i64 k6) (.int .i64 n6) (.string s6) (.slice a6 m6 c6))
      have HV7 := Lib.hid (htv.put4 hdT (.int .i64 k6) (.int .i64 n6) (.string s6) (.slice a6 m6 c6))
      have HL7 := Lib.hid ((HL5.out.stay (ht6.stays HS5.out.md)).put4 hdT (.int .i64 k6) (.int .i64 n6) (.string s6) (.slice a6 m6 c6))
      have HDB7 := Lib.hid hdB
      have HMB7 := Lib.hid hmB
      have HDT7 := Lib.hid hdT
      have HMT7 := Lib.hid hmT
      have HX6 := Lib.hid hx6
      obtain ⟨t0, t1, t2, t3, tf⟩ := hxT.four
      obtain ⟨w7, hw7⟩ : ∃ w7, set4 w6 w3.heap.size (.int .i64 k6) (.int .i64 n6) (.string s6) (.slice a6 m6 c6) = w7 := ⟨_, rfl⟩
      rw [hw7] at HXB7 HXT7 HS7 HT7 HV7 HL7
      have c5 := HS7.out.c5
      clear htv ht6 hs6 hx6 hbB hbT hdB hdT hmB hmT hxB hxT HC
      cases hM : TERMX xs 999 (takesS [124] s1) with
      | none =>
        rw [hM] at c5 HS7
        have hN : X = none := by rw [← HXX.out, HBR.out, tail_bad HII.out (tail_fail HY.out hM)]; rfl
        have HN := Lib.hid hN
        have hbad : ((none : Out TL).map (·.2)).isNone = true := rfl
        rw [hbad] at c5
        have HS7 : Hid (Sd D6 M6 w7 rb xs L none) := HS7
        clear hN hM hbad
        go_wp2_with fail
        (try rw [hw7])
        clear hw7
        have HFL := Lib.hid (dfail_at HS7.out)
        (go_wp2_with fail; go_fit (HFL.out); rintro e wf ⟨rfl, hsf, htf⟩)
        have HSF := Lib.hid hsf
        have HTF := Lib.hid (HT7.out.trans htf)
        have HXF := Lib.hid (HXB7.out.turn htf HMB7.out)
        obtain ⟨b0, b1, b2, b3, bf⟩ := HXF.out.four
        clear hsf htf
        go_wp2
        refine bodyPost_ret (v := .tuple #[zVal, .int .i64 0]) (by rw [results_cell2' rfl]; go_simp; (try rfl)) rfl ?_
        exact rfailed HN.out HTF.out HSF.out HMd.out (Nat.le_refl _) HDB7.out HMB7.out
      | some q =>
        obtain ⟨p, s3⟩ := q
        rw [hM] at c5 HS7
        obtain ⟨rfl, _⟩ := HX6.out p s3 hM
        have hbad : ((some (p, s3) : Out TL).map (·.2)).isNone = false := rfl
        rw [hbad] at c5
        have HS7 : Hid (Sd D6 M6 w7 rb xs L (some s3)) := HS7
        have HTL := Lib.hid (tail_yes HY.out hM)
        clear hbad hM
        go_wp2_with fail
        (try rw [hw7])
        clear hw7 t0 t1 t2 t3 tf
        have HTE := Lib.hid (dpunct_at HLL.out HS7.out [93])
        cases hme : isMark [93] (headR s3) with
        | false =>
          rw [hme] at HTE
          have hno2 := takesR_no hme
          rw [hno2.2] at HTE
          have hN : X = none := by rw [← HXX.out, HBR.out, tail_open HII.out HTL.out hme]; rfl
          have HN := Lib.hid hN
          clear hN hno2 hme
          (go_wp2_with fail; go_fit (HTE.out); rintro e w8 ⟨rfl, hs8, ht8⟩)
          have HS8 := Lib.hid hs8
          have HT8 := Lib.hid (HT7.out.trans ht8)
          have HXB8 := Lib.hid (HXB7.out.turn ht8 HMB7.out)
          have HMB8 := HMB7
          have HDB8 := HDB7
          clear hs8 ht8
          have HFL := Lib.hid (dfail_at HS8.out)
          (go_wp2_with fail; go_fit (HFL.out); rintro e wf ⟨rfl, hsf, htf⟩)
          have HSF := Lib.hid hsf
          have HTF := Lib.hid (HT8.out.trans htf)
          have HXF := Lib.hid (HXB8.out.turn htf HMB8.out)
          obtain ⟨b0, b1, b2, b3, bf⟩ := HXF.out.four
          clear hsf htf
          go_wp2
          refine bodyPost_ret (v := .tuple #[zVal, .int .i64 0]) (by rw [results_cell2' rfl]; go_simp; (try rfl)) rfl ?_
          exact rfailed HN.out HTF.out HSF.out HMd.out (Nat.le_refl _) HDB8.out HMB8.out
        | true =>
          rw [hme] at HTE
          have hN : X = some ((listT l p.1, 0), takesS [93] s3) := by rw [← HXX.out, HBR.out, tail_done HII.out HTL.out hme]; rfl
          have HN := Lib.hid hN
          clear hN hme
          (go_wp2_with fail; go_fit (HTE.out); rintro e w8 ⟨rfl, hs8, ht8⟩)
          have HS8 := Lib.hid hs8
          have HT8 := Lib.hid (HT7.out.trans ht8)
          have HXB8 := Lib.hid (HXB7.out.turn ht8 HMB7.out)
          have HXT8 := Lib.hid (HXT7.out.turn ht8 HMT7.out)
          have HLI := Lib.hid (rlist1_at hs8.old (HL7.out.stay (ht8.stays HS7.out.md)) (TmV.stay (ht8.stays HS7.out.md) _ _ HV7.out))
          obtain ⟨t0, t1, t2, t3, tf⟩ := HXT8.out.four
          clear hs8 ht8
          (go_wp2_with fail; go_fit (HLI.out); rintro e w9 ⟨v9, rfl, hv9, hb9⟩)
          obtain ⟨k9, n9, s9, a9, m9, c9, rfl⟩ := hv9.full
          have HV9 := Lib.hid hv9
          have HB9 := Lib.hid hb9
          obtain ⟨b0, b1, b2, b3, bf⟩ := (HXB8.out.ext hb9).four
          clear hv9 hb9
          go_wp2
          refine bodyPost_ret (v := .tuple #[.agg #[.int .i64 k9, .int .i64 n9, .string s9, .slice a9 m9 c9], .int .i64 0]) (by rw [results_cell2' rfl]; go_simp) rfl ?_
          exact rgave HN.out (HT8.out.trans (Turn.below HB9.out)) (HS8.out.later HB9.out) HMd.out (Nat.le_refl _) HDB7.out HMB7.out HV9.out
set_option maxHeartbeats 4000000 in
theorem dother_at {xs : List O} {L : List TokP} {D M : Nat → Bool} {w : World} {rb : Nat} {s : RS} (h : Sd D M w rb xs L (some s)) {b : List UInt8} (b1 : b ≠ [40]) (b2 : b ≠ [123]) (b3 : b ≠ [91]) :
    Calls Tryz.prog 160 #[.pointer (some ⟨rb, 0, none⟩), .string ⟨b.toArray⟩] w (RPost D M w rb xs L (zeroR (bracketR (TERMX xs) b s))) := by
  have hN : zeroR (bracketR (TERMX xs) b s) = none := by unfold bracketR; rw [if_neg b1, if_neg b2, if_neg b3]; rfl
  obtain ⟨X, hX⟩ : ∃ X, zeroR (bracketR (TERMX xs) b s) = X := ⟨_, rfl⟩
  rw [hX]
  have HN := Lib.hid (hX.symm.trans hN)
  obtain ⟨w1, hw1, hb1, hz1, hx1⟩ := box_new w #[.int .i64 0, .int .i64 0, .string ⟨#[]⟩, .slice none 0 0] 66
  have HMd := Lib.hid h.md
  have HMB1 := Lib.hid (h.out (Nat.le_refl _))
  have HT1 := Lib.hid (Turn.into (D := D) (M := M) hb1 (Nat.le_refl _))
  have HXB1 := Lib.hid hx1
  have HDB1 := Lib.hid (plusB_self D w.heap.size)
  have HS1 := Lib.hid (h.box hb1 (Nat.le_refl _) hx1.lt)
  have t1 : (b == [40]) = false := beq_false_of_ne b1
  have t2 : (b == [123]) = false := beq_false_of_ne b2
  have t3 : (b == [91]) = false := beq_false_of_ne b3
  clear h hX hN hx1 hb1 hz1 b1 b2 b3
  go_enter Tryz.func160, Tryz.ntmps160
  go_wp2_with fail
  (try rw [hw1])
  clear hw1
  have HFL := Lib.hid (dfail_at HS1.out)
  (go_wp2_with fail; go_fit (HFL.out); rintro e wf ⟨rfl, hsf, htf⟩)
  have HSF := Lib.hid hsf
  have HTF := Lib.hid (HT1.out.trans htf)
  have HXF := Lib.hid (HXB1.out.turn htf HMB1.out)
  obtain ⟨b0, b1, b2, b3, bf⟩ := HXF.out.four
  clear hsf htf
  go_wp2
  refine bodyPost_ret (v := .tuple #[zVal, .int .i64 0]) (by rw [results_cell2' rfl]; go_simp; (try rfl)) rfl ?_
  exact rfailed HN.out HTF.out HSF.out HMd.out (Nat.le_refl _) HDB1.out HMB1.out
theorem dbracket_at {xs : List O} {L : List TokP} {n : Nat} (hL : WfL L) (ih : IHD xs L n) {D M : Nat → Bool} {w : World} {rb : Nat} {s : RS} (h : Sd D M w rb xs L (some s)) (hlt : s.rest.length < n) (b : List UInt8) :
    Calls Tryz.prog 160 #[.pointer (some ⟨rb, 0, none⟩), .string ⟨b.toArray⟩] w (RPost D M w rb xs L (zeroR (bracketR (TERMX xs) b s))) := by
  by_cases b1 : b = [40]
  · subst b1; exact dparen_at hL ih h hlt
  · by_cases b2 : b = [123]
    · subst b2; exact dbrace_at hL ih h hlt
    · by_cases b3 : b = [91]
      · subst b3; exact dlist_at hL ih h hlt
      · exact dother_at h b1 b2 b3
end Go.Proofs.YtobdhcaoeholhaaGreatDoor
/- The document's reader: name. (gen_rp11.py) -/
namespace Go.Proofs.YtobdhcaoeholhaaGreatDoor
open Go.Shelf Go.RowKit
set_option linter.unusedVariables false

theorem may_level {n k : List UInt8} {l : Int} (h : mayB n k l = true) : 1 ≤ l ∧ l ≤ 1200 := by
  unfold mayB at h
  split at h
  · simp at h; omega
  · split at h
    · cases h
    · split at h
      · cases h
      · split at h
        · cases h
        · split at h
          · cases h
          · simp at h; omega
theorem good_level {xs : List O} (hg : goodB xs = true) {k : Nat} {o : O} (h : xs[k]? = some o) : 1 ≤ o.l ∧ o.l ≤ 1200 := may_level (((good_iff xs).1 hg).2.1 o (List.mem_of_getElem? h))
theorem sides_nn {k : List UInt8} {l : Int} (h : 1 ≤ l ∧ l ≤ 1200) : 0 ≤ (sidesB k l).2 := by
  have hw : wrap64 (l - 1) = l - 1 := IntWalk.wrap64_in _ (by omega)
  unfold sidesB
  rw [hw]
  repeat' split
  all_goals (simp only; omega)
theorem aT_at (w : World) {t : List UInt8} (h : t.length ≤ 5000) : TmV w (aT t) (.agg #[.int .i64 2, .int .i64 0, .string ⟨t.toArray⟩, .slice none 0 0]) := leaf_tm w i64_2 i64_0 (by
  have e : (⟨t.toArray⟩ : ByteArray).size = t.length := by show t.toArray.size = _; simp
  show (ba t).size ≤ BIG
  unfold ba BIG
  rw [e]
  omega)
set_option maxHeartbeats 8000000 in
set_option maxRecDepth 100000 in
theorem dname_minus {xs : List O} {L : List TokP} {n : Nat} (hL : WfL L) (hg : goodB xs = true) (ih : IHD xs L n) {D M : Nat → Bool} {w : World} {rb : Nat} {s : RS} (h : Sd D M w rb xs L (some s)) (hlt : s.rest.length < n) {q : TokP} (htk : tokOk q) {most : Int} (hmi : isMinusR q (headR s) = true) :
    Calls Tryz.prog 163 #[.pointer (some ⟨rb, 0, none⟩), tkVal q, .int .i64 most] w (RPost D M w rb xs L (namedR (preO xs) (betO xs) (TERMX xs) q most s)) := by
  obtain ⟨X, hX⟩ : ∃ X, namedR (preO xs) (betO xs) (TERMX xs) q most s = X := ⟨_, rfl⟩
  rw [hX]
  have HXX := Lib.hid hX
  obtain ⟨w1, hw1, hb1, hz1, hx1⟩ := box_new w #[.int .i64 (q.1.kind : Int), .string ⟨q.1.text.toArray⟩, .int .i64 (q.1.n : Int), .bool q.1.opens, .int .i64 (q.2 : Int)] 138
  obtain ⟨w2, hw2, hb2, hz2, hx2⟩ := box_new w1 #[.int .i64 0, .int .i64 0, .string ⟨#[]⟩, .slice none 0 0] 66
  have h2 := (h.box hb1 (Nat.le_refl _) hx1.lt).box hb2 (Nat.le_refl _) hx2.lt
  have HMd := Lib.hid h.md
  have HMRB := Lib.hid h.mb
  have hwB : w.heap.size ≤ w1.heap.size := hb1.size
  have HMB := Lib.hid (h.out hwB)
  have HT2 := Lib.hid ((Turn.into (D := D) (M := M) hb1 (Nat.le_refl _)).into2 hb2 (Nat.le_refl _))
  have HXQ2 := Lib.hid (hx1.ext hb2)
  have HXB2 := Lib.hid hx2
  have HS2 := Lib.hid h2
  have HP := Lib.hid (dpeek_at hL h2)
  have HLL := Lib.hid hL
  obtain ⟨x, hx⟩ : ∃ x, headR s = x := ⟨_, rfl⟩
  have HHX := Lib.hid hx
  rw [hx] at HP
  have htx := h.gd.nice.head
  rw [hx] at htx
  have hn1 := htk.1
  have hn2 := htk.2.2
  have hn3 := htk.2.1
  have hm1 := htx.1
  have hm2 := htx.2.2
  have hnQB : w.heap.size ≠ w1.heap.size := by omega
  have hh : (((q.1.kind : Int) == 1) = true ∧ (q.1.text == [45]) = true ∧ ((x.1.kind : Int) == 4) = true ∧ ((x.2 : Int) == (q.2 : Int) + 1) = true) ∧ x.1.kind = 4 := by
    rw [hx] at hmi
    unfold isMinusR at hmi
    simp only [Bool.and_eq_true, beq_iff_eq] at hmi
    obtain ⟨a1, a2, a3, a4⟩ := hmi
    exact ⟨⟨by rw [a1]; rfl, by rw [a2]; rfl, by rw [a3]; rfl, by rw [a4]; simp⟩, a3⟩
  obtain ⟨⟨k1, k2, k3, k4⟩, k5⟩ := hh
  have HN := Lib.hid (show X = some ((iT (-((headR s).1.n : Int)), 0), dropR s) by rw [← hX]; unfold namedR; rw [if_pos hmi])
  rw [hx] at HN
  have hws : IntKind.i64.wrap ((q.2 : Int) + 1) = (q.2 : Int) + 1 := by rw [IntKind.wrap_i64]; omega
  have hwn : IntKind.i64.wrap (-(x.1.n : Int)) = -(x.1.n : Int) := by rw [IntKind.wrap_i64]; omega
  clear ih hmi
  clear h h2 hX hb1 hb2 hx1 hx2 hz1 hz2 hx htx htk hL
  go_enter Tryz.func163, Tryz.ntmps163
  go_wp2_with fail
  (try rw [hw1])
  (try rw [hw2])
  clear hw1 hw2
  (go_wp2_with fail; go_fit (HP.out); rintro e w3 ⟨rfl, hb3⟩)
  obtain ⟨w4, hw4, hb4, hz4, hx4⟩ := box_new w3 #[.int .i64 (x.1.kind : Int), .string ⟨x.1.text.toArray⟩, .int .i64 (x.1.n : Int), .bool x.1.opens, .int .i64 (x.2 : Int)] 138
  have hb24 := Ext.trans' hb3 hb4
  have hT2 : w2.heap.size ≤ w3.heap.size := hb3.size
  have HS4 := Lib.hid (HS2.out.box hb24 hT2 hx4.lt)
  have HT4 := Lib.hid (HT2.out.into2 hb24 hT2)
  have HXQ4 := Lib.hid (HXQ2.out.ext hb24)
  have HXB4 := Lib.hid (HXB2.out.ext hb24)
  have HXH4 := Lib.hid hx4
  have HDB4 := Lib.hid (plusB_of (b := w3.heap.size) (plusB_self (plusB D w.heap.size) w1.heap.size))
  have HMB4 := HMB
  have hlB := HXB2.out.lt
  have hnBH : w1.heap.size ≠ w3.heap.size := by omega
  have hrb4 := HS4.out.lt
  have hM3 : M w3.heap.size = false := okd_out HS2.out.okd hT2
  have hnRH : rb ≠ w3.heap.size := fun e => by have := HS4.out.mb; rw [e, hM3] at this; cases this
  have hnRB : rb ≠ w1.heap.size := fun e => by have := HS4.out.mb; rw [e, HMB.out] at this; cases this
  have HM3 := Lib.hid hM3
  obtain ⟨D4, hD4⟩ : ∃ D4, plusB (plusB (plusB D w.heap.size) w1.heap.size) w3.heap.size = D4 := ⟨_, rfl⟩
  rw [hD4] at HS4 HT4 HDB4
  obtain ⟨q0, q1, q2, q3, q4, qf⟩ := HXQ4.out.five
  obtain ⟨h0, h1, h2, h3, h4, hf⟩ := hx4.five
  clear hb3 hb4 hb24 hz4 hx4 HP hD4 hM3 HS2 HT2 HXQ2 HXB2
  obtain ⟨_, _, _, a, _, _, c2, _, _, _, fz, _, _, _, _, hr, hal⟩ := HS4.out.parts
  have ha2 : a < L.length := by
    rcases Nat.lt_or_ge a L.length with hh | hh
    · exact hh
    · exfalso
      have h0 := dhead_at hr
      rw [HHX.out, List.getElem?_eq_none hh] at h0
      rw [h0] at k5
      revert k5; decide
  have hLl := HLL.out.1
  have hwa : IntKind.i64.wrap ((a : Int) + 1) = (a : Int) + 1 := by rw [IntKind.wrap_i64]; omega
  have HS5 := Lib.hid (HS4.out.pass c2 (by omega))
  have HT5 := Lib.hid (HT4.out.set ⟨rb, 2, none⟩ (.int .i64 ((a : Int) + 1)) (Or.inr HMRB.out))
  have HXB5 := Lib.hid (HXB4.out.far (c := rb) (k := 2) (u := .int .i64 ((a : Int) + 1)) (Ne.symm hnRB))
  have HXH5 := Lib.hid (HXH4.out.far (c := rb) (k := 2) (u := .int .i64 ((a : Int) + 1)) (Ne.symm hnRH))
  obtain ⟨b0, b1, b2, b3, bf⟩ := HXB4.out.four
  clear k5 hr hal ha2
  go_wp2_with fail
  (try rw [hw4])
  clear hw4
  go_wp2
  refine bodyPost_ret (v := .tuple #[.agg #[.int .i64 1, .int .i64 (-(x.1.n : Int)), .string ⟨#[]⟩, .slice none 0 0], .int .i64 0]) (by rw [results_cell2' rfl]; go_simp) rfl ?_
  exact rgave HN.out HT5.out HS5.out HMd.out hwB HDB4.out HMB.out (leaf_tm _ i64_1 (by unfold I64; omega) (by unfold BIG; decide))
set_option maxHeartbeats 8000000 in
set_option maxRecDepth 100000 in
theorem dname_quoted {xs : List O} {L : List TokP} {n : Nat} (hL : WfL L) (hg : goodB xs = true) (ih : IHD xs L n) {D M : Nat → Bool} {w : World} {rb : Nat} {s : RS} (h : Sd D M w rb xs L (some s)) (hlt : s.rest.length < n) {q : TokP} (htk : tokOk q) {most : Int} (hmost : 0 ≤ most) (hk2 : q.1.kind = 2) (hop : q.1.opens = false) :
    Calls Tryz.prog 163 #[.pointer (some ⟨rb, 0, none⟩), tkVal q, .int .i64 most] w (RPost D M w rb xs L (namedR (preO xs) (betO xs) (TERMX xs) q most s)) := by
  obtain ⟨X, hX⟩ : ∃ X, namedR (preO xs) (betO xs) (TERMX xs) q most s = X := ⟨_, rfl⟩
  rw [hX]
  have HXX := Lib.hid hX
  obtain ⟨w1, hw1, hb1, hz1, hx1⟩ := box_new w #[.int .i64 (q.1.kind : Int), .string ⟨q.1.text.toArray⟩, .int .i64 (q.1.n : Int), .bool q.1.opens, .int .i64 (q.2 : Int)] 138
  obtain ⟨w2, hw2, hb2, hz2, hx2⟩ := box_new w1 #[.int .i64 0, .int .i64 0, .string ⟨#[]⟩, .slice none 0 0] 66
  have h2 := (h.box hb1 (Nat.le_refl _) hx1.lt).box hb2 (Nat.le_refl _) hx2.lt
  have HMd := Lib.hid h.md
  have hwB : w.heap.size ≤ w1.heap.size := hb1.size
  have HMB := Lib.hid (h.out hwB)
  have HT2 := Lib.hid ((Turn.into (D := D) (M := M) hb1 (Nat.le_refl _)).into2 hb2 (Nat.le_refl _))
  have HXQ2 := Lib.hid (hx1.ext hb2)
  have HXB2 := Lib.hid hx2
  have HS2 := Lib.hid h2
  have HP := Lib.hid (dpeek_at hL h2)
  have HLL := Lib.hid hL
  obtain ⟨x, hx⟩ : ∃ x, headR s = x := ⟨_, rfl⟩
  have HHX := Lib.hid hx
  rw [hx] at HP
  have htx := h.gd.nice.head
  rw [hx] at htx
  have hn1 := htk.1
  have hn2 := htk.2.2
  have hn3 := htk.2.1
  have hm1 := htx.1
  have hm2 := htx.2.2
  have hnQB : w.heap.size ≠ w1.heap.size := by omega
  have k1 : ((q.1.kind : Int) == 1) = false := by rw [hk2]; rfl
  have hm0 : ¬ (most < 0) := by omega
  have HN := Lib.hid (show X = some ((aT q.1.text, 0), s) by
    rw [← hX]
    unfold namedR isMinusR
    rw [hk2, hop]
    rfl)
  obtain ⟨vo, o1, o2⟩ := h2.co
  have o2 : Ops w2 vo xs := Elems.stay o2 (Stays.unhide _ w2)
  have HO := Lib.hid o2
  have O1 := Lib.hid o1
  have HF := Lib.hid (fun (wq : World) (hq : Below w2.heap.size w2 wq) => find_walk (o2.ext hq) ⟨q.1.text.toArray⟩ false)
  obtain ⟨z, hz⟩ : ∃ z, findB xs q.1.text false = z := ⟨_, rfl⟩
  have hbl : bl (⟨q.1.text.toArray⟩ : ByteArray) = q.1.text := rfl
  simp only [hbl] at HF
  rw [hz] at HF
  have HTA := Lib.hid (fun w => aT_at w hn3)
  clear ih hk2 hop o1 o2 hbl hz
  clear h h2 hX hb1 hb2 hx1 hx2 hz1 hz2 hx htx htk hL
  go_enter Tryz.func163, Tryz.ntmps163
  go_wp2_with fail
  (try rw [hw1])
  (try rw [hw2])
  clear hw1 hw2
  (go_wp2_with fail; go_fit (HP.out); rintro e w3 ⟨rfl, hb3⟩)
  obtain ⟨w4, hw4, hb4, hz4, hx4⟩ := box_new w3 #[.int .i64 (x.1.kind : Int), .string ⟨x.1.text.toArray⟩, .int .i64 (x.1.n : Int), .bool x.1.opens, .int .i64 (x.2 : Int)] 138
  have hb24 := Ext.trans' hb3 hb4
  have hT2 : w2.heap.size ≤ w3.heap.size := hb3.size
  have HS4 := Lib.hid (HS2.out.box hb24 hT2 hx4.lt)
  have HT4 := Lib.hid (HT2.out.into2 hb24 hT2)
  have HXQ4 := Lib.hid (HXQ2.out.ext hb24)
  have HXB4 := Lib.hid (HXB2.out.ext hb24)
  have HXH4 := Lib.hid hx4
  have HDB4 := Lib.hid (plusB_of (b := w3.heap.size) (plusB_self (plusB D w.heap.size) w1.heap.size))
  have HMB4 := HMB
  have hlB := HXB2.out.lt
  have hnBH : w1.heap.size ≠ w3.heap.size := by omega
  have hrb4 := HS4.out.lt
  have hM3 : M w3.heap.size = false := okd_out HS2.out.okd hT2
  have hnRH : rb ≠ w3.heap.size := fun e => by have := HS4.out.mb; rw [e, hM3] at this; cases this
  have hnRB : rb ≠ w1.heap.size := fun e => by have := HS4.out.mb; rw [e, HMB.out] at this; cases this
  have HM3 := Lib.hid hM3
  obtain ⟨D4, hD4⟩ : ∃ D4, plusB (plusB (plusB D w.heap.size) w1.heap.size) w3.heap.size = D4 := ⟨_, rfl⟩
  rw [hD4] at HS4 HT4 HDB4
  obtain ⟨q0, q1, q2, q3, q4, qf⟩ := HXQ4.out.five
  obtain ⟨h0, h1, h2, h3, h4, hf⟩ := hx4.five
  have o1 := cell_later hb24 O1.out
  have HF4 := Lib.hid (fun (wq : World) (hq : Below w4.heap.size w4 wq) => HF.out wq (Ext.trans' hb24 hq))
  clear hb3 hb4 hb24 hz4 hx4 HP hD4 hM3 HS2 HT2 HXQ2 HXB2
  go_wp2_with fail
  (try rw [hw4])
  clear hw4
  (refine wp_region_class (fun w' => (w'.cell? ⟨rb, 0, none⟩ = some vo ∧ w'.cell? ⟨w.heap.size, 1, none⟩ = some (.string ⟨q.1.text.toArray⟩)) ∧ Below w4.heap.size w4 w') (by kernel_rfl) (by kernel_rfl) (⟨⟨o1, q1⟩, (Below.refl _ _).drew⟩) ?_; (repeat (first | go_big_quiet_skip | (go_big_quiet_want; refine quiet_of ?_; apply Exists.intro; refine ⟨fun wq hq => ?_, ?_⟩; (focus ((try dsimp only at hq); go_simp; (first | done | with_reducible rfl | ((go_at_call 144; refine (HF4.out wq hq.2).mono ?_; rintro e w6 ⟨rfl, rfl⟩; exact ⟨rfl, hq⟩)) | fail))); try simp only [Act.put, List.setIfInBounds_toArray, List.set_cons_zero, List.set_cons_succ]; go_big_quiet_on) | fail)); refine wpQuiet_nil ?_; intro wz hz)
  have hz2 := hz.2
  have HZ := Lib.hid hz2
  obtain ⟨q0, q1, q2, q3, q4, qf⟩ := (HXQ4.out.ext hz2).five
  clear hz hz2 o1
  (go_wp2_with fail; go_fit (ratom_at _ _); rintro e w6 ⟨rfl, hb6⟩)
  have HB6 := Lib.hid (Ext.trans' HZ.out hb6)
  obtain ⟨b0, b1, b2, b3, bf⟩ := (HXB4.out.ext HB6.out).four
  clear hb6
  go_wp2
  refine bodyPost_ret (v := .tuple #[.agg #[.int .i64 2, .int .i64 0, .string ⟨q.1.text.toArray⟩, .slice none 0 0], .int .i64 0]) (by rw [results_cell2' rfl]; go_simp) rfl ?_
  exact rgave HN.out (HT4.out.trans (Turn.below HB6.out)) (HS4.out.later HB6.out) HMd.out hwB HDB4.out HMB.out (HTA.out _)
end Go.Proofs.YtobdhcaoeholhaaGreatDoor
/- The document's reader: name: an operator ahead, an atom. (gen_rp12.py) -/
namespace Go.Proofs.YtobdhcaoeholhaaGreatDoor
open Go.Shelf Go.RowKit
set_option linter.unusedVariables false

theorem dahead_map {T : TFun} {name : List UInt8} {o : O} {s : RS} : (aheadR T name o s).map (·.2) = (T (sidesB (bl o.k) o.l).2 s).map (·.2) := by
  unfold aheadR
  cases T (sidesB (bl o.k) o.l).2 s with
  | none => rfl
  | some p => rfl
theorem dahead_some {T : TFun} {name : List UInt8} {o : O} {s s' : RS} {p : TL} (h : aheadR T name o s = some (p, s')) : ∃ q, T (sidesB (bl o.k) o.l).2 s = some (q, s') ∧ p = (.mk 2 0 (ba name) [q.1], o.l) := by
  unfold aheadR at h
  cases hT : T (sidesB (bl o.k) o.l).2 s with
  | none => rw [hT] at h; cases h
  | some q =>
    obtain ⟨q, s1⟩ := q
    rw [hT] at h
    cases h
    exact ⟨q, rfl, rfl⟩
theorem ops_out {D : Nat → Bool} {w : World} {a : Option Addr} {n cap : Nat} {l : List O} (h : Ops (hide D w) (.slice a n cap) l) {k : Nat} {x : O} (hx : l[k]? = some x) :
    ∃ b off, a = some ⟨b, off, none⟩ ∧ n = l.length ∧ n ≤ cap ∧ cap ≤ maxLen ∧ D b = false ∧ w.cell? ⟨b, off + k * 3, none⟩ = some (.string x.n) ∧ w.cell? ⟨b, off + k * 3 + 1, none⟩ = some (.string x.k) ∧ w.cell? ⟨b, off + k * 3 + 2, none⟩ = some (.int .i64 x.l) := by
  obtain ⟨b, off, e, h1, h2, h3, f0, f1, f2⟩ := ops_get h hx
  have UN := (Stays.unhide D w).2
  refine ⟨b, off, e, h1, h2, h3, ?_, UN _ _ f0, UN _ _ f1, UN _ _ f2⟩
  cases hd : D b with
  | false => rfl
  | true => rw [hide_gone D w _ hd] at f0; cases f0
set_option maxHeartbeats 16000000 in
set_option maxRecDepth 100000 in
theorem dname_one {xs : List O} {L : List TokP} {n : Nat} (hL : WfL L) (hg : goodB xs = true) (ih : IHD xs L n) {D M : Nat → Bool} {w : World} {rb : Nat} {s : RS} (h : Sd D M w rb xs L (some s)) (hlt : s.rest.length < n) {q : TokP} (htk : tokOk q) {most : Int} (hk1 : q.1.kind = 1) (hop : q.1.opens = false) (hmi : isMinusR q (headR s) = false) :
    Calls Tryz.prog 163 #[.pointer (some ⟨rb, 0, none⟩), tkVal q, .int .i64 most] w (RPost D M w rb xs L (namedR (preO xs) (betO xs) (TERMX xs) q most s)) := by
  obtain ⟨X, hX⟩ : ∃ X, namedR (preO xs) (betO xs) (TERMX xs) q most s = X := ⟨_, rfl⟩
  rw [hX]
  have HXX := Lib.hid hX
  obtain ⟨w1, hw1, hb1, hz1, hx1⟩ := box_new w #[.int .i64 (q.1.kind : Int), .string ⟨q.1.text.toArray⟩, .int .i64 (q.1.n : Int), .bool q.1.opens, .int .i64 (q.2 : Int)] 138
  obtain ⟨w2, hw2, hb2, hz2, hx2⟩ := box_new w1 #[.int .i64 0, .int .i64 0, .string ⟨#[]⟩, .slice none 0 0] 66
  have h2 := (h.box hb1 (Nat.le_refl _) hx1.lt).box hb2 (Nat.le_refl _) hx2.lt
  have HMd := Lib.hid h.md
  have hwB : w.heap.size ≤ w1.heap.size := hb1.size
  have HMB := Lib.hid (h.out hwB)
  have HT2 := Lib.hid ((Turn.into (D := D) (M := M) hb1 (Nat.le_refl _)).into2 hb2 (Nat.le_refl _))
  have HXQ2 := Lib.hid (hx1.ext hb2)
  have HXB2 := Lib.hid hx2
  have HS2 := Lib.hid h2
  have HP := Lib.hid (dpeek_at hL h2)
  have HLL := Lib.hid hL
  obtain ⟨x, hx⟩ : ∃ x, headR s = x := ⟨_, rfl⟩
  have HHX := Lib.hid hx
  rw [hx] at HP
  have htx := h.gd.nice.head
  rw [hx] at htx
  have hn1 := htk.1
  have hn2 := htk.2.2
  have hn3 := htk.2.1
  have hm1 := htx.1
  have hm2 := htx.2.2
  have hnQB : w.heap.size ≠ w1.heap.size := by omega
  have k1 : ((q.1.kind : Int) == 1) = true := by rw [hk1]; rfl
  have hmm : (q.1.text == [45]) = false ∨ ((q.1.text == [45]) = true ∧ ((x.1.kind : Int) == 4) = false) ∨ ((q.1.text == [45]) = true ∧ ((x.1.kind : Int) == 4) = true ∧ ((x.2 : Int) == (q.2 : Int) + 1) = false) := by
    rw [hx] at hmi
    unfold isMinusR at hmi
    rw [hk1] at hmi
    cases a2 : (q.1.text == [45]) with
    | false => exact Or.inl rfl
    | true =>
      rw [a2] at hmi
      by_cases a3 : x.1.kind = 4
      · refine Or.inr (Or.inr ⟨rfl, by rw [a3]; rfl, ?_⟩)
        rw [a3] at hmi
        simpa using hmi
      · exact Or.inr (Or.inl ⟨rfl, beq_false_of_ne (by omega)⟩)
  have hws : IntKind.i64.wrap ((q.2 : Int) + 1) = (q.2 : Int) + 1 := by rw [IntKind.wrap_i64]; omega
  have HXN := Lib.hid (show X = if isAheadR (preO xs) (betO xs) q most s then aheadR (TERMX xs) q.1.text (preO xs q.1.text).1 s else if max (preO xs q.1.text).1.l (betO xs q.1.text).1.l ≤ most then some ((aT q.1.text, max (preO xs q.1.text).1.l (betO xs q.1.text).1.l), s) else none by
    rw [← hX]
    unfold namedR
    rw [hmi, hop, hk1]
    rfl)
  obtain ⟨vo, o1, o2⟩ := h2.co
  have HO := Lib.hid o2
  have O1 := Lib.hid o1
  have o2 : Ops w2 vo xs := Elems.stay o2 (Stays.unhide _ w2)
  have HF := Lib.hid (fun (wq : World) (hq : Below w2.heap.size w2 wq) => find_walk (o2.ext hq) ⟨q.1.text.toArray⟩ false)
  have HPRE := Lib.hid (find_pre hg q.1.text)
  have HLVM := Lib.hid (lv_max hg q.1.text)
  obtain ⟨z, hz⟩ : ∃ z, findB xs q.1.text false = z := ⟨_, rfl⟩
  have hbl : bl (⟨q.1.text.toArray⟩ : ByteArray) = q.1.text := rfl
  simp only [hbl] at HF
  rw [hz] at HF HPRE
  obtain ⟨lv, hlv⟩ : ∃ z, lvF xs q.1.text = z := ⟨_, rfl⟩
  have HLV := Lib.hid hlv
  rw [hlv] at HLVM
  have HTA := Lib.hid (fun w => aT_at w hn3)
  have HTX := Lib.hid hn3
  have HIH := Lib.hid ih
  have HLT := Lib.hid hlt
  have HGG := Lib.hid hg
  obtain ⟨ao, mo, co, hvo⟩ : ∃ a m c, vo = .slice a m c := by obtain ⟨a, c, e, _⟩ := o2; exact ⟨_, _, _, e⟩
  subst hvo
  have HMQ := Lib.hid (h.out (Nat.le_refl w.heap.size))
  clear ih hk1 hop o1 o2 hbl hz hmi hlt hg hlv
  clear h h2 hX hb1 hb2 hx1 hx2 hz1 hz2 hx htx htk hL
  go_enter Tryz.func163, Tryz.ntmps163
  go_wp2_with fail
  (try rw [hw1])
  (try rw [hw2])
  clear hw1 hw2
  (go_wp2_with fail; go_fit (HP.out); rintro e w3 ⟨rfl, hb3⟩)
  obtain ⟨w4, hw4, hb4, hz4, hx4⟩ := box_new w3 #[.int .i64 (x.1.kind : Int), .string ⟨x.1.text.toArray⟩, .int .i64 (x.1.n : Int), .bool x.1.opens, .int .i64 (x.2 : Int)] 138
  have hb24 := Ext.trans' hb3 hb4
  have hT2 : w2.heap.size ≤ w3.heap.size := hb3.size
  have HS4 := Lib.hid (HS2.out.box hb24 hT2 hx4.lt)
  have HT4 := Lib.hid (HT2.out.into2 hb24 hT2)
  have HXQ4 := Lib.hid (HXQ2.out.ext hb24)
  have HXB4 := Lib.hid (HXB2.out.ext hb24)
  have HXH4 := Lib.hid hx4
  have HDB4 := Lib.hid (plusB_of (b := w3.heap.size) (plusB_self (plusB D w.heap.size) w1.heap.size))
  have HMB4 := HMB
  have hlB := HXB2.out.lt
  have hnBH : w1.heap.size ≠ w3.heap.size := by omega
  have hrb4 := HS4.out.lt
  have hM3 : M w3.heap.size = false := okd_out HS2.out.okd hT2
  have hnRH : rb ≠ w3.heap.size := fun e => by have := HS4.out.mb; rw [e, hM3] at this; cases this
  have hnRB : rb ≠ w1.heap.size := fun e => by have := HS4.out.mb; rw [e, HMB.out] at this; cases this
  have HM3 := Lib.hid hM3
  obtain ⟨D4, hD4⟩ : ∃ D4, plusB (plusB (plusB D w.heap.size) w1.heap.size) w3.heap.size = D4 := ⟨_, rfl⟩
  rw [hD4] at HS4 HT4 HDB4
  obtain ⟨q0, q1, q2, q3, q4, qf⟩ := HXQ4.out.five
  obtain ⟨h0, h1, h2, h3, h4, hf⟩ := hx4.five
  have o1 := cell_later hb24 O1.out
  have HF4 := Lib.hid (fun (wq : World) (hq : Below w4.heap.size w4 wq) => HF.out wq (Ext.trans' hb24 hq))
  clear hb3 hb4 hb24 hz4 hx4 HP hD4 hM3 HS2 HT2 HXQ2 HXB2
  go_upto_region 2 with fail
  (try rw [hw4])
  clear hw4
  go_cut [37] from 17 to 37 (fun u wx => u = .bool false ∧ wx = w4)
  case first =>
    rcases hmm with m1 | ⟨m1, m3⟩ | ⟨m1, m3, m4⟩
    all_goals
      go_wp2
      all_goals go_meet
      exact ⟨rfl, rfl⟩
  case rest =>
    obtain ⟨rfl, rfl⟩ := hcut
    clear hmm
    go_wp2_with fail
    (refine wp_region_class (fun w' => (w'.cell? ⟨rb, 0, none⟩ = some (.slice ao mo co) ∧ w'.cell? ⟨w.heap.size, 1, none⟩ = some (.string ⟨q.1.text.toArray⟩)) ∧ Below wc.heap.size wc w') (by kernel_rfl) (by kernel_rfl) (⟨⟨o1, q1⟩, (Below.refl _ _).drew⟩) ?_; (repeat (first | go_big_quiet_skip | (go_big_quiet_want; refine quiet_of ?_; apply Exists.intro; refine ⟨fun wq hq => ?_, ?_⟩; (focus ((try dsimp only at hq); go_simp; (first | done | with_reducible rfl | ((go_at_call 144; refine (HF4.out wq hq.2).mono ?_; rintro e w6 ⟨rfl, rfl⟩; exact ⟨rfl, hq⟩)) | fail))); try simp only [Act.put, List.setIfInBounds_toArray, List.set_cons_zero, List.set_cons_succ]; go_big_quiet_on) | fail)); refine wpQuiet_nil ?_; intro wz hz)
    have hz2 := hz.2
    have HZ := Lib.hid hz2
    have HS5 := Lib.hid (HS4.out.later hz2)
    have HT5 := Lib.hid (HT4.out.trans (Turn.below hz2))
    have HXQ5 := Lib.hid (HXQ4.out.ext hz2)
    have HXB5 := Lib.hid (HXB4.out.ext hz2)
    obtain ⟨q0, q1, q2, q3, q4, qf⟩ := HXQ5.out.five
    clear hz hz2 o1 h0 h1 h2 h3 h4 hf HS4 HT4 HXQ4 HXB4 HXH4
    obtain ⟨vo5, o1, o2⟩ := HS5.out.co
    have HO5 := Lib.hid o2
    obtain ⟨ao5, mo5, co5, hvo⟩ : ∃ a m c, vo5 = .slice a m c := by obtain ⟨a, c, e, _⟩ := o2; exact ⟨_, _, _, e⟩
    subst hvo
    have HBG := Lib.hid (fun (wq : World) (hq : Below wz.heap.size wz wq) => dbegins_at HLL.out HGG.out (HS5.out.later hq))
    rw [HHX.out] at HBG
    obtain ⟨bg, hbg⟩ : ∃ b, beginsR (preO xs) (betO xs) x = b := ⟨_, rfl⟩
    rw [hbg] at HBG
    obtain ⟨ah, hah⟩ : ∃ b, isAheadR (preO xs) (betO xs) q most s = b := ⟨_, rfl⟩
    have hah2 : ((preO xs q.1.text).2 && (decide ((preO xs q.1.text).1.l ≤ most) && bg)) = ah := by rw [← hah]; unfold isAheadR; rw [HHX.out, hbg]
    have hxn := HXN.out
    rw [hah] at hxn
    have HXN := Lib.hid hxn
    have HAH := Lib.hid hah2
    clear o2 hbg hah hah2 hxn
    go_upto_region 6 with fail
    go_cut [78] from 56 to 78 (fun u wx => u = .bool ah ∧ Hid (Below wz.heap.size wz wx))
    case first =>
      rcases HPRE.out with ⟨k, op, e1, e2, e3⟩ | ⟨e1, e3⟩
      · obtain ⟨ob, off, rfl, hn, hna, hnb, hdo, f0, f1, f2⟩ := ops_out HO5.out e2
        have hkm : k < mo5 := by rw [hn]; exact (List.getElem?_eq_some_iff.1 e2).1
        have hkI : (k : Int) < mo5 := by omega
        have hk0 : (0 : Int) ≤ k := by omega
        have hka := HAH.out
        rw [e3] at hka
        simp only [Bool.true_and] at hka
        obtain ⟨ol, hol⟩ : ∃ l, op.l = l := ⟨_, rfl⟩
        rw [hol] at f2 hka
        unfold maxLen at hnb
        subst e1
        have HKA := Lib.hid hka
        clear e2 e3 hn hka hol
        by_cases hlm : ol ≤ most
        · have hab : ah = bg := by rw [← HKA.out, decide_eq_true hlm, Bool.true_and]
          subst hab
          clear HKA
          (go_wp2_with fail; go_fit (HBG.out _ (Below.refl _ _)); rintro e w6 ⟨rfl, hb6⟩)
          have HB6 := Lib.hid hb6
          clear hb6
          go_wp2
          all_goals go_meet
          exact ⟨rfl, HB6⟩
        · have hab : ah = false := by rw [← HKA.out, decide_eq_false hlm, Bool.false_and]
          subst hab
          clear HKA
          go_wp2
          all_goals go_meet
          exact ⟨rfl, Lib.hid (Below.refl _ _)⟩
      · have hab : ah = false := by rw [← HAH.out, e3]; rfl
        subst hab
        have hz0 : ¬ (0 ≤ z) := by omega
        clear e1 e3
        go_wp2
        all_goals go_meet
        exact ⟨rfl, Lib.hid (Below.refl _ _)⟩
    case rest =>
      obtain ⟨rfl, HB6⟩ := hcut
      have HS6 := Lib.hid (HS5.out.later HB6.out)
      have HT6 := Lib.hid (HT5.out.trans (Turn.below HB6.out))
      have HXQ6 := Lib.hid (HXQ5.out.ext HB6.out)
      have HXB6 := Lib.hid (HXB5.out.ext HB6.out)
      obtain ⟨q0, q1, q2, q3, q4, qf⟩ := HXQ6.out.five
      have o1 := cell_later HB6.out o1
      have HVX := Lib.hid (fun (wq : World) (hq : Below wc.heap.size wc wq) => oplevel_walk ((Elems.stay HO5.out (Stays.unhide _ _)).ext (Ext.trans' HB6.out hq)) ⟨q.1.text.toArray⟩)
      have hbl : bl (⟨q.1.text.toArray⟩ : ByteArray) = q.1.text := rfl
      simp only [hbl] at HVX
      rw [HLV.out] at HVX
      clear hbl
      cases ah with
      | false =>
        have HB7 := Lib.hid (Below.refl wc.heap.size wc)
        have hmx := HXN.out
        rw [if_neg (by decide)] at hmx
        rw [← HLVM.out] at hmx
        have HMX := Lib.hid hmx
        clear hmx HXN
        go_wp2_with fail
        (refine wp_region_class (fun w' => (w'.cell? ⟨rb, 0, none⟩ = some (.slice ao5 mo5 co5) ∧ w'.cell? ⟨w.heap.size, 1, none⟩ = some (.string ⟨q.1.text.toArray⟩)) ∧ Below wc.heap.size wc w') (by kernel_rfl) (by kernel_rfl) (⟨⟨o1, q1⟩, (Below.refl _ _).drew⟩) ?_; (repeat (first | go_big_quiet_skip | (go_big_quiet_want; refine quiet_of ?_; apply Exists.intro; refine ⟨fun wq hq => ?_, ?_⟩; (focus ((try dsimp only at hq); go_simp; (first | done | with_reducible rfl | ((go_at_call 100; refine (HVX.out wq hq.2).mono ?_; rintro e w6 ⟨rfl, rfl⟩; exact ⟨rfl, hq⟩)) | fail))); try simp only [Act.put, List.setIfInBounds_toArray, List.set_cons_zero, List.set_cons_succ]; go_big_quiet_on) | fail)); refine wpQuiet_nil ?_; intro wz hz)
        have hz2 := hz.2
        have HB8 := Lib.hid hz2
        obtain ⟨q0, q1, q2, q3, q4, qf⟩ := (HXQ6.out.ext hz2).five
        have HS8 := Lib.hid (HS6.out.later hz2)
        have HT8 := Lib.hid (HT6.out.trans (Turn.below hz2))
        have HXB8 := Lib.hid (HXB6.out.ext hz2)
        have HDB8 := HDB4
        have HMB8 := HMB
        clear hz hz2 o1 HXQ6 HS6 HT6 HXB6
        by_cases hle : lv ≤ most
        · have hle2 : ¬ (most < lv) := by omega
          have hmx := HMX.out
          rw [if_pos hle] at hmx
          have HN := Lib.hid hmx
          clear hmx hle
          (go_wp2_with fail; go_fit (ratom_at _ _); rintro e w9 ⟨rfl, hb9⟩)
          have HB9 := Lib.hid hb9
          obtain ⟨b0, b1, b2, b3, bf⟩ := (HXB8.out.ext hb9).four
          clear hb9
          go_wp2
          refine bodyPost_ret (v := .tuple #[.agg #[.int .i64 2, .int .i64 0, .string ⟨q.1.text.toArray⟩, .slice none 0 0], .int .i64 lv]) (by rw [results_cell2' rfl]; go_simp) rfl ?_
          exact rgave HN.out (HT8.out.trans (Turn.below HB9.out)) (HS8.out.later HB9.out) HMd.out hwB HDB4.out HMB.out (HTA.out _)
        · have hle2 : most < lv := by omega
          have hmx := HMX.out
          rw [if_neg hle] at hmx
          have HN := Lib.hid hmx
          clear hmx hle
          have HFL := Lib.hid (dfail_at HS8.out)
          (go_wp2_with fail; go_fit (HFL.out); rintro e wf ⟨rfl, hsf, htf⟩)
          have HSF := Lib.hid hsf
          have HTF := Lib.hid (HT8.out.trans htf)
          have HXF := Lib.hid (HXB8.out.turn htf HMB8.out)
          obtain ⟨b0, b1, b2, b3, bf⟩ := HXF.out.four
          clear hsf htf
          go_wp2
          refine bodyPost_ret (v := .tuple #[zVal, .int .i64 0]) (by rw [results_cell2' rfl]; go_simp; (try rfl)) rfl ?_
          exact rfailed HN.out HTF.out HSF.out HMd.out hwB HDB8.out HMB8.out
      | true =>
        have hka := HAH.out
        rcases HPRE.out with ⟨k, op, e1, e2, e3⟩ | ⟨e1, e3⟩
        rotate_left
        · exfalso
          rw [e3] at hka
          cases hka
        have hxn := HXN.out
        rw [if_pos rfl, e3] at hxn
        simp only at hxn
        have HXA := Lib.hid hxn
        have hlev := good_level HGG.out e2
        obtain ⟨on, ok, ol⟩ := op
        simp only at hlev
        obtain ⟨⟨sl, sr⟩, hsd⟩ : ∃ r, sidesB (bl ok) ol = r := ⟨_, rfl⟩
        have hnn := sides_nn (k := bl ok) hlev
        have hSD := fun wq => rsides_walk on ok ol wq
        rw [hsd] at hSD hnn
        have HSD := Lib.hid hSD
        have HSR := Lib.hid hsd
        have HNN := Lib.hid hnn
        have hO6 := Elems.stay HO5.out (Stays.below HB6.out fun _ _ h => h)
        obtain ⟨ob, off, hao, hn, hna, hnb, hdo, f0, f1, f2⟩ := ops_out hO6 e2
        subst hao
        have hkm : k < mo5 := by rw [hn]; exact (List.getElem?_eq_some_iff.1 e2).1
        have hkI : (k : Int) < mo5 := by omega
        have hk0 : (0 : Int) ≤ k := by omega
        unfold maxLen at hnb
        subst e1
        have HE2 := Lib.hid e2
        clear e2 e3 hn hka hxn hlev hnn hSD hsd hO6 HXN HVX
        (go_wp2_with fail; go_fit (HSD.out _); rintro e w7 ⟨rfl, hb7⟩)
        have HB7 := Lib.hid hb7
        have hs7 := HS6.out.later hb7
        have HS7 := Lib.hid hs7
        have HT7 := Lib.hid (HT6.out.trans (Turn.below hb7))
        have HXQ7 := Lib.hid (HXQ6.out.ext hb7)
        have HXB7 := Lib.hid (HXB6.out.ext hb7)
        have HTM := Lib.hid (HIH.out D4 M w7 rb s sr HNN.out hs7 HLT.out)
        clear hb7 hs7 o1 f0 f1 f2 q0 q1 q2 q3 q4 qf
        (go_wp2_with fail; go_fit (HTM.out); rintro e w8 ⟨D8, M8, t8, v8, lv8, rfl, htv, ht8, hs8, hx8⟩)
        obtain ⟨k8, n8, s8, a8, m8, c8, rfl⟩ := htv.full
        obtain ⟨w9, hw9, hb9, hz9, hx9⟩ := box_new w8 #[.int .i64 k8, .int .i64 n8, .string s8, .slice a8 m8 c8] 66
        have hMQ : M w.heap.size = false := HMQ.out
        have HXQ9 := Lib.hid ((HXQ7.out.turn ht8 hMQ).ext hb9)
        have HXB9 := Lib.hid ((HXB7.out.turn ht8 HMB.out).ext hb9)
        have HXA9 := Lib.hid hx9
        have hblt := HXB7.out.lt
        have HDB9 := Lib.hid (plusB_of (b := w8.heap.size) ((ht8.dd _ hblt).trans HDB4.out))
        have HMB9 := Lib.hid ((ht8.mm _ hblt).trans HMB.out)
        have HS9 := Lib.hid (hs8.box hb9 (Nat.le_refl _) hx9.lt)
        have HT9 := Lib.hid ((HT7.out.trans ht8).into2 hb9 (Nat.le_refl _))
        have HV9 := Lib.hid (htv.box hb9 (Nat.le_refl _))
        have HX8 := Lib.hid hx8
        have hAB : w8.heap.size ≠ w1.heap.size := by have h1 := ht8.size; omega
        have hrB : rb ≠ w1.heap.size := hnRB
        obtain ⟨a0, a1, a2, a3, af⟩ := hx9.four
        clear htv ht8 hs8 hx8 hb9 hz9 hx9 HTM
        obtain ⟨vo9, o1, o2⟩ := HS9.out.co
        obtain ⟨ao9, mo9, co9, hvo⟩ : ∃ a m c, vo9 = .slice a m c := by obtain ⟨a, c, e, _⟩ := o2; exact ⟨_, _, _, e⟩
        subst hvo
        obtain ⟨ob9, off9, hao, hn, hna9, hnb9, hdo9, g0, g1, g2⟩ := ops_out o2 HE2.out
        subst hao
        have hkm9 : k < mo9 := by rw [hn]; exact (List.getElem?_eq_some_iff.1 HE2.out).1
        have hkI9 : (k : Int) < mo9 := by omega
        unfold maxLen at hnb9
        have hoB : ob9 ≠ w1.heap.size := fun e => by rw [e, HDB9.out] at hdo9; cases hdo9
        obtain ⟨D9, hD9⟩ : ∃ D9, plusB D8 w8.heap.size = D9 := ⟨_, rfl⟩
        rw [hD9] at HDB9 HS9 HT9 HV9
        obtain ⟨q0, q1, q2, q3, q4, qf⟩ := HXQ9.out.five
        have h1t := tms_one (w := w9.drew) (show Old D9 w9.drew from HS9.out.old) (TmV.later (Below.refl _ _).drew HV9.out) 66
        have HCV : Hid (TmV (hide D9 (w9.drew.alloc (.cells #[.int .i64 k8, .int .i64 n8, .string s8, .slice a8 m8 c8] 66))) (.mk 2 0 (ba q.1.text) [t8]) (.agg #[.int .i64 2, .int .i64 0, .string ⟨q.1.text.toArray⟩, .slice (some ⟨w9.drew.heap.size, 0, none⟩) 1 1])) := Lib.hid (tmV_iff.2 ⟨_, rfl, (by
          have e : (ba q.1.text).size = q.1.text.length := by unfold ba; show q.1.text.toArray.size = _; simp
          rw [e]; unfold BIG; have := HTX.out; omega), i64_2, i64_0, h1t⟩)
        clear o2 hn hdo9 h1t hD9
        go_wp2_with fail
        (try rw [hw9])
        clear hw9
        refine wp_region_held_drew (S := fun w' => (w'.cell? ⟨w.heap.size, 1, none⟩ = some (.string ⟨q.1.text.toArray⟩) ∧ w'.cell? ⟨w8.heap.size, 0, none⟩ = some (.int .i64 k8) ∧ w'.cell? ⟨w8.heap.size, 1, none⟩ = some (.int .i64 n8) ∧ w'.cell? ⟨w8.heap.size, 2, none⟩ = some (.string s8) ∧ w'.cell? ⟨w8.heap.size, 3, none⟩ = some (.slice a8 m8 c8)) ∧ w'.cell? ⟨rb, 0, none⟩ = some (.slice (some ⟨ob9, off9, none⟩) mo9 co9) ∧ w'.cell? ⟨ob9, off9 + k * 3 + 2, none⟩ = some (.int .i64 ol)) (by kernel_rfl) ⟨⟨q1, a0, a1, a2, a3⟩, o1, g2⟩ (fun hHeld => ?_)
        first | (refine held_t (i := 0) hHeld ?_; apply Exists.intro; refine ⟨fun wq hq => ?_, ?_⟩; (focus ((try dsimp only at hq); go_simp; (first | done | with_reducible rfl | fail)))) | refine held_s (i := 0) hHeld ?_ | fail
        first | (refine held_t (i := 1) hHeld ?_; apply Exists.intro; refine ⟨fun wq hq => ?_, ?_⟩; (focus ((try dsimp only at hq); go_simp; (first | done | with_reducible rfl | fail)))) | refine held_s (i := 1) hHeld ?_ | fail
        first | (refine held_t (i := 2) hHeld ?_; apply Exists.intro; refine ⟨fun wq hq => ?_, ?_⟩; (focus ((try dsimp only at hq); go_simp; (first | done | with_reducible rfl | fail)))) | refine held_s (i := 2) hHeld ?_ | fail
        try simp only [Act.put, List.setIfInBounds_toArray, List.set_cons_zero, List.set_cons_succ]
        first | (refine held_t (i := 5) hHeld ?_; apply Exists.intro; refine ⟨fun wq hq => ?_, ?_⟩; (focus ((try dsimp only at hq); go_simp; (first | done | with_reducible rfl | fail)))) | refine held_s (i := 5) hHeld ?_ | fail
        first | (refine held_t (i := 6) hHeld ?_; apply Exists.intro; refine ⟨fun wq hq => ?_, ?_⟩; (focus ((try dsimp only at hq); go_simp; (first | done | with_reducible rfl | fail)))) | refine held_s (i := 6) hHeld ?_ | fail
        first | (refine held_t (i := 7) hHeld ?_; apply Exists.intro; refine ⟨fun wq hq => ?_, ?_⟩; (focus ((try dsimp only at hq); go_simp; (first | done | with_reducible rfl | fail)))) | refine held_s (i := 7) hHeld ?_ | fail
        first | (refine held_t (i := 8) hHeld ?_; apply Exists.intro; refine ⟨fun wq hq => ?_, ?_⟩; (focus ((try dsimp only at hq); go_simp; (first | done | with_reducible rfl | fail)))) | refine held_s (i := 8) hHeld ?_ | fail
        first | (refine held_t (i := 9) hHeld ?_; apply Exists.intro; refine ⟨fun wq hq => ?_, ?_⟩; (focus ((try dsimp only at hq); go_simp; (first | done | with_reducible rfl | fail)))) | refine held_s (i := 9) hHeld ?_ | fail
        first | (refine held_t (i := 10) hHeld ?_; apply Exists.intro; refine ⟨fun wq hq => ?_, ?_⟩; (focus ((try dsimp only at hq); go_simp; (first | done | with_reducible rfl | fail)))) | refine held_s (i := 10) hHeld ?_ | fail
        first | (refine held_t (i := 11) hHeld ?_; apply Exists.intro; refine ⟨fun wq hq => ?_, ?_⟩; (focus ((try dsimp only at hq); go_simp; (first | done | with_reducible rfl | fail)))) | refine held_s (i := 11) hHeld ?_ | fail
        first | (refine held_t (i := 12) hHeld ?_; apply Exists.intro; refine ⟨fun wq hq => ?_, ?_⟩; (focus ((try dsimp only at hq); go_simp; (first | done | with_reducible rfl | fail)))) | refine held_s (i := 12) hHeld ?_ | fail
        try simp only [Act.put, List.setIfInBounds_toArray, List.set_cons_zero, List.set_cons_succ]
        refine held_c 3 fun K hK => ?_
        go_simp
        skip
        refine hK.out _ _ (⟨⟨cell_later (bel1' _ _) hHeld.1.1, cell_later (bel1' _ _) hHeld.1.2.1, cell_later (bel1' _ _) hHeld.1.2.2.1, cell_later (bel1' _ _) hHeld.1.2.2.2.1, cell_later (bel1' _ _) hHeld.1.2.2.2.2⟩, cell_later (bel1' _ _) hHeld.2.1, cell_later (bel1' _ _) hHeld.2.2⟩) (fun hHeld => ?_)
        clear hK K
        try simp only [Act.put, List.setIfInBounds_toArray, List.set_cons_zero, List.set_cons_succ]
        refine held_c 4 fun K hK => ?_
        go_simp
        (go_at_call 118; refine (rcomp_at _ _ _ _ _).mono ?_; rintro e wy ⟨rfl, hby⟩; have hbz := Ext.trans' (Below.refl w9.heap.size w9).drew (Ext.trans' (bel1' w9.drew _) hby); have HBY := Lib.hid hbz; obtain ⟨b0, b1, b2, b3, bf⟩ := (HXB9.out.ext hbz).four; have HCY := Lib.hid (HCV.out.later hby))
        refine hK.out _ _ (⟨⟨cell_later hby hHeld.1.1, cell_later hby hHeld.1.2.1, cell_later hby hHeld.1.2.2.1, cell_later hby hHeld.1.2.2.2.1, cell_later hby hHeld.1.2.2.2.2⟩, cell_later hby hHeld.2.1, cell_later hby hHeld.2.2⟩) (fun hHeld => ?_)
        clear hK K
        try simp only [Act.put, List.setIfInBounds_toArray, List.set_cons_zero, List.set_cons_succ]
        refine held_c 13 fun K hK => ?_
        go_simp
        skip
        refine hK.out _ _ (⟨⟨far4 hHeld.1.1 hnQB _ _ _ _, far4 hHeld.1.2.1 hAB _ _ _ _, far4 hHeld.1.2.2.1 hAB _ _ _ _, far4 hHeld.1.2.2.2.1 hAB _ _ _ _, far4 hHeld.1.2.2.2.2 hAB _ _ _ _⟩, far4 hHeld.2.1 hrB _ _ _ _, far4 hHeld.2.2 hoB _ _ _ _⟩) (fun hHeld => ?_)
        clear hK K
        try simp only [Act.put, List.setIfInBounds_toArray, List.set_cons_zero, List.set_cons_succ]
        first | (refine held_t (i := 14) hHeld ?_; apply Exists.intro; refine ⟨fun wq hq => ?_, ?_⟩; (focus ((try dsimp only at hq); go_simp; (first | done | with_reducible rfl | fail)))) | refine held_s (i := 14) hHeld ?_ | fail
        try simp only [Act.put, List.setIfInBounds_toArray, List.set_cons_zero, List.set_cons_succ]
        refine wpAnyH_done (by kernel_rfl) ?_ _
        clear hHeld q0 q1 q2 q3 q4 qf a0 a1 a2 a3 af o1 g0 g1 g2
        go_wp2
        refine bodyPost_ret (v := .tuple #[.agg #[.int .i64 2, .int .i64 0, .string ⟨q.1.text.toArray⟩, .slice (some ⟨w9.drew.heap.size, 0, none⟩) 1 1], .int .i64 ol]) (by rw [results_cell2' rfl]; go_simp) rfl ?_
        refine rdone (t := .mk 2 0 (ba q.1.text) [t8]) (HT9.out.trans (Turn.below HBY.out)) ?_ HMd.out hwB HDB9.out HMB9.out HCY.out (fun p s' hp => ?_)
        · rw [HXA.out, dahead_map]
          simp only [HSR.out]
          exact HS9.out.later HBY.out
        · rw [HXA.out] at hp
          obtain ⟨q', hq1, hq2⟩ := dahead_some hp
          simp only [HSR.out] at hq1
          obtain ⟨e1, _⟩ := HX8.out q' s' hq1
          rw [hq2, e1]
          exact ⟨rfl, rfl⟩
end Go.Proofs.YtobdhcaoeholhaaGreatDoor
