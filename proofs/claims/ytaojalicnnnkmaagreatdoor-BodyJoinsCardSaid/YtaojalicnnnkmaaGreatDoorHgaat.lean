import Derived.Test.YtaojalicnnnkmaaGreatDoorHgaas
set_option linter.unusedVariables false
set_option linter.unusedSimpArgs false
/- The project's reader: named, primary. -/
namespace Go.Proofs.YtaojalicnnnkmaaGreatDoor
open Go.Shelf Go.RowKit
set_option linter.unusedVariables false

theorem named_at {xs : List O} {n : Nat} (ih : IHT xs n) {D M : Nat → Bool} {w : World} {rb : Nat} {s : RS} (h : St D M w rb xs s) (hlt : s.rest.length < n) (q : TokP) (hq : tokOk q) (hqk : q.1.kind = 1 ∨ q.1.kind = 2) (most : Int) :
    Calls Tryz.prog 96 #[.pointer (some ⟨rb, 0, none⟩), tkVal q, .int .i64 most] w (TPost D M w rb xs (namedR (preO xs) (betO xs) (TERMX xs) q most s)) := by
  unfold namedR
  cases hm : isMinusR q (headR s) with
  | true =>
    rw [if_pos rfl]
    exact named_minus h q hq most hm
  | false =>
    rw [if_neg (by decide)]
    cases ho : q.1.opens with
    | true =>
      rw [if_pos rfl]
      exact named_opens ih h hlt q hq most hm ho
    | false =>
      rw [if_neg (by decide)]
      by_cases hk : q.1.kind = 2
      · rw [if_pos hk]
        exact named_quoted h q hq most hm ho hk
      · rw [if_neg hk]
        have hk1 : q.1.kind = 1 := hqk.resolve_right hk
        obtain ⟨⟨⟨pn, pk, pl⟩, pg⟩, hpre⟩ : ∃ y, oneB xs q.1.text 1 = y := ⟨_, rfl⟩
        obtain ⟨⟨⟨bn, bk, bv⟩, bg⟩, hbet⟩ : ∃ y, oneB xs q.1.text 2 = y := ⟨_, rfl⟩
        have e1 : preO xs q.1.text = (⟨pn, pk, pl⟩, pg) := hpre
        have e2 : betO xs q.1.text = (⟨bn, bk, bv⟩, bg) := hbet
        unfold isAheadR
        rw [e1, e2]
        cases pg with
        | false =>
          rw [if_neg (by simp)]
          exact named_plain_a ih h hlt q hq most hm ho hk1 pn pk bn bk pl bv false rfl bg hpre hbet
        | true =>
          by_cases hle : pl ≤ most
          · cases hb : beginsR (preO xs) (betO xs) (headR s) with
            | true =>
              rw [if_pos (by simp [hle])]
              exact named_ahead ih h hlt q hq most hm ho hk1 pn pk pl hpre hle hb
            | false =>
              rw [if_neg (by simp)]
              exact named_plain_c ih h hlt q hq most hm ho hk1 pn pk bn bk pl bv true rfl hle hb bg hpre hbet
          · rw [if_neg (by simp [hle])]
            exact named_plain_b ih h hlt q hq most hm ho hk1 pn pk bn bk pl bv true rfl hle bg hpre hbet
end Go.Proofs.YtaojalicnnnkmaaGreatDoor
/- The project's reader: primary. -/
namespace Go.Proofs.YtaojalicnnnkmaaGreatDoor
open Go.Shelf Go.RowKit
set_option linter.unusedVariables false

set_option maxHeartbeats 2000000 in
theorem prim_name1 {xs : List O} {n : Nat} (ih : IHT xs n) {D M : Nat → Bool} {w : World} {rb : Nat} {s : RS} (h : St D M w rb xs s) (hlt : s.rest.length < n + 1) (q : TokP) (hq : headR s = q) (most : Int) (hk : q.1.kind = 1) :
    Calls Tryz.prog 79 #[.pointer (some ⟨rb, 0, none⟩), .int .i64 most] w (TPost D M w rb xs (namedR (preO xs) (betO xs) (TERMX xs) q most (dropR s) : Out TL)) := by
  obtain ⟨X, hX⟩ : ∃ X : Out TL, (namedR (preO xs) (betO xs) (TERMX xs) q most (dropR s) : Out TL) = X := ⟨_, rfl⟩
  rw [hX]
  have HXX := Lib.hid hX
  have htok := h.nice.head
  rw [hq] at htok
  have HTOK := Lib.hid htok
  have HNice := Lib.hid h.nice
  have HHQ := Lib.hid hq
  obtain ⟨w1, hw1, hb1, hz1, hx1⟩ := box_new w #[.int .i64 0, .int .i64 0, .string ⟨#[]⟩, .slice none 0 0] 31
  have h1 := h.box hb1 (Nat.le_refl _) hx1.lt
  have HMd := Lib.hid h.md
  have HMB := Lib.hid (Old.out h (Nat.le_refl _))
  have HT1 := Lib.hid (Turn.into (D := D) (M := M) hb1 (Nat.le_refl _))
  have hTK := take_at h1
  rw [hq] at hTK
  have HTK := Lib.hid hTK
  have HX1 := Lib.hid hx1
  have HIH := Lib.hid ih
  have HLT := Lib.hid hlt
  have hne : s.rest ≠ [] := head_ne (by rw [hq]; omega)
  have hdl : (dropR s).rest.length < n := by have := dropS_lt hne; omega
  have HDL := Lib.hid hdl
  have HNE := Lib.hid hne
  clear hne hdl
  have k1 : ((q.1.kind : Int) == 1) = true := by rw [hk]; rfl
  have HKK := Lib.hid (show q.1.kind = 1 ∨ q.1.kind = 2 from by omega)
  clear hk
  clear h hX hlt ih h1 hx1 hb1 hz1 hTK hq htok
  go_enter Tryz.func79, Tryz.ntmps79
  go_wp2_with fail
  (try rw [hw1])
  clear hw1
  (go_wp2_with fail; go_fit (HTK.out); rintro e w2 ⟨rfl, hs2, ht2⟩)
  obtain ⟨w3, hw3, hb3, hz3, hx3⟩ := box_new w2 #[.int .i64 (q.1.kind : Int), .string ⟨q.1.text.toArray⟩, .int .i64 (q.1.n : Int), .bool q.1.opens, .int .i64 (q.2 : Int)] 125
  have HS3 := Lib.hid (hs2.later hb3)
  have HT3 := Lib.hid ((HT1.out.trans ht2).trans (Turn.below hb3))
  have HX3 := Lib.hid ((HX1.out.turn ht2 HMB.out).ext hb3)
  obtain ⟨d0, d1, d2, d3, d4, df⟩ := hx3.five
  obtain ⟨r0, r1, r2, r3, rf⟩ := HX3.out.four
  clear hs2 ht2 hb3 hx3 hz3 HTK
  have hNA := named_at HIH.out HS3.out HDL.out q HTOK.out HKK.out most
  rw [HXX.out] at hNA
  have HNA := Lib.hid hNA
  clear hNA
  go_wp2_with fail
  (try rw [hw3])
  clear hw3
  (go_wp2_with fail; go_fit (HNA.out); rintro e w4 ⟨D4, M4, t4, v4, lv4, ok, rfl, htv, ht4, ho4, hok4, hsm4⟩)
  obtain ⟨k4, n4, s4, a4, m4, c4, rfl⟩ := htv.full
  have HDB := Lib.hid ((ht4.dd _ HX3.out.lt).trans (plusB_self D _))
  have HMB4 := Lib.hid ((ht4.mm _ HX3.out.lt).trans HMB.out)
  obtain ⟨r0, r1, r2, r3, rf⟩ := (HX3.out.turn ht4 HMB.out).four
  have HX4 := Lib.hid (HX3.out.turn ht4 HMB.out)
  have HT4 := Lib.hid (HT3.out.trans ht4)
  have HV4 := Lib.hid htv
  have HO4 := Lib.hid ho4
  have HSM := Lib.hid hsm4
  clear htv ht4 ho4 hsm4 HNA
  cases X with
  | none =>
    obtain rfl : ok = false := hok4
    go_wp2
    refine bodyPost_ret (v := .tuple #[.agg #[.int .i64 k4, .int .i64 n4, .string s4, .slice a4 m4 c4], .int .i64 lv4, .bool false]) (by rw [results_cell3 rfl]; go_simp) rfl ?_
    exact tdone_none HT4.out HO4.out HMd.out (Nat.le_refl _) HDB.out HV4.out rfl
  | some p =>
    obtain ⟨⟨tq, lq⟩, s1⟩ := p
    obtain rfl : ok = true := hok4
    obtain ⟨rfl, rfl, hs4⟩ := HSM.out _ _ rfl
    have HS4 := Lib.hid hs4
    clear hs4
    go_wp2
    refine bodyPost_ret (v := .tuple #[.agg #[.int .i64 k4, .int .i64 n4, .string s4, .slice a4 m4 c4], .int .i64 lv4, .bool true]) (by rw [results_cell3 rfl]; go_simp) rfl ?_
    exact tdone_some HT4.out HS4.out HMd.out (Nat.le_refl _) HDB.out HMB4.out HV4.out rfl
set_option maxHeartbeats 2000000 in
theorem prim_name2 {xs : List O} {n : Nat} (ih : IHT xs n) {D M : Nat → Bool} {w : World} {rb : Nat} {s : RS} (h : St D M w rb xs s) (hlt : s.rest.length < n + 1) (q : TokP) (hq : headR s = q) (most : Int) (hk : q.1.kind = 2) :
    Calls Tryz.prog 79 #[.pointer (some ⟨rb, 0, none⟩), .int .i64 most] w (TPost D M w rb xs (namedR (preO xs) (betO xs) (TERMX xs) q most (dropR s) : Out TL)) := by
  obtain ⟨X, hX⟩ : ∃ X : Out TL, (namedR (preO xs) (betO xs) (TERMX xs) q most (dropR s) : Out TL) = X := ⟨_, rfl⟩
  rw [hX]
  have HXX := Lib.hid hX
  have htok := h.nice.head
  rw [hq] at htok
  have HTOK := Lib.hid htok
  have HNice := Lib.hid h.nice
  have HHQ := Lib.hid hq
  obtain ⟨w1, hw1, hb1, hz1, hx1⟩ := box_new w #[.int .i64 0, .int .i64 0, .string ⟨#[]⟩, .slice none 0 0] 31
  have h1 := h.box hb1 (Nat.le_refl _) hx1.lt
  have HMd := Lib.hid h.md
  have HMB := Lib.hid (Old.out h (Nat.le_refl _))
  have HT1 := Lib.hid (Turn.into (D := D) (M := M) hb1 (Nat.le_refl _))
  have hTK := take_at h1
  rw [hq] at hTK
  have HTK := Lib.hid hTK
  have HX1 := Lib.hid hx1
  have HIH := Lib.hid ih
  have HLT := Lib.hid hlt
  have hne : s.rest ≠ [] := head_ne (by rw [hq]; omega)
  have hdl : (dropR s).rest.length < n := by have := dropS_lt hne; omega
  have HDL := Lib.hid hdl
  have HNE := Lib.hid hne
  clear hne hdl
  have k1 : ((q.1.kind : Int) == 1) = false := beq_false_of_ne (by omega)
  have k2 : ((q.1.kind : Int) == 2) = true := by rw [hk]; rfl
  have HKK := Lib.hid (show q.1.kind = 1 ∨ q.1.kind = 2 from by omega)
  clear hk
  clear h hX hlt ih h1 hx1 hb1 hz1 hTK hq htok
  go_enter Tryz.func79, Tryz.ntmps79
  go_wp2_with fail
  (try rw [hw1])
  clear hw1
  (go_wp2_with fail; go_fit (HTK.out); rintro e w2 ⟨rfl, hs2, ht2⟩)
  obtain ⟨w3, hw3, hb3, hz3, hx3⟩ := box_new w2 #[.int .i64 (q.1.kind : Int), .string ⟨q.1.text.toArray⟩, .int .i64 (q.1.n : Int), .bool q.1.opens, .int .i64 (q.2 : Int)] 125
  have HS3 := Lib.hid (hs2.later hb3)
  have HT3 := Lib.hid ((HT1.out.trans ht2).trans (Turn.below hb3))
  have HX3 := Lib.hid ((HX1.out.turn ht2 HMB.out).ext hb3)
  obtain ⟨d0, d1, d2, d3, d4, df⟩ := hx3.five
  obtain ⟨r0, r1, r2, r3, rf⟩ := HX3.out.four
  clear hs2 ht2 hb3 hx3 hz3 HTK
  have hNA := named_at HIH.out HS3.out HDL.out q HTOK.out HKK.out most
  rw [HXX.out] at hNA
  have HNA := Lib.hid hNA
  clear hNA
  go_wp2_with fail
  (try rw [hw3])
  clear hw3
  (go_wp2_with fail; go_fit (HNA.out); rintro e w4 ⟨D4, M4, t4, v4, lv4, ok, rfl, htv, ht4, ho4, hok4, hsm4⟩)
  obtain ⟨k4, n4, s4, a4, m4, c4, rfl⟩ := htv.full
  have HDB := Lib.hid ((ht4.dd _ HX3.out.lt).trans (plusB_self D _))
  have HMB4 := Lib.hid ((ht4.mm _ HX3.out.lt).trans HMB.out)
  obtain ⟨r0, r1, r2, r3, rf⟩ := (HX3.out.turn ht4 HMB.out).four
  have HX4 := Lib.hid (HX3.out.turn ht4 HMB.out)
  have HT4 := Lib.hid (HT3.out.trans ht4)
  have HV4 := Lib.hid htv
  have HO4 := Lib.hid ho4
  have HSM := Lib.hid hsm4
  clear htv ht4 ho4 hsm4 HNA
  cases X with
  | none =>
    obtain rfl : ok = false := hok4
    go_wp2
    refine bodyPost_ret (v := .tuple #[.agg #[.int .i64 k4, .int .i64 n4, .string s4, .slice a4 m4 c4], .int .i64 lv4, .bool false]) (by rw [results_cell3 rfl]; go_simp) rfl ?_
    exact tdone_none HT4.out HO4.out HMd.out (Nat.le_refl _) HDB.out HV4.out rfl
  | some p =>
    obtain ⟨⟨tq, lq⟩, s1⟩ := p
    obtain rfl : ok = true := hok4
    obtain ⟨rfl, rfl, hs4⟩ := HSM.out _ _ rfl
    have HS4 := Lib.hid hs4
    clear hs4
    go_wp2
    refine bodyPost_ret (v := .tuple #[.agg #[.int .i64 k4, .int .i64 n4, .string s4, .slice a4 m4 c4], .int .i64 lv4, .bool true]) (by rw [results_cell3 rfl]; go_simp) rfl ?_
    exact tdone_some HT4.out HS4.out HMd.out (Nat.le_refl _) HDB.out HMB4.out HV4.out rfl
set_option maxHeartbeats 2000000 in
theorem prim_var {xs : List O} {n : Nat} (ih : IHT xs n) {D M : Nat → Bool} {w : World} {rb : Nat} {s : RS} (h : St D M w rb xs s) (hlt : s.rest.length < n + 1) (q : TokP) (hq : headR s = q) (most : Int) (hk : q.1.kind = 3) :
    Calls Tryz.prog 79 #[.pointer (some ⟨rb, 0, none⟩), .int .i64 most] w (TPost D M w rb xs (some (((varR q.1.text (dropR s)).1, 0), (varR q.1.text (dropR s)).2)  : Out TL)) := by
  obtain ⟨X, hX⟩ : ∃ X : Out TL, (some (((varR q.1.text (dropR s)).1, 0), (varR q.1.text (dropR s)).2)  : Out TL) = X := ⟨_, rfl⟩
  rw [hX]
  have HXX := Lib.hid hX
  have htok := h.nice.head
  rw [hq] at htok
  have HTOK := Lib.hid htok
  have HNice := Lib.hid h.nice
  have HHQ := Lib.hid hq
  obtain ⟨w1, hw1, hb1, hz1, hx1⟩ := box_new w #[.int .i64 0, .int .i64 0, .string ⟨#[]⟩, .slice none 0 0] 31
  have h1 := h.box hb1 (Nat.le_refl _) hx1.lt
  have HMd := Lib.hid h.md
  have HMB := Lib.hid (Old.out h (Nat.le_refl _))
  have HT1 := Lib.hid (Turn.into (D := D) (M := M) hb1 (Nat.le_refl _))
  have hTK := take_at h1
  rw [hq] at hTK
  have HTK := Lib.hid hTK
  have HX1 := Lib.hid hx1
  have HIH := Lib.hid ih
  have HLT := Lib.hid hlt
  have hne : s.rest ≠ [] := head_ne (by rw [hq]; omega)
  have hdl : (dropR s).rest.length < n := by have := dropS_lt hne; omega
  have HDL := Lib.hid hdl
  have HNE := Lib.hid hne
  clear hne hdl
  have k1 : ((q.1.kind : Int) == 1) = false := beq_false_of_ne (by omega)
  have k2 : ((q.1.kind : Int) == 2) = false := beq_false_of_ne (by omega)
  have k3 : ((q.1.kind : Int) == 3) = true := by rw [hk]; rfl
  clear hk
  clear h hX hlt ih h1 hx1 hb1 hz1 hTK hq htok
  go_enter Tryz.func79, Tryz.ntmps79
  go_wp2_with fail
  (try rw [hw1])
  clear hw1
  (go_wp2_with fail; go_fit (HTK.out); rintro e w2 ⟨rfl, hs2, ht2⟩)
  obtain ⟨w3, hw3, hb3, hz3, hx3⟩ := box_new w2 #[.int .i64 (q.1.kind : Int), .string ⟨q.1.text.toArray⟩, .int .i64 (q.1.n : Int), .bool q.1.opens, .int .i64 (q.2 : Int)] 125
  have HS3 := Lib.hid (hs2.later hb3)
  have HT3 := Lib.hid ((HT1.out.trans ht2).trans (Turn.below hb3))
  have HX3 := Lib.hid ((HX1.out.turn ht2 HMB.out).ext hb3)
  obtain ⟨d0, d1, d2, d3, d4, df⟩ := hx3.five
  obtain ⟨r0, r1, r2, r3, rf⟩ := HX3.out.four
  clear hs2 ht2 hb3 hx3 hz3 HTK
  have HVA := Lib.hid (variable_at HS3.out q.1.text (Nice.next HS3.out.nice HNE.out HNice.out) (Nice.var _ HS3.out.nice HNE.out HNice.out))
  go_wp2_with fail
  (try rw [hw3])
  clear hw3
  (go_wp2_with fail; go_fit (HVA.out); rintro e w4 ⟨D4, M4, nv, ev, hnv, rfl, hs4, ht4⟩)
  have HDB := Lib.hid ((ht4.dd _ HX3.out.lt).trans (plusB_self D _))
  have HMB4 := Lib.hid ((ht4.mm _ HX3.out.lt).trans HMB.out)
  obtain ⟨r0, r1, r2, r3, rf⟩ := (HX3.out.turn ht4 HMB.out).four
  have HT4 := Lib.hid (HT3.out.trans ht4)
  have HS4 := Lib.hid hs4
  have HEV := Lib.hid ev
  have HNV := Lib.hid hnv
  clear hs4 ht4 HVA ev hnv
  go_wp2
  refine bodyPost_ret (v := .tuple #[.agg #[.int .i64 0, .int .i64 (nv : Int), .string ⟨#[]⟩, .slice none 0 0], .int .i64 0, .bool true]) (by rw [results_cell3 rfl]; go_simp) rfl ?_
  exact tdone_some HT4.out HS4.out HMd.out (Nat.le_refl _) HDB.out HMB4.out (vT_at _ nv (by have := HNV.out; omega)) (by rw [← HXX.out, HEV.out])
set_option maxHeartbeats 2000000 in
theorem prim_int {xs : List O} {n : Nat} (ih : IHT xs n) {D M : Nat → Bool} {w : World} {rb : Nat} {s : RS} (h : St D M w rb xs s) (hlt : s.rest.length < n + 1) (q : TokP) (hq : headR s = q) (most : Int) (hk : q.1.kind = 4) :
    Calls Tryz.prog 79 #[.pointer (some ⟨rb, 0, none⟩), .int .i64 most] w (TPost D M w rb xs (some ((iT (q.1.n : Int), 0), dropR s) : Out TL)) := by
  obtain ⟨X, hX⟩ : ∃ X : Out TL, (some ((iT (q.1.n : Int), 0), dropR s) : Out TL) = X := ⟨_, rfl⟩
  rw [hX]
  have HXX := Lib.hid hX
  have htok := h.nice.head
  rw [hq] at htok
  have HTOK := Lib.hid htok
  have HNice := Lib.hid h.nice
  have HHQ := Lib.hid hq
  obtain ⟨w1, hw1, hb1, hz1, hx1⟩ := box_new w #[.int .i64 0, .int .i64 0, .string ⟨#[]⟩, .slice none 0 0] 31
  have h1 := h.box hb1 (Nat.le_refl _) hx1.lt
  have HMd := Lib.hid h.md
  have HMB := Lib.hid (Old.out h (Nat.le_refl _))
  have HT1 := Lib.hid (Turn.into (D := D) (M := M) hb1 (Nat.le_refl _))
  have hTK := take_at h1
  rw [hq] at hTK
  have HTK := Lib.hid hTK
  have HX1 := Lib.hid hx1
  have HIH := Lib.hid ih
  have HLT := Lib.hid hlt
  have k1 : ((q.1.kind : Int) == 1) = false := beq_false_of_ne (by omega)
  have k2 : ((q.1.kind : Int) == 2) = false := beq_false_of_ne (by omega)
  have k3 : ((q.1.kind : Int) == 3) = false := beq_false_of_ne (by omega)
  have k4 : ((q.1.kind : Int) == 4) = true := by rw [hk]; rfl
  clear hk
  clear h hX hlt ih h1 hx1 hb1 hz1 hTK hq htok
  go_enter Tryz.func79, Tryz.ntmps79
  go_wp2_with fail
  (try rw [hw1])
  clear hw1
  (go_wp2_with fail; go_fit (HTK.out); rintro e w2 ⟨rfl, hs2, ht2⟩)
  obtain ⟨w3, hw3, hb3, hz3, hx3⟩ := box_new w2 #[.int .i64 (q.1.kind : Int), .string ⟨q.1.text.toArray⟩, .int .i64 (q.1.n : Int), .bool q.1.opens, .int .i64 (q.2 : Int)] 125
  have HS3 := Lib.hid (hs2.later hb3)
  have HT3 := Lib.hid ((HT1.out.trans ht2).trans (Turn.below hb3))
  have HX3 := Lib.hid ((HX1.out.turn ht2 HMB.out).ext hb3)
  obtain ⟨d0, d1, d2, d3, d4, df⟩ := hx3.five
  obtain ⟨r0, r1, r2, r3, rf⟩ := HX3.out.four
  clear hs2 ht2 hb3 hx3 hz3 HTK
  go_wp2_with fail
  (try rw [hw3])
  clear hw3
  (go_wp2_with fail; go_fit (int_at _ (q.1.n : Int)); rintro e w4 ⟨rfl, hb4⟩)
  obtain ⟨r0, r1, r2, r3, rf⟩ := (HX3.out.ext hb4).four
  have HB4 := Lib.hid hb4
  clear hb4
  go_wp2
  refine bodyPost_ret (v := .tuple #[.agg #[.int .i64 1, .int .i64 (q.1.n : Int), .string ⟨#[]⟩, .slice none 0 0], .int .i64 0, .bool true]) (by rw [results_cell3 rfl]; go_simp) rfl ?_
  exact tdone_some (HT3.out.trans (Turn.below HB4.out)) (HS3.out.later HB4.out) HMd.out (Nat.le_refl _) (plusB_self D _) HMB.out (leaf_tm _ i64_1 (by unfold I64; have := HTOK.out.1; omega) (by decide)) HXX.out.symm
set_option maxHeartbeats 2000000 in
theorem prim_mark {xs : List O} {n : Nat} (ih : IHT xs n) {D M : Nat → Bool} {w : World} {rb : Nat} {s : RS} (h : St D M w rb xs s) (hlt : s.rest.length < n + 1) (q : TokP) (hq : headR s = q) (most : Int) (hk : q.1.kind = 5) :
    Calls Tryz.prog 79 #[.pointer (some ⟨rb, 0, none⟩), .int .i64 most] w (TPost D M w rb xs (zeroR (bracketR (TERMX xs) q.1.text (dropR s)) : Out TL)) := by
  obtain ⟨X, hX⟩ : ∃ X : Out TL, (zeroR (bracketR (TERMX xs) q.1.text (dropR s)) : Out TL) = X := ⟨_, rfl⟩
  rw [hX]
  have HXX := Lib.hid hX
  have htok := h.nice.head
  rw [hq] at htok
  have HTOK := Lib.hid htok
  have HNice := Lib.hid h.nice
  have HHQ := Lib.hid hq
  obtain ⟨w1, hw1, hb1, hz1, hx1⟩ := box_new w #[.int .i64 0, .int .i64 0, .string ⟨#[]⟩, .slice none 0 0] 31
  have h1 := h.box hb1 (Nat.le_refl _) hx1.lt
  have HMd := Lib.hid h.md
  have HMB := Lib.hid (Old.out h (Nat.le_refl _))
  have HT1 := Lib.hid (Turn.into (D := D) (M := M) hb1 (Nat.le_refl _))
  have hTK := take_at h1
  rw [hq] at hTK
  have HTK := Lib.hid hTK
  have HX1 := Lib.hid hx1
  have HIH := Lib.hid ih
  have HLT := Lib.hid hlt
  have hne : s.rest ≠ [] := head_ne (by rw [hq]; omega)
  have hdl : (dropR s).rest.length < n := by have := dropS_lt hne; omega
  have HDL := Lib.hid hdl
  have HNE := Lib.hid hne
  clear hne hdl
  have k1 : ((q.1.kind : Int) == 1) = false := beq_false_of_ne (by omega)
  have k2 : ((q.1.kind : Int) == 2) = false := beq_false_of_ne (by omega)
  have k3 : ((q.1.kind : Int) == 3) = false := beq_false_of_ne (by omega)
  have k4 : ((q.1.kind : Int) == 4) = false := beq_false_of_ne (by omega)
  have k5 : ((q.1.kind : Int) == 5) = true := by rw [hk]; rfl
  clear hk
  clear h hX hlt ih h1 hx1 hb1 hz1 hTK hq htok
  go_enter Tryz.func79, Tryz.ntmps79
  go_wp2_with fail
  (try rw [hw1])
  clear hw1
  (go_wp2_with fail; go_fit (HTK.out); rintro e w2 ⟨rfl, hs2, ht2⟩)
  obtain ⟨w3, hw3, hb3, hz3, hx3⟩ := box_new w2 #[.int .i64 (q.1.kind : Int), .string ⟨q.1.text.toArray⟩, .int .i64 (q.1.n : Int), .bool q.1.opens, .int .i64 (q.2 : Int)] 125
  have HS3 := Lib.hid (hs2.later hb3)
  have HT3 := Lib.hid ((HT1.out.trans ht2).trans (Turn.below hb3))
  have HX3 := Lib.hid ((HX1.out.turn ht2 HMB.out).ext hb3)
  obtain ⟨d0, d1, d2, d3, d4, df⟩ := hx3.five
  obtain ⟨r0, r1, r2, r3, rf⟩ := HX3.out.four
  clear hs2 ht2 hb3 hx3 hz3 HTK
  have HBR := Lib.hid (bracketed_at HIH.out HS3.out HDL.out q.1.text)
  go_wp2_with fail
  (try rw [hw3])
  clear hw3
  (go_wp2_with fail; go_fit (HBR.out); rintro e w4 ⟨D4, M4, t4, v4, ok, rfl, htv, ht4, ho4, hok4, hsm4⟩)
  obtain ⟨k4, n4, s4, a4, m4, c4, rfl⟩ := htv.full
  have HDB := Lib.hid ((ht4.dd _ HX3.out.lt).trans (plusB_self D _))
  have HMB4 := Lib.hid ((ht4.mm _ HX3.out.lt).trans HMB.out)
  obtain ⟨r0, r1, r2, r3, rf⟩ := (HX3.out.turn ht4 HMB.out).four
  have HX4 := Lib.hid (HX3.out.turn ht4 HMB.out)
  have HT4 := Lib.hid (HT3.out.trans ht4)
  have HV4 := Lib.hid htv
  have HO4 := Lib.hid ho4
  have HSM := Lib.hid hsm4
  have HOK := Lib.hid hok4
  have HT5 := Lib.hid (HT4.out.set4 (b := w.heap.size) (Or.inl (Nat.le_refl _)) (.int .i64 k4) (.int .i64 n4) (.string s4) (.slice a4 m4 c4))
  have HV5 := Lib.hid (HV4.out.put4 HDB.out (.int .i64 k4) (.int .i64 n4) (.string s4) (.slice a4 m4 c4))
  have HO5 := Lib.hid (HO4.out.put4 w.heap.size (.int .i64 k4) (.int .i64 n4) (.string s4) (.slice a4 m4 c4))
  have HX5 := Lib.hid (HX4.out.all4 (.int .i64 k4) (.int .i64 n4) (.string s4) (.slice a4 m4 c4))
  clear htv ht4 ho4 hsm4 HBR hok4
  obtain ⟨w5, hw5⟩ : ∃ w5, set4 w4 w.heap.size (.int .i64 k4) (.int .i64 n4) (.string s4) (.slice a4 m4 c4) = w5 := ⟨_, rfl⟩
  rw [hw5] at HT5 HV5 HO5 HX5
  obtain ⟨p0, p1, p2, p3, pf⟩ := HX5.out.four
  cases hB : bracketR (TERMX xs) q.1.text (dropR s) with
  | none =>
    obtain rfl : ok = false := by rw [HOK.out, hB]; rfl
    have HN := Lib.hid (show X = none by rw [← HXX.out, hB]; rfl)
    clear hB
    go_wp2_with fail
    (try rw [hw5])
    clear hw5
    go_wp2
    refine bodyPost_ret (v := .tuple #[.agg #[.int .i64 k4, .int .i64 n4, .string s4, .slice a4 m4 c4], .int .i64 0, .bool false]) (by rw [results_cell3 rfl]; go_simp) rfl ?_
    exact tdone_none HT5.out HO5.out HMd.out (Nat.le_refl _) HDB.out HV5.out HN.out
  | some p =>
    obtain ⟨tq, s1⟩ := p
    obtain rfl : ok = true := by rw [HOK.out, hB]; rfl
    obtain ⟨rfl, hs4⟩ := HSM.out _ _ hB
    have HN := Lib.hid (show X = some ((t4, 0), s1) by rw [← HXX.out, hB]; rfl)
    have hs5 := hs4.put4 HDB.out HMB4.out (.int .i64 k4) (.int .i64 n4) (.string s4) (.slice a4 m4 c4)
    rw [hw5] at hs5
    have HS5 := Lib.hid hs5
    clear hs4 hB hs5
    go_wp2_with fail
    (try rw [hw5])
    clear hw5
    go_wp2
    refine bodyPost_ret (v := .tuple #[.agg #[.int .i64 k4, .int .i64 n4, .string s4, .slice a4 m4 c4], .int .i64 0, .bool true]) (by rw [results_cell3 rfl]; go_simp) rfl ?_
    exact tdone_some HT5.out HS5.out HMd.out (Nat.le_refl _) HDB.out HMB4.out HV5.out HN.out
set_option maxHeartbeats 2000000 in
theorem prim_none {xs : List O} {n : Nat} (ih : IHT xs n) {D M : Nat → Bool} {w : World} {rb : Nat} {s : RS} (h : St D M w rb xs s) (hlt : s.rest.length < n + 1) (q : TokP) (hq : headR s = q) (most : Int) (h1' : ¬ (q.1.kind = 1 ∨ q.1.kind = 2)) (h3 : ¬ q.1.kind = 3) (h4 : ¬ q.1.kind = 4) (h5 : ¬ q.1.kind = 5) :
    Calls Tryz.prog 79 #[.pointer (some ⟨rb, 0, none⟩), .int .i64 most] w (TPost D M w rb xs (none : Out TL)) := by
  obtain ⟨X, hX⟩ : ∃ X : Out TL, (none : Out TL) = X := ⟨_, rfl⟩
  rw [hX]
  have HXX := Lib.hid hX
  have htok := h.nice.head
  rw [hq] at htok
  have HTOK := Lib.hid htok
  have HNice := Lib.hid h.nice
  have HHQ := Lib.hid hq
  obtain ⟨w1, hw1, hb1, hz1, hx1⟩ := box_new w #[.int .i64 0, .int .i64 0, .string ⟨#[]⟩, .slice none 0 0] 31
  have h1 := h.box hb1 (Nat.le_refl _) hx1.lt
  have HMd := Lib.hid h.md
  have HMB := Lib.hid (Old.out h (Nat.le_refl _))
  have HT1 := Lib.hid (Turn.into (D := D) (M := M) hb1 (Nat.le_refl _))
  have hTK := take_at h1
  rw [hq] at hTK
  have HTK := Lib.hid hTK
  have HX1 := Lib.hid hx1
  have HIH := Lib.hid ih
  have HLT := Lib.hid hlt
  have k1 : ((q.1.kind : Int) == 1) = false := beq_false_of_ne (by omega)
  have k2 : ((q.1.kind : Int) == 2) = false := beq_false_of_ne (by omega)
  have k3 : ((q.1.kind : Int) == 3) = false := beq_false_of_ne (by omega)
  have k4 : ((q.1.kind : Int) == 4) = false := beq_false_of_ne (by omega)
  have k5 : ((q.1.kind : Int) == 5) = false := beq_false_of_ne (by omega)
  clear h1' h3 h4 h5
  clear h hX hlt ih h1 hx1 hb1 hz1 hTK hq htok
  go_enter Tryz.func79, Tryz.ntmps79
  go_wp2_with fail
  (try rw [hw1])
  clear hw1
  (go_wp2_with fail; go_fit (HTK.out); rintro e w2 ⟨rfl, hs2, ht2⟩)
  obtain ⟨w3, hw3, hb3, hz3, hx3⟩ := box_new w2 #[.int .i64 (q.1.kind : Int), .string ⟨q.1.text.toArray⟩, .int .i64 (q.1.n : Int), .bool q.1.opens, .int .i64 (q.2 : Int)] 125
  have HS3 := Lib.hid (hs2.later hb3)
  have HT3 := Lib.hid ((HT1.out.trans ht2).trans (Turn.below hb3))
  have HX3 := Lib.hid ((HX1.out.turn ht2 HMB.out).ext hb3)
  obtain ⟨d0, d1, d2, d3, d4, df⟩ := hx3.five
  obtain ⟨r0, r1, r2, r3, rf⟩ := HX3.out.four
  clear hs2 ht2 hb3 hx3 hz3 HTK
  go_wp2_with fail
  (try rw [hw3])
  clear hw3
  go_wp2
  refine bodyPost_ret (v := .tuple #[.agg #[.int .i64 0, .int .i64 0, .string ⟨#[]⟩, .slice none 0 0], .int .i64 0, .bool false]) (by rw [results_cell3 rfl]; go_simp) rfl ?_
  exact tdone_none HT3.out HS3.out.okd HMd.out (Nat.le_refl _) (plusB_self D _) (leaf_tm _ (k := 0) (n := 0) (s := ⟨#[]⟩) i64_0 i64_0 (by decide)) HXX.out.symm
theorem primary_at {xs : List O} {n : Nat} (ih : IHT xs n) {D M : Nat → Bool} {w : World} {rb : Nat} {s : RS} (h : St D M w rb xs s) (hlt : s.rest.length < n + 1) (most : Int) :
    Calls Tryz.prog 79 #[.pointer (some ⟨rb, 0, none⟩), .int .i64 most] w (TPost D M w rb xs (primR (preO xs) (betO xs) (TERMX xs) most s)) := by
  unfold primR
  by_cases h1 : (headR s).1.kind = 1 ∨ (headR s).1.kind = 2
  · rw [if_pos h1]
    rcases h1 with h1 | h1
    · exact prim_name1 ih h hlt _ rfl most h1
    · exact prim_name2 ih h hlt _ rfl most h1
  · rw [if_neg h1]
    by_cases h3 : (headR s).1.kind = 3
    · rw [if_pos h3]; exact prim_var ih h hlt _ rfl most h3
    · rw [if_neg h3]
      by_cases h4 : (headR s).1.kind = 4
      · rw [if_pos h4]; exact prim_int ih h hlt _ rfl most h4
      · rw [if_neg h4]
        by_cases h5 : (headR s).1.kind = 5
        · rw [if_pos h5]; exact prim_mark ih h hlt _ rfl most h5
        · rw [if_neg h5]; exact prim_none ih h hlt _ rfl most h1 h3 h4 h5
end Go.Proofs.YtaojalicnnnkmaaGreatDoor
/- The project's reader: term, whole. -/
namespace Go.Proofs.YtaojalicnnnkmaaGreatDoor
open Go.Shelf Go.RowKit
set_option linter.unusedVariables false

theorem one_name {xs : List O} {n : List UInt8} {s : Int} {o : O} (h : oneB xs n s = (o, true)) : bl o.n = n := by
  unfold oneB at h
  rcases place_cases xs n s with ⟨hm, _⟩ | ⟨k, x, hm, hx, ha, _⟩
  · rw [hm] at h; simp at h
  · split at h
    · cases h
    · injection h with h _
      rw [hm] at h
      have e : xs[((k : Nat) : Int).toNat]! = x := by
        rw [List.getElem!_eq_getElem?_getD, show ((k : Nat) : Int).toNat = k by omega, hx]; rfl
      rw [e] at h
      subst h
      unfold isAt at ha
      simp only [Bool.and_eq_true, beq_iff_eq] at ha
      exact ha.1
theorem between_name {xs : List O} {q : TokP} {o : O} (h : betweenR (betO xs) q = (o, true)) : bl o.n = q.1.text := by
  unfold betweenR at h
  split at h
  · exact one_name h
  · cases h
def restLen (w : World) (rb : Nat) : Nat := match w.cell? ⟨rb, 1, none⟩ with
  | some (.slice _ m _) => m
  | _ => 0
theorem St.restLen {D M : Nat → Bool} {w : World} {rb : Nat} {xs : List O} {s : RS} (h : St D M w rb xs s) : restLen w rb = s.rest.length := by
  obtain ⟨vl, l1, l2⟩ := h.cl
  obtain ⟨a, c, rfl, _⟩ := l2
  unfold Go.Proofs.YtaojalicnnnkmaaGreatDoor.restLen
  rw [l1]
theorem Box.four_of {w : World} {b : Nat} {v0 v1 v2 v3 : Value} (h : Box w b [v0, v1, v2, v3]) : w.cell? ⟨b, 0, none⟩ = some v0 ∧ w.cell? ⟨b, 1, none⟩ = some v1 ∧ w.cell? ⟨b, 2, none⟩ = some v2 ∧ w.cell? ⟨b, 3, none⟩ = some v3 := ⟨h.cells 0 _ rfl, h.cells 1 _ rfl, h.cells 2 _ rfl, h.cells 3 _ rfl⟩
/-- Where the loop of term stands. -/
def TLoop (D M : Nat → Bool) (w : World) (rb B : Nat) (xs : List O) (n : Nat) (most : Int) (X : Out TL) (wr : World) (D1 M1 : Nat → Bool) (t : Tm) (lv : Int) (v0 v1 v2 v3 : Value) (ok : Bool) : Prop :=
  TmV (hide D1 wr) t (.agg #[v0, v1, v2, v3]) ∧ Turn D M D1 M1 w wr ∧ Okd D1 M1 wr ∧ Box wr B [v0, v1, v2, v3] ∧ D1 B = true ∧ M1 B = false ∧
    ((ok = true ∧ ∃ s1, St D1 M1 wr rb xs s1 ∧ LOOP (preO xs) (betO xs) most (t, lv) s1 = X ∧ s1.rest.length < n + 1) ∨ (ok = false ∧ X = none))
set_option maxHeartbeats 8000000 in
theorem term_step {xs : List O} {n : Nat} (ih : IHT xs n) {D M : Nat → Bool} {w : World} {rb : Nat} {s : RS} (h : St D M w rb xs s) (hlt : s.rest.length < n + 1) (most : Int) :
    Calls Tryz.prog 65 #[.pointer (some ⟨rb, 0, none⟩), .int .i64 most] w (TPost D M w rb xs (TERMX xs most s)) := by
  obtain ⟨X, hX⟩ : ∃ X, TERMX xs most s = X := ⟨_, rfl⟩
  rw [hX]
  have HXX := Lib.hid hX
  obtain ⟨w1, hw1, hb1, hz1, hx1⟩ := box_new w #[.int .i64 0, .int .i64 0, .string ⟨#[]⟩, .slice none 0 0] 31
  have h1 := h.box hb1 (Nat.le_refl _) hx1.lt
  have HMd := Lib.hid h.md
  have HMB := Lib.hid (Old.out h (Nat.le_refl _))
  have HT1 := Lib.hid (Turn.into (D := D) (M := M) hb1 (Nat.le_refl _))
  have HPR := Lib.hid (primary_at ih h1 hlt most)
  have HX1 := Lib.hid hx1
  have HIH := Lib.hid ih
  have HLT := Lib.hid hlt
  have HRB := Lib.hid h.lt
  clear h hX hlt ih h1 hx1 hb1 hz1
  go_enter Tryz.func65, Tryz.ntmps65
  go_wp2_with fail
  (try rw [hw1])
  clear hw1
  (go_wp2_with fail; go_fit (HPR.out); rintro e w2 ⟨D2, M2, t2, v2, lv2, ok, rfl, htv, ht2, ho2, hok2, hsm2⟩)
  obtain ⟨k2, n2, s2, a2, m2, c2, rfl⟩ := htv.full
  have HDB := Lib.hid ((ht2.dd _ HX1.out.lt).trans (plusB_self D _))
  have HMB2 := Lib.hid ((ht2.mm _ HX1.out.lt).trans HMB.out)
  have HX2 := Lib.hid (HX1.out.turn ht2 HMB.out)
  have HTL : Hid (TLoop D M w rb w.heap.size xs n most X (set4 w2 w.heap.size (.int .i64 k2) (.int .i64 n2) (.string s2) (.slice a2 m2 c2)) D2 M2 t2 lv2 (.int .i64 k2) (.int .i64 n2) (.string s2) (.slice a2 m2 c2) ok) := Lib.hid (by
    refine ⟨htv.put4 HDB.out _ _ _ _, (HT1.out.trans ht2).set4 (Or.inl (Nat.le_refl _)) _ _ _ _, ho2.put4 _ _ _ _ _, HX2.out.all4 _ _ _ _, HDB.out, HMB2.out, ?_⟩
    cases hP : primR (preO xs) (betO xs) (TERMX xs) most s with
    | none =>
      right
      refine ⟨by rw [hok2, hP]; rfl, ?_⟩
      rw [← HXX.out]; exact TERM_none hP
    | some p =>
      left
      obtain ⟨p, s1⟩ := p
      obtain ⟨e1, e2, hs⟩ := hsm2 _ _ hP
      refine ⟨by rw [hok2, hP]; rfl, s1, hs.put4 HDB.out HMB2.out _ _ _ _, ?_, ?_⟩
      · rw [← HXX.out, e1, e2]; exact (TERM_some hP).symm
      · have := prim_shr TERM_shr hP; have := HLT.out; omega)
  obtain ⟨r0, r1, r2, r3, rf⟩ := HX2.out.four
  clear htv ht2 ho2 hok2 hsm2 HPR HDB HMB2 HX2 HXX HX1
  obtain ⟨w3, hw3⟩ : ∃ w3, set4 w2 w.heap.size (.int .i64 k2) (.int .i64 n2) (.string s2) (.slice a2 m2 c2) = w3 := ⟨_, rfl⟩
  rw [hw3] at HTL
  go_wp2_with fail
  (try rw [hw3])
  clear hw3 r0 r1 r2 r3 rf
  go_loopw [5, 6] (fun lv okv wr => ∃ (D1 M1 : Nat → Bool) (t1 : Tm) (l1 k1 n1 : Int) (s1 : ByteArray) (a1 : Option Addr) (m1 c1 : Nat) (ok1 : Bool), lv = .int .i64 l1 ∧ okv = .bool ok1 ∧ Hid (TLoop D M w rb w.heap.size xs n most X wr D1 M1 t1 l1 (.int .i64 k1) (.int .i64 n1) (.string s1) (.slice a1 m1 c1) ok1))
    (fun lv okv wr => match okv with | .bool true => 1 + restLen wr rb | _ => 0)
  case atStart => exact ⟨D2, M2, t2, lv2, k2, n2, s2, a2, m2, c2, ok, rfl, rfl, HTL⟩
  case round =>
    obtain ⟨D1, M1, t1, l1, k1, n1, s1, a1, m1, c1, ok1, rfl, rfl, HL⟩ := hrel
    obtain ⟨hv, ht, ho, hx, hd, hm, hL⟩ := HL.out
    have HV := Lib.hid hv
    have HT := Lib.hid ht
    have HO := Lib.hid ho
    have HX := Lib.hid hx
    have HDB := Lib.hid hd
    have HMB := Lib.hid hm
    obtain ⟨r0, r1, r2, r3, rf⟩ := hx.four
    clear hv ht ho hx hd hm HL HTL
    rcases hL with ⟨rfl, ss, hs, hX, hl⟩ | ⟨rfl, hX⟩
    · have hrl := hs.restLen
      have HRL := Lib.hid hrl
      have HS := Lib.hid hs
      have HLX := Lib.hid hX
      have HL1 := Lib.hid hl
      have hBt := between_at hs
      obtain ⟨⟨⟨zn, zk, zl⟩, zg⟩, hz⟩ : ∃ z, betweenR (betO xs) (headR ss) = z := ⟨_, rfl⟩
      rw [hz] at hBt
      have HBt := Lib.hid hBt
      have HZ := Lib.hid hz
      obtain ⟨⟨sl, sr⟩, hsd⟩ : ∃ r, sidesB (bl zk) zl = r := ⟨_, rfl⟩
      have hSD := fun wq => sides_walk zn zk zl wq
      rw [hsd] at hSD
      have HSD := Lib.hid hSD
      have HSR := Lib.hid hsd
      have htk := hs.nice.head
      have HTK0 := Lib.hid htk
      clear hs hX hl hBt hz hSD hsd hrl htk
      (go_wp2_with fail; go_fit (HBt.out); rintro e w2 ⟨rfl, hb2⟩)
      obtain ⟨w3, hw3, hb3, hz3, hx3⟩ := box_new w2 #[.string zn, .string zk, .int .i64 zl] 93
      have HB3 := Lib.hid (Ext.trans' hb2 hb3)
      have HX3 := Lib.hid hx3
      have HB2S : wr.heap.size ≤ w2.heap.size := hb2.size
      obtain ⟨b0, b1, b2, bf⟩ := hx3.three
      clear hb2 hb3 hz3 hx3 HBt
      go_wp2_with fail
      (try rw [hw3])
      clear hw3
      (go_wp2_with fail; go_fit (HSD.out _); rintro e w4 ⟨rfl, hb4⟩)
      have HB4 := Lib.hid (Ext.trans' HB3.out hb4)
      have HX4 := Lib.hid (HX3.out.ext hb4)
      obtain ⟨b0, b1, b2, bf⟩ := HX4.out.three
      have HXB4 := Lib.hid (HX.out.ext HB4.out)
      obtain ⟨r0, r1, r2, r3, rf⟩ := HXB4.out.four
      clear hb4 HSD
      cases zg with
      | false =>
        have HN := Lib.hid (show X = some ((t1, l1), ss) from HLX.out.symm.trans (LOOP_stop (Or.inl (by rw [HZ.out]))))
        go_wp2
        refine bodyPost_ret (v := .tuple #[.agg #[.int .i64 k1, .int .i64 n1, .string s1, .slice a1 m1 c1], .int .i64 l1, .bool true]) (by rw [results_cell3 rfl]; go_simp) rfl ?_
        exact tdone_some (HT.out.trans (Turn.below HB4.out)) (HS.out.later HB4.out) HMd.out (Nat.le_refl _) HDB.out HMB.out (TmV.later HB4.out HV.out) HN.out
      | true =>
        by_cases h1 : most < zl
        · have h1d : decide (most < zl) = true := decide_eq_true h1
          have HN := Lib.hid (show X = some ((t1, l1), ss) from HLX.out.symm.trans (LOOP_stop (Or.inr (Or.inl (by rw [HZ.out]; exact h1)))))
          go_wp2
          refine bodyPost_ret (v := .tuple #[.agg #[.int .i64 k1, .int .i64 n1, .string s1, .slice a1 m1 c1], .int .i64 l1, .bool true]) (by rw [results_cell3 rfl]; go_simp) rfl ?_
          exact tdone_some (HT.out.trans (Turn.below HB4.out)) (HS.out.later HB4.out) HMd.out (Nat.le_refl _) HDB.out HMB.out (TmV.later HB4.out HV.out) HN.out
        have h1d : decide (most < zl) = false := decide_eq_false h1
        by_cases h2 : sl < l1
        · have h2d : decide (sl < l1) = true := decide_eq_true h2
          have HN := Lib.hid (show X = some ((t1, l1), ss) from HLX.out.symm.trans (LOOP_stop (Or.inr (Or.inr (by rw [HZ.out, HSR.out]; exact h2)))))
          go_wp2
          refine bodyPost_ret (v := .tuple #[.agg #[.int .i64 k1, .int .i64 n1, .string s1, .slice a1 m1 c1], .int .i64 l1, .bool true]) (by rw [results_cell3 rfl]; go_simp) rfl ?_
          exact tdone_some (HT.out.trans (Turn.below HB4.out)) (HS.out.later HB4.out) HMd.out (Nat.le_refl _) HDB.out HMB.out (TmV.later HB4.out HV.out) HN.out
        have h2d : decide (sl < l1) = false := decide_eq_false h2
        have HNS := Lib.hid (show ¬ stopR (betO xs) most (t1, l1) ss by
          unfold stopR
          rw [HZ.out, HSR.out]
          rintro (h | h | h)
          · cases h
          · exact h1 h
          · exact h2 h)
        clear h1 h2
        have hTK := take_at (HS.out.later HB4.out)
        have HTK := Lib.hid hTK
        have hbl := HB4.out.size
        have h3lt := HX3.out.lt
        clear hTK
        (go_wp2_with fail; go_fit (HTK.out); rintro e w5 ⟨rfl, hs5, ht5⟩)
        obtain ⟨w6, hw6, hb6, hz6, hx6⟩ := box_new w5 #[.int .i64 0, .int .i64 0, .string ⟨#[]⟩, .slice none 0 0] 31
        have hs6 := hs5.box hb6 (Nat.le_refl _) hx6.lt
        have HS6 := Lib.hid hs6
        have HTM := Lib.hid (HIH.out _ _ _ rb _ sr hs6 (by
          have := TERM_shr (pre := preO xs) (bet := betO xs)
          have hne := between_ne (bet := betO xs) (s := ss) (by rw [HZ.out])
          have := dropS_lt hne
          have := HL1.out
          omega))
        have HT5 := Lib.hid ((HT.out.trans (Turn.below HB4.out)).trans ht5)
        have HT6 := Lib.hid (HT5.out.trans (Turn.into hb6 (Nat.le_refl _)))
        have HV6 := Lib.hid ((TmV.stay (ht5.stays (HS.out.later HB4.out).md) _ _ (TmV.later HB4.out HV.out)).box hb6 (Nat.le_refl _))
        have hmZ : M1 w2.heap.size = false := by
          cases hm : M1 w2.heap.size with
          | false => rfl
          | true =>
            have h0 := HO.out.1 _ hm
            rw [HO.out.2 _ (by have := HB2S; exact this)] at h0
            cases h0
        have HMZ := Lib.hid hmZ
        have HXB6 := Lib.hid ((HXB4.out.turn ht5 HMB.out).ext hb6)
        have HXZ6 := Lib.hid ((HX4.out.turn ht5 hmZ).ext hb6)
        have HXY6 := Lib.hid hx6
        have HDB6 := Lib.hid (plusB_of (b := w5.heap.size) HDB.out)
        have hMY : M1 w5.heap.size = false := Old.out hs5 (Nat.le_refl _)
        have HMY := Lib.hid hMY
        have hYB : w5.heap.size ≠ w.heap.size := by have := (HXB4.out.turn ht5 HMB.out).lt; omega
        have hYZ : w5.heap.size ≠ w2.heap.size := by have := (HX4.out.turn ht5 hmZ).lt; omega
        have hZB : w2.heap.size ≠ w.heap.size := by have h := HT.out.size; have := HB2S; have := HX.out.lt; omega
        have hwY : w.heap.size ≤ w5.heap.size := HT5.out.size
        obtain ⟨y0, y1, y2, y3, yf⟩ := hx6.four
        clear hs5 ht5 hb6 hz6 hx6 hs6 hmZ hMY b0 b1 b2 bf r0 r1 r2 r3 rf
        go_wp2_with fail
        (try rw [hw6])
        clear hw6
        (go_wp2_with fail; go_fit (HTM.out); rintro e w7 ⟨D7, M7, t7, v7, lv7, ok7, rfl, htv, ht7, ho7, hok7, hsm7⟩)
        obtain ⟨k7, n7, s7, a7, m7, c7, rfl⟩ := htv.full
        have hYlt := HXY6.out.lt
        have hBlt := HXB6.out.lt
        have HDY := Lib.hid ((ht7.dd _ hYlt).trans (plusB_self D1 _))
        have HMY7 := Lib.hid ((ht7.mm _ hYlt).trans HMY.out)
        have HDB7 := Lib.hid ((ht7.dd _ hBlt).trans HDB6.out)
        have HMB7 := Lib.hid ((ht7.mm _ hBlt).trans HMB.out)
        have HXY7 := Lib.hid (HXY6.out.turn ht7 HMY.out)
        have HXB8 := Lib.hid (((HXB6.out.turn ht7 HMB.out)).far4 (Ne.symm hYB) (.int .i64 k7) (.int .i64 n7) (.string s7) (.slice a7 m7 c7))
        have HXZ8 := Lib.hid (((HXZ6.out.turn ht7 HMZ.out)).far4 (Ne.symm hYZ) (.int .i64 k7) (.int .i64 n7) (.string s7) (.slice a7 m7 c7))
        have HXY8 := Lib.hid (HXY7.out.all4 (.int .i64 k7) (.int .i64 n7) (.string s7) (.slice a7 m7 c7))
        have HT8 := Lib.hid ((HT6.out.trans ht7).set4 (b := w5.heap.size) (Or.inl hwY) (.int .i64 k7) (.int .i64 n7) (.string s7) (.slice a7 m7 c7))
        have HV8 := Lib.hid ((TmV.stay (ht7.stays HS6.out.md) _ _ HV6.out).put4 HDY.out (.int .i64 k7) (.int .i64 n7) (.string s7) (.slice a7 m7 c7))
        have HW8 := Lib.hid (htv.put4 HDY.out (.int .i64 k7) (.int .i64 n7) (.string s7) (.slice a7 m7 c7))
        have HO8 := Lib.hid (ho7.put4 w5.heap.size (.int .i64 k7) (.int .i64 n7) (.string s7) (.slice a7 m7 c7))
        have HSM := Lib.hid hsm7
        have HOK := Lib.hid hok7
        obtain ⟨y0, y1, y2, y3, yf⟩ := HXY7.out.four
        clear htv ht7 ho7 hok7 hsm7 hYlt hBlt
        obtain ⟨w8, hw8⟩ : ∃ w8, set4 w7 w5.heap.size (.int .i64 k7) (.int .i64 n7) (.string s7) (.slice a7 m7 c7) = w8 := ⟨_, rfl⟩
        rw [hw8] at HXB8 HXZ8 HXY8 HT8 HV8 HW8 HO8
        obtain ⟨p0, p1, p2, p3, pf⟩ := HXB8.out.four
        obtain ⟨z0, _, z2, _⟩ := HXZ8.out.three
        obtain ⟨x0, x1, x2, x3, _⟩ := HXY8.out.four
        have hzs : zn.size ≤ BIG := by
          have h := between_name (o := ⟨zn, zk, zl⟩) HZ.out
          have h2 := congrArg List.length h
          rw [bl_len] at h2
          have h3 := HTK0.out.2.1
          unfold BIG
          simp only at h2
          omega
        have HCM := Lib.hid (comp_hide (w := w8.drew.alloc (.cells #[.int .i64 k1, .int .i64 n1, .string s1, .slice a1 m1 c1, .int .i64 k7, .int .i64 n7, .string s7, .slice a7 m7 c7] 31)) (D := D7) zn hzs (HO8.out.2.mono (show w8.heap.size ≤ _ from (bel1' w8.drew _).size)) (tms_two (w := w8.drew) HO8.out.2 (TmV.later (Below.refl _ _).drew HV8.out) (TmV.later (Below.refl _ _).drew HW8.out) _))
        have HTN : Hid (∀ (w11 : World) (a11 : Option Addr) (c11 : Nat), Below w8.heap.size w8 w11 → TmV (hide D7 w11) (.mk 2 0 zn [t1, t7]) (.agg #[.int .i64 2, .int .i64 0, .string zn, .slice a11 2 c11]) → TLoop D M w rb w.heap.size xs n most X (set4 w11 w.heap.size (.int .i64 2) (.int .i64 0) (.string zn) (.slice a11 2 c11)) D7 M7 (.mk 2 0 zn [t1, t7]) zl (.int .i64 2) (.int .i64 0) (.string zn) (.slice a11 2 c11) ok7) := Lib.hid (fun w11 a11 c11 hb hv => by
          refine ⟨hv.put4 HDB7.out _ _ _ _, (HT8.out.trans (Turn.below hb)).set4 (Or.inl (Nat.le_refl _)) _ _ _ _, (HO8.out.later hb.size).put4 _ _ _ _ _, (HXB8.out.ext hb).all4 _ _ _ _, HDB7.out, HMB7.out, ?_⟩
          have hnz := HNS.out
          cases hX1 : TERMX xs sr (dropR ss) with
          | none =>
            right
            refine ⟨by rw [HOK.out, hX1]; rfl, ?_⟩
            rw [← HLX.out]
            exact LOOP_none hnz (by rw [HZ.out]; simp only [HSR.out]; exact hX1)
          | some p =>
            left
            obtain ⟨p, s2⟩ := p
            obtain ⟨e1, e2, hs8⟩ := HSM.out _ _ hX1
            have hss := LOOP_some (pre := preO xs) hnz (by rw [HZ.out]; simp only [HSR.out]; exact hX1)
            rw [HZ.out] at hss
            have hs9 := hs8.put4 HDY.out HMY7.out (.int .i64 k7) (.int .i64 n7) (.string s7) (.slice a7 m7 c7)
            rw [hw8] at hs9
            refine ⟨by rw [HOK.out, hX1]; rfl, s2, (hs9.later hb).put4 HDB7.out HMB7.out _ _ _ _, ?_, by have := hss.2; have := HL1.out; omega⟩
            rw [← HLX.out, hss.1, e1])
        have HTN2 : Hid (∀ (w11 : World) (a11 : Option Addr) (c11 : Nat), Below w8.heap.size w8 w11 → ok7 = true → restLen (set4 w11 w.heap.size (.int .i64 2) (.int .i64 0) (.string zn) (.slice a11 2 c11)) rb < restLen wr rb) := Lib.hid (fun w11 a11 c11 hb hk => by
          cases hX1 : TERMX xs sr (dropR ss) with
          | none => rw [HOK.out, hX1] at hk; cases hk
          | some p =>
            obtain ⟨p, s2⟩ := p
            obtain ⟨e1, e2, hs8⟩ := HSM.out _ _ hX1
            have hs9 := hs8.put4 HDY.out HMY7.out (.int .i64 k7) (.int .i64 n7) (.string s7) (.slice a7 m7 c7)
            rw [hw8] at hs9
            rw [((hs9.later hb).put4 HDB7.out HMB7.out (.int .i64 2) (.int .i64 0) (.string zn) (.slice a11 2 c11)).restLen, HRL.out]
            have := TERM_shr _ _ _ _ hX1
            have := dropS_le ss
            omega)
        clear HTM
        go_wp2_with fail
        (try rw [hw8])
        refine wp_region_held_drew (S := fun w' => w'.cell? ⟨w2.heap.size, 0, none⟩ = some (.string zn) ∧ w'.cell? ⟨w2.heap.size, 2, none⟩ = some (.int .i64 zl) ∧ w'.cell? ⟨w5.heap.size, 0, none⟩ = some (.int .i64 k7) ∧ w'.cell? ⟨w5.heap.size, 1, none⟩ = some (.int .i64 n7) ∧ w'.cell? ⟨w5.heap.size, 2, none⟩ = some (.string s7) ∧ w'.cell? ⟨w5.heap.size, 3, none⟩ = some (.slice a7 m7 c7)) (by kernel_rfl) ⟨z0, z2, x0, x1, x2, x3⟩ (fun hHeld => ?_)
        first | (refine held_t (i := 0) hHeld ?_; apply Exists.intro; refine ⟨fun wq hq => ?_, ?_⟩; (focus ((try dsimp only at hq); go_simp; (first | done | with_reducible rfl | fail)))) | refine held_s (i := 0) hHeld ?_ | fail
        first | (refine held_t (i := 1) hHeld ?_; apply Exists.intro; refine ⟨fun wq hq => ?_, ?_⟩; (focus ((try dsimp only at hq); go_simp; (first | done | with_reducible rfl | fail)))) | refine held_s (i := 1) hHeld ?_ | fail
        first | (refine held_t (i := 3) hHeld ?_; apply Exists.intro; refine ⟨fun wq hq => ?_, ?_⟩; (focus ((try dsimp only at hq); go_simp; (first | done | with_reducible rfl | fail)))) | refine held_s (i := 3) hHeld ?_ | fail
        first | (refine held_t (i := 6) hHeld ?_; apply Exists.intro; refine ⟨fun wq hq => ?_, ?_⟩; (focus ((try dsimp only at hq); go_simp; (first | done | with_reducible rfl | fail)))) | refine held_s (i := 6) hHeld ?_ | fail
        first | (refine held_t (i := 7) hHeld ?_; apply Exists.intro; refine ⟨fun wq hq => ?_, ?_⟩; (focus ((try dsimp only at hq); go_simp; (first | done | with_reducible rfl | fail)))) | refine held_s (i := 7) hHeld ?_ | fail
        try simp only [Act.put, List.setIfInBounds_toArray, List.set_cons_zero, List.set_cons_succ]
        refine held_c 2 fun K hK => ?_
        go_simp
        skip
        refine hK.out _ _ (hHeld) (fun hHeld => ?_)
        clear hK K
        try simp only [Act.put, List.setIfInBounds_toArray, List.set_cons_zero, List.set_cons_succ]
        refine held_c 4 fun K hK => ?_
        go_simp
        skip
        refine hK.out _ _ (⟨cell_later (bel1' _ _) hHeld.1, cell_later (bel1' _ _) hHeld.2.1, cell_later (bel1' _ _) hHeld.2.2.1, cell_later (bel1' _ _) hHeld.2.2.2.1, cell_later (bel1' _ _) hHeld.2.2.2.2.1, cell_later (bel1' _ _) hHeld.2.2.2.2.2⟩) (fun hHeld => ?_)
        clear hK K
        try simp only [Act.put, List.setIfInBounds_toArray, List.set_cons_zero, List.set_cons_succ]
        refine held_c 5 fun K hK => ?_
        go_simp
        (go_at_call 26; refine HCM.out.mono ?_; rintro e w11 ⟨a11, c11, rfl, hv11, hb11⟩; obtain ⟨r0, r1, r2, r3, rf⟩ := ((HXB8.out.ext (Below.refl _ _).drew).ext (Ext.trans' (bel1' _ _) hb11)).four; have HV11 := Lib.hid hv11; have HB11 := Lib.hid (Ext.trans' (Below.refl w8.heap.size w8).drew (Ext.trans' (bel1' w8.drew _) hb11)))
        refine hK.out _ _ (⟨cell_later hb11 hHeld.1, cell_later hb11 hHeld.2.1, cell_later hb11 hHeld.2.2.1, cell_later hb11 hHeld.2.2.2.1, cell_later hb11 hHeld.2.2.2.2.1, cell_later hb11 hHeld.2.2.2.2.2⟩) (fun hHeld => ?_)
        clear hK K
        try simp only [Act.put, List.setIfInBounds_toArray, List.set_cons_zero, List.set_cons_succ]
        refine held_c 8 fun K hK => ?_
        go_simp
        skip
        refine hK.out _ _ (⟨far4 hHeld.1 hZB _ _ _ _, far4 hHeld.2.1 hZB _ _ _ _, far4 hHeld.2.2.1 hYB _ _ _ _, far4 hHeld.2.2.2.1 hYB _ _ _ _, far4 hHeld.2.2.2.2.1 hYB _ _ _ _, far4 hHeld.2.2.2.2.2 hYB _ _ _ _⟩) (fun hHeld => ?_)
        clear hK K
        try simp only [Act.put, List.setIfInBounds_toArray, List.set_cons_zero, List.set_cons_succ]
        first | (refine held_t (i := 9) hHeld ?_; apply Exists.intro; refine ⟨fun wq hq => ?_, ?_⟩; (focus ((try dsimp only at hq); go_simp; (first | done | with_reducible rfl | fail)))) | refine held_s (i := 9) hHeld ?_ | fail
        try simp only [Act.put, List.setIfInBounds_toArray, List.set_cons_zero, List.set_cons_succ]
        refine wpAnyH_done (by kernel_rfl) ?_ _
        have HF := Lib.hid (HTN.out w11 a11 c11 HB11.out HV11.out)
        have HG := Lib.hid (HTN2.out w11 a11 c11 HB11.out)
        clear HTN HTN2 HCM
        go_wp2
        go_roundw
        case rel => exact ⟨D7, M7, _, zl, 2, 0, zn, a11, 2, c11, ok7, rfl, rfl, HF⟩
        case measure =>
          have hG := HG.out
          cases ok7 with
          | true => exact Nat.add_lt_add_left (hG rfl) 1
          | false => exact Nat.lt_of_lt_of_le Nat.zero_lt_one (Nat.le_add_right _ _)
    · have HN := Lib.hid hX
      clear hX
      go_wp2
      refine bodyPost_ret (v := .tuple #[.agg #[.int .i64 k1, .int .i64 n1, .string s1, .slice a1 m1 c1], .int .i64 l1, .bool false]) (by rw [results_cell3 rfl]; go_simp) rfl ?_
      exact tdone_none HT.out HO.out HMd.out (Nat.le_refl _) HDB.out HV.out HN.out
theorem term_all (xs : List O) : ∀ n, IHT xs n
  | 0 => fun D M w rb s most h hlt => by omega
  | n + 1 => fun D M w rb s most h hlt => term_step (term_all xs n) h hlt most
theorem term_at {xs : List O} {D M : Nat → Bool} {w : World} {rb : Nat} {s : RS} (h : St D M w rb xs s) (most : Int) :
    Calls Tryz.prog 65 #[.pointer (some ⟨rb, 0, none⟩), .int .i64 most] w (TPost D M w rb xs (TERMX xs most s)) := term_all xs _ D M w rb s most h (Nat.lt_succ_self _)
end Go.Proofs.YtaojalicnnnkmaaGreatDoor
