import Derived.Test.YtaojalicnnnkmaaGreatDoorHgaaq
set_option linter.unusedVariables false
set_option linter.unusedSimpArgs false
/- The project's reader: bracketed, the other ways. -/
namespace Go.Proofs.YtaojalicnnnkmaaGreatDoor
open Go.Shelf Go.RowKit
set_option linter.unusedVariables false

def braceR (o : Out Tm) : Out Tm := match o with
  | none => none
  | some (t, s1) => some (.mk 2 0 (ba [123, 125]) [t], s1)
set_option maxHeartbeats 4000000 in
theorem brace_at {xs : List O} {n : Nat} (ih : IHT xs n) {D M : Nat → Bool} {w : World} {rb : Nat} {s : RS} (h : St D M w rb xs s) (hlt : s.rest.length < n) :
    Calls Tryz.prog 99 #[.pointer (some ⟨rb, 0, none⟩), .string ⟨#[123]⟩] w (BPost D M w rb xs (braceR (closedR (TERMX xs) [125] s))) := by
  obtain ⟨X, hX⟩ : ∃ X, braceR (closedR (TERMX xs) [125] s) = X := ⟨_, rfl⟩
  rw [hX]
  have HXX := Lib.hid hX
  obtain ⟨w1, hw1, hb1, hz1, hx1⟩ := box_new w #[.int .i64 0, .int .i64 0, .string ⟨#[]⟩, .slice none 0 0] 31
  have h1 := h.box hb1 (Nat.le_refl _) hx1.lt
  have HMd := Lib.hid h.md
  have HMB := Lib.hid (Old.out h (Nat.le_refl _))
  have HT1 := Lib.hid (Turn.into (D := D) (M := M) hb1 (Nat.le_refl _))
  have HI := Lib.hid (ih _ _ _ rb _ 1200 h1 hlt)
  have HX1 := Lib.hid hx1
  clear h hX hlt ih h1 hx1 hb1 hz1
  go_enter Tryz.func99, Tryz.ntmps99
  go_wp2_with fail
  (try rw [hw1])
  clear hw1
  (go_wp2_with fail; go_fit (HI.out); rintro e w2 ⟨D2, M2, t2, v2, lv2, ok, rfl, htv, ht2, ho2, hok2, hsm2⟩)
  obtain ⟨k2, n2, s2, a2, m2, c2, rfl⟩ := htv.full
  have HDB := Lib.hid ((ht2.dd _ HX1.out.lt).trans (plusB_self D _))
  have HMB2 := Lib.hid ((ht2.mm _ HX1.out.lt).trans HMB.out)
  have HX2 := Lib.hid (HX1.out.turn ht2 HMB.out)
  have HT3 := Lib.hid ((HT1.out.trans ht2).set4 (b := w.heap.size) (Or.inl (Nat.le_refl _)) (.int .i64 k2) (.int .i64 n2) (.string s2) (.slice a2 m2 c2))
  have HV3 := Lib.hid (htv.put4 HDB.out (.int .i64 k2) (.int .i64 n2) (.string s2) (.slice a2 m2 c2))
  have HO3 := Lib.hid (ho2.put4 w.heap.size (.int .i64 k2) (.int .i64 n2) (.string s2) (.slice a2 m2 c2))
  have HX3 := Lib.hid (HX2.out.all4 (.int .i64 k2) (.int .i64 n2) (.string s2) (.slice a2 m2 c2))
  have HSM := Lib.hid hsm2
  have HOK := Lib.hid hok2
  obtain ⟨r0, r1, r2, r3, rf⟩ := HX2.out.four
  clear htv ht2 ho2 hok2 hsm2
  obtain ⟨w3, hw3⟩ : ∃ w3, set4 w2 w.heap.size (.int .i64 k2) (.int .i64 n2) (.string s2) (.slice a2 m2 c2) = w3 := ⟨_, rfl⟩
  rw [hw3] at HT3 HV3 HO3 HX3
  obtain ⟨p0, p1, p2, p3, pf⟩ := HX3.out.four
  cases hM : TERMX xs 1200 s with
  | none =>
    obtain rfl : ok = false := by rw [HOK.out, hM]; rfl
    have HN := Lib.hid (show X = none by rw [← HXX.out, closed_none hM]; rfl)
    clear hM
    have CH := Lib.hid (comp_hide (w := w3.alloc (.cells #[.int .i64 k2, .int .i64 n2, .string s2, .slice a2 m2 c2] 31)) (D := D2) ⟨#[123, 125]⟩ (by decide) (HO3.out.2.mono (by simp)) (tms_one HO3.out.2 HV3.out _))
    go_wp2_with fail
    (try rw [hw3])
    clear hw3
    (go_wp2_with fail; go_fit (CH.out); rintro e w5 ⟨a5, c5, rfl, ht5, hb5⟩)
    have HB5 := Lib.hid (Ext.trans' (bel1' w3 _) hb5)
    have HV5 := Lib.hid ht5
    have HX5 := Lib.hid (HX3.out.ext HB5.out)
    clear hb5 ht5 p0 p1 p2 p3 pf r0 r1 r2 r3 rf CH
    obtain ⟨q0, q1, q2, q3, qf⟩ := HX5.out.four
    go_wp2
    refine bodyPost_ret (v := .tuple #[.agg #[.int .i64 2, .int .i64 0, .string ⟨#[123, 125]⟩, .slice a5 1 c5], .bool false]) (by rw [results_cell_tmp rfl]; go_simp) rfl ?_
    exact bdone_none (HT3.out.trans (Turn.below HB5.out)) (HO3.out.later HB5.out.size) HMd.out (Nat.le_refl _) HDB.out HV5.out HN.out
  | some q =>
    obtain ⟨⟨tq, lq⟩, s1⟩ := q
    obtain rfl : ok = true := by rw [HOK.out, hM]; rfl
    obtain ⟨rfl, rfl, hs2⟩ := HSM.out _ _ hM
    have hs3 := hs2.put4 HDB.out HMB2.out (.int .i64 k2) (.int .i64 n2) (.string s2) (.slice a2 m2 c2)
    rw [hw3] at hs3
    have HM := Lib.hid hM
    have HS3 := Lib.hid hs3
    clear hM hs2 hs3
    have CH := Lib.hid (comp_hide (w := w3.alloc (.cells #[.int .i64 k2, .int .i64 n2, .string s2, .slice a2 m2 c2] 31)) (D := D2) ⟨#[123, 125]⟩ (by decide) (HO3.out.2.mono (by simp)) (tms_one HO3.out.2 HV3.out _))
    go_wp2_with fail
    (try rw [hw3])
    clear hw3
    (go_wp2_with fail; go_fit (CH.out); rintro e w5 ⟨a5, c5, rfl, ht5, hb5⟩)
    have HB5 := Lib.hid (Ext.trans' (bel1' w3 _) hb5)
    have HV5 := Lib.hid ht5
    have HX5 := Lib.hid (HX3.out.ext HB5.out)
    clear hb5 ht5 p0 p1 p2 p3 pf r0 r1 r2 r3 rf CH
    have hs5 := HS3.out.later HB5.out
    have HTK := Lib.hid (takes_at hs5 [125])
    have HMD := Lib.hid hs5.md
    clear hs5
    cases hmk : isMark [125] (headR s1) with
    | false =>
      rw [hmk] at HTK
      have HN := Lib.hid (show X = none by rw [← HXX.out, closed_open HM.out hmk]; rfl)
      clear hmk
      (go_wp2_with fail; go_fit (HTK.out); rintro e w6 ⟨rfl, hs6, ht6⟩)
      obtain ⟨q0, q1, q2, q3, qf⟩ := (HX5.out.turn ht6 HMB2.out).four
      have HS6 := Lib.hid hs6
      have HT6 := Lib.hid ht6
      clear hs6 ht6
      go_wp2
      refine bodyPost_ret (v := .tuple #[.agg #[.int .i64 2, .int .i64 0, .string ⟨#[123, 125]⟩, .slice a5 1 c5], .bool false]) (by rw [results_cell_tmp rfl]; go_simp) rfl ?_
      exact bdone_none ((HT3.out.trans (Turn.below HB5.out)).trans HT6.out) HS6.out.okd HMd.out (Nat.le_refl _) HDB.out (TmV.stay (HT6.out.stays HMD.out) _ _ HV5.out) HN.out
    | true =>
      rw [hmk] at HTK
      have HN := Lib.hid (show X = some (.mk 2 0 ⟨#[123, 125]⟩ [t2], takesS [125] s1) by rw [← HXX.out, closed_done HM.out hmk]; rfl)
      clear hmk
      (go_wp2_with fail; go_fit (HTK.out); rintro e w6 ⟨rfl, hs6, ht6⟩)
      obtain ⟨q0, q1, q2, q3, qf⟩ := (HX5.out.turn ht6 HMB2.out).four
      have HS6 := Lib.hid hs6
      have HT6 := Lib.hid ht6
      clear hs6 ht6
      go_wp2
      refine bodyPost_ret (v := .tuple #[.agg #[.int .i64 2, .int .i64 0, .string ⟨#[123, 125]⟩, .slice a5 1 c5], .bool true]) (by rw [results_cell_tmp rfl]; go_simp) rfl ?_
      exact bdone_some ((HT3.out.trans (Turn.below HB5.out)).trans HT6.out) HS6.out HMd.out (Nat.le_refl _) HDB.out HMB2.out (TmV.stay (HT6.out.stays HMD.out) _ _ HV5.out) HN.out
set_option maxHeartbeats 2000000 in
theorem square_at {xs : List O} {n : Nat} (ih : IHT xs n) {D M : Nat → Bool} {w : World} {rb : Nat} {s : RS} (h : St D M w rb xs s) (hlt : s.rest.length < n) :
    Calls Tryz.prog 99 #[.pointer (some ⟨rb, 0, none⟩), .string ⟨#[91]⟩] w (BPost D M w rb xs (rowR (TERMX xs) s)) := by
  obtain ⟨X, hX⟩ : ∃ X, rowR (TERMX xs) s = X := ⟨_, rfl⟩
  rw [hX]
  obtain ⟨w1, hw1, hb1, hz1, hx1⟩ := box_new w #[.int .i64 0, .int .i64 0, .string ⟨#[]⟩, .slice none 0 0] 31
  have h1 := h.box hb1 (Nat.le_refl _) hx1.lt
  have HMd := Lib.hid h.md
  have HMB := Lib.hid (Old.out h (Nat.le_refl _))
  have HT1 := Lib.hid (Turn.into (D := D) (M := M) hb1 (Nat.le_refl _))
  have HI := list_at ih h1 hlt
  rw [hX] at HI
  have HI := Lib.hid HI
  have HX1 := Lib.hid hx1
  clear h hX hlt ih h1 hx1 hb1 hz1
  go_enter Tryz.func99, Tryz.ntmps99
  go_wp2_with fail
  (try rw [hw1])
  clear hw1
  (go_wp2_with fail; go_fit (HI.out); rintro e w2 ⟨D2, M2, t2, v2, ok, rfl, htv, ht2, ho2, hok2, hsm2⟩)
  obtain ⟨k2, n2, s2, a2, m2, c2, rfl⟩ := htv.full
  have HDB := Lib.hid ((ht2.dd _ HX1.out.lt).trans (plusB_self D _))
  have HMB2 := Lib.hid ((ht2.mm _ HX1.out.lt).trans HMB.out)
  have HV2 := Lib.hid htv
  have HO2 := Lib.hid ho2
  have HT2 := Lib.hid (HT1.out.trans ht2)
  have HSM := Lib.hid hsm2
  obtain ⟨r0, r1, r2, r3, rf⟩ := (HX1.out.turn ht2 HMB.out).four
  clear htv ht2 ho2 hsm2
  cases X with
  | none =>
    obtain rfl : ok = false := hok2

    go_wp2
    refine bodyPost_ret (v := .tuple #[.agg #[.int .i64 k2, .int .i64 n2, .string s2, .slice a2 m2 c2], .bool false]) (by rw [results_cell_tmp rfl]; go_simp) rfl ?_
    exact bdone_none HT2.out HO2.out HMd.out (Nat.le_refl _) HDB.out HV2.out rfl
  | some q =>
    obtain ⟨tq, s1⟩ := q
    obtain rfl : ok = true := hok2
    obtain ⟨rfl, hs2⟩ := HSM.out _ _ rfl
    have HS2 := Lib.hid hs2
    clear hs2
    go_wp2
    refine bodyPost_ret (v := .tuple #[.agg #[.int .i64 k2, .int .i64 n2, .string s2, .slice a2 m2 c2], .bool true]) (by rw [results_cell_tmp rfl]; go_simp) rfl ?_
    exact bdone_some HT2.out HS2.out HMd.out (Nat.le_refl _) HDB.out HMB2.out HV2.out rfl
set_option maxHeartbeats 2000000 in
theorem other_at {xs : List O} {D M : Nat → Bool} {w : World} {rb : Nat} {s : RS} (h : St D M w rb xs s) (b : List UInt8) (h1 : (b == [40]) = false) (h2 : (b == [123]) = false) (h3 : (b == [91]) = false) :
    Calls Tryz.prog 99 #[.pointer (some ⟨rb, 0, none⟩), .string ⟨b.toArray⟩] w (BPost D M w rb xs none) := by
  obtain ⟨w1, hw1, hb1, hz1, hx1⟩ := box_new w #[.int .i64 0, .int .i64 0, .string ⟨#[]⟩, .slice none 0 0] 31
  have hO := h.okd.box hb1.size hx1.lt
  have HO := Lib.hid hO
  have HMd := Lib.hid h.md
  have HT1 := Lib.hid (Turn.into (D := D) (M := M) hb1 (Nat.le_refl _))
  obtain ⟨r0, r1, r2, r3, rf⟩ := hx1.four
  clear h hx1 hb1 hz1 hO
  go_enter Tryz.func99, Tryz.ntmps99
  go_wp2_with fail
  (try rw [hw1])
  clear hw1
  go_wp2
  refine bodyPost_ret (v := .tuple #[.agg #[.int .i64 0, .int .i64 0, .string ⟨#[]⟩, .slice none 0 0], .bool false]) (by rw [results_cell_tmp rfl]; go_simp) rfl ?_
  exact bdone_none HT1.out HO.out HMd.out (Nat.le_refl _) (plusB_self D _) (leaf_tm _ (k := 0) (n := 0) (s := ⟨#[]⟩) i64_0 i64_0 (by decide)) rfl
theorem bracketed_at {xs : List O} {n : Nat} (ih : IHT xs n) {D M : Nat → Bool} {w : World} {rb : Nat} {s : RS} (h : St D M w rb xs s) (hlt : s.rest.length < n) (b : List UInt8) :
    Calls Tryz.prog 99 #[.pointer (some ⟨rb, 0, none⟩), .string ⟨b.toArray⟩] w (BPost D M w rb xs (bracketR (TERMX xs) b s)) := by
  unfold bracketR
  by_cases h1 : b = [40]
  · rw [if_pos h1]
    subst h1
    exact paren_at ih h hlt
  · rw [if_neg h1]
    by_cases h2 : b = [123]
    · rw [if_pos h2]
      subst h2
      exact brace_at ih h hlt
    · rw [if_neg h2]
      by_cases h3 : b = [91]
      · rw [if_pos h3]
        subst h3
        exact square_at ih h hlt
      · rw [if_neg h3]
        exact other_at h b (beq_false_of_ne h1) (beq_false_of_ne h2) (beq_false_of_ne h3)
end Go.Proofs.YtaojalicnnnkmaaGreatDoor
/- The project's reader: named: a number less than 0, a name with its arguments, a name in quotes. -/
namespace Go.Proofs.YtaojalicnnnkmaaGreatDoor
open Go.Shelf Go.RowKit
set_option linter.unusedVariables false

theorem box_plus {D M : Nat → Bool} {w w1 w2 : World} (hb1 : Below w.heap.size w w1) (hb2 : Below w1.heap.size w1 w2) : Turn D M (plusB D w1.heap.size) M w w2 := Turn.into (Ext.trans' hb1 hb2) hb1.size
set_option maxRecDepth 100000 in
set_option maxHeartbeats 2000000 in
theorem named_minus {xs : List O} {D M : Nat → Bool} {w : World} {rb : Nat} {s : RS} (h : St D M w rb xs s) (q : TokP) (hq : tokOk q) (most : Int) (hm : isMinusR q (headR s) = true) :
    Calls Tryz.prog 96 #[.pointer (some ⟨rb, 0, none⟩), tkVal q, .int .i64 most] w (TPost D M w rb xs (some ((iT (-((headR s).1.n : Int)), 0), dropR s))) := by
  have hn := h.nice.head.1
  obtain ⟨x, hx⟩ : ∃ x, headR s = x := ⟨_, rfl⟩
  obtain ⟨w1, hw1, hb1, hz1, hx1⟩ := box_new w #[.int .i64 (q.1.kind : Int), .string ⟨q.1.text.toArray⟩, .int .i64 (q.1.n : Int), .bool q.1.opens, .int .i64 (q.2 : Int)] 125
  obtain ⟨w2, hw2, hb2, hz2, hx2⟩ := box_new w1 #[.int .i64 0, .int .i64 0, .string ⟨#[]⟩, .slice none 0 0] 31
  have h2 := h.box (Ext.trans' hb1 hb2) hb1.size hx2.lt
  have HMd := Lib.hid h.md
  have HMB := Lib.hid (Old.out h hb1.size)
  have HSB := Lib.hid hb1.size
  have HT2 := Lib.hid (box_plus (D := D) (M := M) hb1 hb2)
  have HM := isMinus_at h2 q hq.2.2
  rw [hm] at HM
  have HM := Lib.hid HM
  have HTK := Lib.hid (fun wq hq => take_at (h2.later (w' := wq) hq))
  rw [hx] at HTK hn
  rw [hx]
  have HX := Lib.hid hx2
  have HX1 := Lib.hid (hx1.ext hb2)
  obtain ⟨c0, c1, c2, c3, c4, cf⟩ := HX1.out.five
  have HV := Lib.hid (fun wq => int_at wq (-(x.1.n : Int)))
  have hneg : IntKind.i64.wrap (-(x.1.n : Int)) = -(x.1.n : Int) := by rw [IntKind.wrap_i64]; omega
  have HN := Lib.hid hn
  have hfd : ∀ wq : World, (Instr.field 125 (.agg #[.int .i64 (x.1.kind : Int), .string ⟨x.1.text.toArray⟩, .int .i64 (x.1.n : Int), .bool x.1.opens, .int .i64 (x.2 : Int)]) 2).run Tryz.prog wq = .ok (.int .i64 (x.1.n : Int)) wq := fun _ => by kernel_rfl
  clear h hq hx hb1 hb2 hz1 hz2 hx1 hx2 h2 hm hn
  go_enter Tryz.func96, Tryz.ntmps96
  go_wp2_with fail
  (try rw [hw1])
  (try rw [hw2])
  clear hw1 hw2
  (go_wp2_with fail; go_fit (HM.out); rintro e w3 ⟨rfl, hb3⟩)
  (go_wp2_with fail; go_fit (HTK.out _ hb3); rintro e w4 ⟨rfl, hs4, ht4⟩)
  simp only [tkVal]
  have HS4 := Lib.hid hs4
  have HT4 := Lib.hid ((HT2.out.trans (Turn.below hb3)).trans ht4)
  have HX4 := Lib.hid ((HX.out.ext hb3).turn ht4 HMB.out)
  clear hs4 ht4 hb3
  (go_wp2_with fail; go_fit (HV.out _); rintro e w5 ⟨rfl, hb5⟩)
  obtain ⟨r0, r1, r2, r3, rf⟩ := (HX4.out.ext hb5).four
  have HB5 := Lib.hid hb5
  clear hb5
  go_wp2
  refine bodyPost_ret (v := .tuple #[.agg #[.int .i64 1, .int .i64 (-(x.1.n : Int)), .string ⟨#[]⟩, .slice none 0 0], .int .i64 0, .bool true]) (by rw [results_cell3 rfl]; go_simp) rfl ?_
  exact tdone_some (HT4.out.trans (Turn.below HB5.out)) (HS4.out.later HB5.out) HMd.out HSB.out (plusB_self D _) HMB.out (leaf_tm _ i64_1 (by unfold I64; have := HN.out; omega) (by decide)) rfl
set_option maxRecDepth 100000 in
set_option maxHeartbeats 2000000 in
theorem named_quoted {xs : List O} {D M : Nat → Bool} {w : World} {rb : Nat} {s : RS} (h : St D M w rb xs s) (q : TokP) (hq : tokOk q) (most : Int) (hm : isMinusR q (headR s) = false) (ho : q.1.opens = false) (hk : q.1.kind = 2) :
    Calls Tryz.prog 96 #[.pointer (some ⟨rb, 0, none⟩), tkVal q, .int .i64 most] w (TPost D M w rb xs (some ((aT q.1.text, 0), s))) := by
  obtain ⟨w1, hw1, hb1, hz1, hx1⟩ := box_new w #[.int .i64 (q.1.kind : Int), .string ⟨q.1.text.toArray⟩, .int .i64 (q.1.n : Int), .bool q.1.opens, .int .i64 (q.2 : Int)] 125
  obtain ⟨w2, hw2, hb2, hz2, hx2⟩ := box_new w1 #[.int .i64 0, .int .i64 0, .string ⟨#[]⟩, .slice none 0 0] 31
  have h2 := h.box (Ext.trans' hb1 hb2) hb1.size hx2.lt
  have HMd := Lib.hid h.md
  have HMB := Lib.hid (Old.out h hb1.size)
  have HSB := Lib.hid hb1.size
  have HT2 := Lib.hid (box_plus (D := D) (M := M) hb1 hb2)
  have HM := isMinus_at h2 q hq.2.2
  rw [hm] at HM
  have HM := Lib.hid HM
  have HS2 := Lib.hid h2
  have HX := Lib.hid hx2
  have HX1 := Lib.hid (hx1.ext hb2)
  obtain ⟨c0, c1, c2, c3, c4, cf⟩ := HX1.out.five
  have HV := Lib.hid (fun wq => atom_at wq ⟨q.1.text.toArray⟩)
  have HQ := Lib.hid hq
  have k2 : ((q.1.kind : Int) == 2) = true := by rw [hk]; rfl
  have HO := Lib.hid ho
  clear h hq hb1 hb2 hz1 hz2 hx1 hx2 h2 hm ho hk
  go_enter Tryz.func96, Tryz.ntmps96
  go_wp2_with fail
  (try rw [hw1])
  (try rw [hw2])
  clear hw1 hw2
  (go_wp2_with fail; go_fit (HM.out); rintro e w3 ⟨rfl, hb3⟩)
  obtain ⟨c0, c1, c2, c3, c4, cf⟩ := (HX1.out.ext hb3).five
  rw [HO.out] at c3
  have HB3 := Lib.hid hb3
  clear hb3
  (go_wp2_with fail; go_fit (HV.out _); rintro e w5 ⟨rfl, hb5⟩)
  obtain ⟨r0, r1, r2, r3, rf⟩ := ((HX.out.ext HB3.out).ext hb5).four
  have HB5 := Lib.hid (Ext.trans' HB3.out hb5)
  clear hb5
  go_wp2
  refine bodyPost_ret (v := .tuple #[.agg #[.int .i64 2, .int .i64 0, .string ⟨q.1.text.toArray⟩, .slice none 0 0], .int .i64 0, .bool true]) (by rw [results_cell3 rfl]; go_simp) rfl ?_
  exact tdone_some (HT2.out.trans (Turn.below HB5.out)) (HS2.out.later HB5.out) HMd.out HSB.out (plusB_self D _) HMB.out (leaf_tm _ i64_2 i64_0 (by have := HQ.out.2.1; show q.1.text.toArray.size ≤ _; simp; unfold BIG; omega)) rfl
end Go.Proofs.YtaojalicnnnkmaaGreatDoor
/- The project's reader: named: a name with its arguments. -/
namespace Go.Proofs.YtaojalicnnnkmaaGreatDoor
open Go.Shelf Go.RowKit
set_option linter.unusedVariables false

theorem args_none {xs : List O} {name : List UInt8} {s : RS} (h : ITEMS (preO xs) (betO xs) s = none) : argsR (TERMX xs) name s = none := by rw [argsR_eq, h]
theorem args_open {xs : List O} {name : List UInt8} {s s1 : RS} {l : List Tm} (h : ITEMS (preO xs) (betO xs) s = some (l, s1)) (hm : isMark [41] (headR s1) = false) : argsR (TERMX xs) name s = none := by rw [argsR_eq, h]; simp only [(takesR_no hm).1]
theorem args_done {xs : List O} {name : List UInt8} {s s1 : RS} {l : List Tm} (h : ITEMS (preO xs) (betO xs) s = some (l, s1)) (hm : isMark [41] (headR s1) = true) : argsR (TERMX xs) name s = some ((.mk 2 0 (ba name) l, 0), takesS [41] s1) := by rw [argsR_eq, h]; simp only [takesR_yes hm]
set_option maxRecDepth 100000 in
set_option maxHeartbeats 4000000 in
theorem named_opens {xs : List O} {n : Nat} (ih : IHT xs n) {D M : Nat → Bool} {w : World} {rb : Nat} {s : RS} (h : St D M w rb xs s) (hlt : s.rest.length < n) (q : TokP) (hq : tokOk q) (most : Int) (hm : isMinusR q (headR s) = false) (ho : q.1.opens = true) :
    Calls Tryz.prog 96 #[.pointer (some ⟨rb, 0, none⟩), tkVal q, .int .i64 most] w (TPost D M w rb xs (argsR (TERMX xs) q.1.text (dropR s))) := by
  obtain ⟨X, hX⟩ : ∃ X, argsR (TERMX xs) q.1.text (dropR s) = X := ⟨_, rfl⟩
  rw [hX]
  have HXX := Lib.hid hX
  obtain ⟨w1, hw1, hb1, hz1, hx1⟩ := box_new w #[.int .i64 (q.1.kind : Int), .string ⟨q.1.text.toArray⟩, .int .i64 (q.1.n : Int), .bool q.1.opens, .int .i64 (q.2 : Int)] 125
  obtain ⟨w2, hw2, hb2, hz2, hx2⟩ := box_new w1 #[.int .i64 0, .int .i64 0, .string ⟨#[]⟩, .slice none 0 0] 31
  have h2 := h.box (Ext.trans' hb1 hb2) hb1.size hx2.lt
  have HMd := Lib.hid h.md
  have HMB := Lib.hid (Old.out h hb1.size)
  have HMT := Lib.hid (Old.out h (Nat.le_refl _))
  have HSB := Lib.hid hb1.size
  have HT2 := Lib.hid (box_plus (D := D) (M := M) hb1 hb2)
  have HM := isMinus_at h2 q hq.2.2
  rw [hm] at HM
  have HM := Lib.hid HM
  have HS2 := Lib.hid h2
  have HX := Lib.hid hx2
  have HX1 := Lib.hid (hx1.ext hb2)
  obtain ⟨c0, c1, c2, c3, c4, cf⟩ := HX1.out.five
  have HQ := Lib.hid hq
  have HO := Lib.hid ho
  have HTK := Lib.hid (fun wq hq => take_at (h2.later (w' := wq) hq))
  obtain ⟨x, hx⟩ : ∃ x, headR s = x := ⟨_, rfl⟩
  rw [hx] at HTK
  have HLT := Lib.hid (show (dropR s).rest.length < n by have := dropS_le s; omega)
  have HIH := Lib.hid ih
  have hts : (⟨q.1.text.toArray⟩ : ByteArray).size ≤ BIG := by have := hq.2.1; show q.1.text.toArray.size ≤ _; simp; unfold BIG; omega
  have HTS := Lib.hid hts
  clear h hq hb1 hb2 hz1 hz2 hx1 hx2 h2 hm ho hx hX hlt ih hts
  go_enter Tryz.func96, Tryz.ntmps96
  go_wp2_with fail
  (try rw [hw1])
  (try rw [hw2])
  clear hw1 hw2
  (go_wp2_with fail; go_fit (HM.out); rintro e w3 ⟨rfl, hb3⟩)
  obtain ⟨c0, c1, c2, c3, c4, cf⟩ := (HX1.out.ext hb3).five
  rw [HO.out] at c3
  (go_wp2_with fail; go_fit (HTK.out _ hb3); rintro e w4 ⟨rfl, hs4, ht4⟩)
  have HI := Lib.hid (ritems_at HIH.out hs4 HLT.out)
  have HX4 := Lib.hid ((HX.out.ext hb3).turn ht4 HMB.out)
  have HX14 := Lib.hid ((HX1.out.ext hb3).turn ht4 HMT.out)
  have HT4 := Lib.hid ((HT2.out.trans (Turn.below hb3)).trans ht4)
  clear hb3 hs4 ht4 c0 c1 c2 c3 c4 cf
  (go_wp2_with fail; go_fit (HI.out); rintro e w5 ⟨D5, M5, l, v5, ok, rfl, hl5, ht5, ho5, hok5, hsm5⟩)
  obtain ⟨a5, c5, rfl, _⟩ := hl5.len
  obtain ⟨m5, hm5⟩ : ∃ m, l.length = m := ⟨_, rfl⟩
  rw [hm5] at hl5
  have HDB := Lib.hid ((ht5.dd _ HX4.out.lt).trans (plusB_self D _))
  have HMB5 := Lib.hid ((ht5.mm _ HX4.out.lt).trans HMB.out)
  have HX5 := Lib.hid (HX4.out.turn ht5 HMB.out)
  obtain ⟨c0, c1, c2, c3, c4, cf⟩ := (HX14.out.turn ht5 HMT.out).five
  have HT5 := Lib.hid (HT4.out.trans ht5)
  have HO5 := Lib.hid ho5
  have HSM := Lib.hid hsm5
  have HOK := Lib.hid hok5
  have HCM := comp_hide (s := ⟨q.1.text.toArray⟩) HTS.out ho5.2 hl5
  rw [hm5] at HCM
  have HCM := Lib.hid HCM
  simp only [hm5]
  clear hl5 ht5 ho5 hok5 hsm5 hm5 HI
  (go_wp2_with fail; go_fit (HCM.out); rintro e w6 ⟨a6, c6, rfl, hv6, hb6⟩)
  have HV6 := Lib.hid hv6
  have HB6 := Lib.hid hb6
  have HX6 := Lib.hid (HX5.out.ext hb6)
  clear hv6 hb6 c0 c1 c2 c3 c4 cf HCM
  cases hI : ITEMS (preO xs) (betO xs) (dropR s) with
  | none =>
    obtain rfl : ok = false := by rw [HOK.out, hI]; rfl
    have HN := Lib.hid (show X = none from HXX.out.symm.trans (args_none hI))
    obtain ⟨r0, r1, r2, r3, rf⟩ := HX6.out.four
    clear hI
    go_wp2
    refine bodyPost_ret (v := .tuple #[.agg #[.int .i64 2, .int .i64 0, .string ⟨q.1.text.toArray⟩, .slice a6 m5 c6], .int .i64 0, .bool false]) (by rw [results_cell3 rfl]; go_simp) rfl ?_
    exact tdone_none (HT5.out.trans (Turn.below HB6.out)) (HO5.out.later HB6.out.size) HMd.out HSB.out HDB.out HV6.out HN.out
  | some p =>
    obtain ⟨l', s1⟩ := p
    obtain rfl : ok = true := by rw [HOK.out, hI]; rfl
    obtain ⟨rfl, hs5⟩ := HSM.out _ _ hI
    have hs6 := hs5.later HB6.out
    have HTK2 := Lib.hid (takes_at hs6 [41])
    have HMD := Lib.hid hs6.md
    have HI2 := Lib.hid hI
    clear hI hs5 hs6
    cases hmk : isMark [41] (headR s1) with
    | false =>
      rw [hmk] at HTK2
      have HN := Lib.hid (show X = none from HXX.out.symm.trans (args_open HI2.out hmk))
      clear hmk
      (go_wp2_with fail; go_fit (HTK2.out); rintro e w7 ⟨rfl, hs7, ht7⟩)
      obtain ⟨r0, r1, r2, r3, rf⟩ := (HX6.out.turn ht7 HMB5.out).four
      have HS7 := Lib.hid hs7
      have HT7 := Lib.hid ht7
      clear hs7 ht7
      go_wp2
      refine bodyPost_ret (v := .tuple #[.agg #[.int .i64 2, .int .i64 0, .string ⟨q.1.text.toArray⟩, .slice a6 m5 c6], .int .i64 0, .bool false]) (by rw [results_cell3 rfl]; go_simp) rfl ?_
      exact tdone_none ((HT5.out.trans (Turn.below HB6.out)).trans HT7.out) HS7.out.okd HMd.out HSB.out HDB.out (TmV.stay (HT7.out.stays HMD.out) _ _ HV6.out) HN.out
    | true =>
      rw [hmk] at HTK2
      have HN := Lib.hid (show X = some ((.mk 2 0 (ba q.1.text) l, 0), takesS [41] s1) from HXX.out.symm.trans (args_done HI2.out hmk))
      clear hmk
      (go_wp2_with fail; go_fit (HTK2.out); rintro e w7 ⟨rfl, hs7, ht7⟩)
      obtain ⟨r0, r1, r2, r3, rf⟩ := (HX6.out.turn ht7 HMB5.out).four
      have HS7 := Lib.hid hs7
      have HT7 := Lib.hid ht7
      clear hs7 ht7
      go_wp2
      refine bodyPost_ret (v := .tuple #[.agg #[.int .i64 2, .int .i64 0, .string ⟨q.1.text.toArray⟩, .slice a6 m5 c6], .int .i64 0, .bool true]) (by rw [results_cell3 rfl]; go_simp) rfl ?_
      exact tdone_some ((HT5.out.trans (Turn.below HB6.out)).trans HT7.out) HS7.out HMd.out HSB.out HDB.out HMB5.out (TmV.stay (HT7.out.stays HMD.out) _ _ HV6.out) HN.out
end Go.Proofs.YtaojalicnnnkmaaGreatDoor
/- The project's reader: named: an operator ahead. -/
namespace Go.Proofs.YtaojalicnnnkmaaGreatDoor
open Go.Shelf Go.RowKit
set_option linter.unusedVariables false

theorem box_ext_new (w : World) (cs : Array Value) (ty : TypeId) {w' : World} (hb : Below (w.alloc (.cells cs ty)).heap.size (w.alloc (.cells cs ty)) w') : Box w' w.heap.size cs.toList := by
  obtain ⟨w1, rfl, _, _, h⟩ := box_new w cs ty
  exact h.ext hb
theorem Box.all3 {w : World} {b : Nat} {v0 v1 v2 : Value} (h : Box w b [v0, v1, v2]) (u0 u1 u2 : Value) : Box (set3 w b u0 u1 u2) b [u0, u1, u2] :=
  ((h.set (k := 0) (by simp)).set (k := 1) (by simp)).set (k := 2) (by simp)
theorem ahead_none {T : TFun} {name : List UInt8} {o : O} {s : RS} {sr : Int} (hs : (sidesB (bl o.k) o.l).2 = sr) (h : T sr s = none) : aheadR T name o s = none := by unfold aheadR; rw [hs, h]
theorem ahead_some {T : TFun} {name : List UInt8} {o : O} {s s1 : RS} {sr : Int} {p : TL} (hs : (sidesB (bl o.k) o.l).2 = sr) (h : T sr s = some (p, s1)) : aheadR T name o s = some ((.mk 2 0 (ba name) [p.1], o.l), s1) := by unfold aheadR; rw [hs, h]
set_option maxRecDepth 100000 in
set_option maxHeartbeats 8000000 in
theorem named_ahead {xs : List O} {n : Nat} (ih : IHT xs n) {D M : Nat → Bool} {w : World} {rb : Nat} {s : RS} (h : St D M w rb xs s) (hlt : s.rest.length < n) (q : TokP) (hq : tokOk q) (most : Int) (hm : isMinusR q (headR s) = false) (ho : q.1.opens = false) (hk : q.1.kind = 1)
    (pn pk : ByteArray) (pl : Int) (hpre : oneB xs q.1.text 1 = (⟨pn, pk, pl⟩, true)) (hle : pl ≤ most) (hbg : beginsR (preO xs) (betO xs) (headR s) = true) :
    Calls Tryz.prog 96 #[.pointer (some ⟨rb, 0, none⟩), tkVal q, .int .i64 most] w (TPost D M w rb xs (aheadR (TERMX xs) q.1.text ⟨pn, pk, pl⟩ s)) := by
  obtain ⟨X, hX⟩ : ∃ X, aheadR (TERMX xs) q.1.text ⟨pn, pk, pl⟩ s = X := ⟨_, rfl⟩
  rw [hX]
  have HXX := Lib.hid hX
  obtain ⟨w1, hw1, hb1, hz1, hx1⟩ := box_new w #[.int .i64 (q.1.kind : Int), .string ⟨q.1.text.toArray⟩, .int .i64 (q.1.n : Int), .bool q.1.opens, .int .i64 (q.2 : Int)] 125
  obtain ⟨w2, hw2, hb2, hz2, hx2⟩ := box_new w1 #[.int .i64 0, .int .i64 0, .string ⟨#[]⟩, .slice none 0 0] 31
  have h2 := h.box (Ext.trans' hb1 hb2) hb1.size hx2.lt
  have HMd := Lib.hid h.md
  have HMB := Lib.hid (Old.out h hb1.size)
  have HMT := Lib.hid (Old.out h (Nat.le_refl _))
  have HSB := Lib.hid hb1.size
  have HT2 := Lib.hid (box_plus (D := D) (M := M) hb1 hb2)
  have HM := isMinus_at h2 q hq.2.2
  rw [hm] at HM
  have HM := Lib.hid HM
  have HS2 := Lib.hid h2
  have HX := Lib.hid hx2
  have HX1 := Lib.hid (hx1.ext hb2)
  obtain ⟨c0, c1, c2, c3, c4, cf⟩ := HX1.out.five
  have HQ := Lib.hid hq
  have HO := Lib.hid ho
  obtain ⟨⟨sl, sr⟩, hsd⟩ : ∃ r, sidesB (bl pk) pl = r := ⟨_, rfl⟩
  have HSD := Lib.hid (fun wq => sides_walk pn pk pl wq)
  rw [hsd] at HSD
  have HSR := Lib.hid (show (sidesB (bl pk) pl).2 = sr by rw [hsd])
  have hled : decide (pl ≤ most) = true := decide_eq_true hle
  clear hsd hle
  have HIH := Lib.hid ih
  have HLT := Lib.hid hlt
  have hts : (⟨q.1.text.toArray⟩ : ByteArray).size ≤ BIG := by have := hq.2.1; show q.1.text.toArray.size ≤ _; simp; unfold BIG; omega
  have HTS := Lib.hid hts
  have k2 : ((q.1.kind : Int) == 2) = false := by rw [hk]; rfl
  have hlt0 := h.lt
  have hrb1 : rb ≠ w1.heap.size := by omega
  have hne1 : w.heap.size ≠ w1.heap.size := by omega
  clear h hq hb1 hb2 hz1 hz2 hx1 hx2 h2 hm ho hk hX hlt ih hts
  go_enter Tryz.func96, Tryz.ntmps96
  go_wp2_with fail
  (try rw [hw1])
  (try rw [hw2])
  clear hw1 hw2
  (go_wp2_with fail; go_fit (HM.out); rintro e w3 ⟨rfl, hb3⟩)
  obtain ⟨c0, c1, c2, c3, c4, cf⟩ := (HX1.out.ext hb3).five
  rw [HO.out] at c3
  have HS3 := Lib.hid (HS2.out.later hb3)
  have HT3 := Lib.hid (HT2.out.trans (Turn.below hb3))
  have HX3 := Lib.hid (HX.out.ext hb3)
  have HX13 := Lib.hid (HX1.out.ext hb3)
  obtain ⟨vo, _, _, p0, _, _, _, _, po, _⟩ := HS3.out.parts
  have PO := Lib.hid po.bare
  have hn1 : rb ≠ w3.heap.size := (World.new_ne w3 _ p0).symm
  have hn2 : w.heap.size ≠ w3.heap.size := (World.new_ne w3 _ c1).symm
  have hn3 : w3.heap.size ≠ w1.heap.size := by have := HX3.out.lt; omega
  have hBw : w1.heap.size < w3.heap.size := HX3.out.lt
  have HP := Lib.hid (fun wq (hb : Below w3.heap.size w3 wq) (v : Value) (hv : Ops wq v xs) => pre_walk hv ⟨q.1.text.toArray⟩)
  rw [show bl (⟨q.1.text.toArray⟩ : ByteArray) = q.1.text from rfl, hpre] at HP
  clear hb3 po c2 c4 cf hpre
  go_wp2_with fail
  refine wp_region_held_drew (S := fun w' => (w'.cell? ⟨rb, 0, none⟩ = some vo ∧ w'.cell? ⟨w.heap.size, 1, none⟩ = some (.string ⟨q.1.text.toArray⟩)) ∧ Below w3.heap.size w3 w') (by kernel_rfl) ⟨⟨p0, c1⟩, (Below.refl _ _).drew⟩ (fun hHeld => ?_)
  first | (refine held_t (i := 0) hHeld ?_; apply Exists.intro; refine ⟨fun wq hq => ?_, ?_⟩; (focus ((try dsimp only at hq); go_simp; (first | done | with_reducible rfl | fail)))) | refine held_s (i := 0) hHeld ?_ | fail
  first | (refine held_t (i := 1) hHeld ?_; apply Exists.intro; refine ⟨fun wq hq => ?_, ?_⟩; (focus ((try dsimp only at hq); go_simp; (first | done | with_reducible rfl | fail)))) | refine held_s (i := 1) hHeld ?_ | fail
  first | (refine held_t (i := 2) hHeld ?_; apply Exists.intro; refine ⟨fun wq hq => ?_, ?_⟩; (focus ((try dsimp only at hq); go_simp; (first | done | with_reducible rfl | fail)))) | refine held_s (i := 2) hHeld ?_ | fail
  first | (refine held_t (i := 3) hHeld ?_; apply Exists.intro; refine ⟨fun wq hq => ?_, ?_⟩; (focus ((try dsimp only at hq); go_simp; (first | done | with_reducible rfl | fail)))) | refine held_s (i := 3) hHeld ?_ | fail
  first | (refine held_t (i := 4) hHeld ?_; apply Exists.intro; refine ⟨fun wq hq => ?_, ?_⟩; (focus ((try dsimp only at hq); go_simp; (first | done | with_reducible rfl | fail)))) | refine held_s (i := 4) hHeld ?_ | fail
  first | (refine held_t (i := 5) hHeld ?_; apply Exists.intro; refine ⟨fun wq hq => ?_, ?_⟩; (focus ((try dsimp only at hq); go_simp; (first | done | with_reducible rfl | fail)))) | refine held_s (i := 5) hHeld ?_ | fail
  try simp only [Act.put, List.setIfInBounds_toArray, List.set_cons_zero, List.set_cons_succ]
  refine wpAnyH_ready (rs := [6, 10]) (by kernel_rfl) (by simp) ?_
  refine AllReadyH.cons (by simp only [List.getElem?_toArray, List.getElem?_cons_zero, List.getElem?_cons_succ]; rfl) (fun K hK => ?_) (AllReadyH.cons (by simp only [List.getElem?_toArray, List.getElem?_cons_zero, List.getElem?_cons_succ]; rfl) (fun K hK => ?_) AllReadyH.nil)
  · go_simp
    (go_at_call 118; refine (HP.out _ hHeld.2 _ (PO.out.ext hHeld.2)).mono ?_; rintro e w4 ⟨rfl, hb4⟩)
    refine hK.out _ _ (⟨⟨cell_later hb4 hHeld.1.1, cell_later hb4 hHeld.1.2⟩, Ext.trans' hHeld.2 hb4⟩) (fun hHeld => ?_)
    clear hK K
    try simp only [Act.put, List.setIfInBounds_toArray, List.set_cons_zero, List.set_cons_succ]
    have hS4 := hHeld
    first | (refine held_t (i := 7) hHeld ?_; apply Exists.intro; refine ⟨fun wq hq => ?_, ?_⟩; (focus ((try dsimp only at hq); go_simp; (first | done | with_reducible rfl | fail)))) | refine held_s (i := 7) hHeld ?_ | fail
    first | (refine held_t (i := 8) hHeld ?_; apply Exists.intro; refine ⟨fun wq hq => ?_, ?_⟩; (focus ((try dsimp only at hq); go_simp; (first | done | with_reducible rfl | fail)))) | refine held_s (i := 8) hHeld ?_ | fail
    first | (refine held_t (i := 9) hHeld ?_; apply Exists.intro; refine ⟨fun wq hq => ?_, ?_⟩; (focus ((try dsimp only at hq); go_simp; (first | done | with_reducible rfl | fail)))) | refine held_s (i := 9) hHeld ?_ | fail
    try simp only [Act.put, List.setIfInBounds_toArray, List.set_cons_zero, List.set_cons_succ]
    refine held_c 10 fun K hK => ?_
    go_simp
    skip
    refine hK.out _ _ (⟨⟨cell_later (bel1' _ _) hHeld.1.1, cell_later (bel1' _ _) hHeld.1.2⟩, Ext.trans' hHeld.2 (bel1' _ _)⟩) (fun hHeld => ?_)
    clear hK K
    try simp only [Act.put, List.setIfInBounds_toArray, List.set_cons_zero, List.set_cons_succ]
    refine held_c 11 fun K hK => ?_
    go_simp
    skip
    refine hK.out _ _ (⟨⟨cell_later (bel1' _ _) hS4.1.1, cell_later (bel1' _ _) hS4.1.2⟩, Ext.trans' hS4.2 (bel1' _ _)⟩) (fun hHeld => ?_)
    clear hK K
    try simp only [Act.put, List.setIfInBounds_toArray, List.set_cons_zero, List.set_cons_succ]
    first | (refine held_t (i := 12) hHeld ?_; apply Exists.intro; refine ⟨fun wq hq => ?_, ?_⟩; (focus ((try dsimp only at hq); go_simp; (first | done | with_reducible rfl | fail)))) | refine held_s (i := 12) hHeld ?_ | fail
    try simp only [Act.put, List.setIfInBounds_toArray, List.set_cons_zero, List.set_cons_succ]
    refine wpAnyH_done (by kernel_rfl) ?_ _
    have HBX0 := Lib.hid (box_ext_new w4 #[.string pn, .string pk, .int .i64 pl] 93 (Below.refl _ _))
    have hAB : w4.heap.size ≠ w1.heap.size := by have := hS4.2.size; omega
    have hAge : w3.heap.size ≤ w4.heap.size := hS4.2.size
    have HB5 := Lib.hid hHeld.2
    clear hHeld hS4 hb4 p0 c1 c0 c3
    generalize World.alloc w4 (.cells #[.string pn, .string pk, .int .i64 pl] 93) = w5 at *
    generalize w4.heap.size = A at *
    have hs5 := HS3.out.later HB5.out
    have HBG := begins_at hs5
    rw [hbg] at HBG
    have HBG := Lib.hid HBG
    obtain ⟨b0, b1, b2, bf⟩ := HBX0.out.three
    clear hs5 HP PO hn1 hn2
    (go_wp2_with fail; go_fit (HBG.out); rintro e w6 ⟨rfl, hb6⟩)
    obtain ⟨b0, b1, b2, bf⟩ := (HBX0.out.ext hb6).three
    (go_wp2_with fail; go_fit (HSD.out _); rintro e w7 ⟨rfl, hb7⟩)
    have HB7 := Lib.hid (Ext.trans' (Ext.trans' HB5.out hb6) hb7)
    have HBX7 := Lib.hid ((HBX0.out.ext hb6).ext hb7)
    have hs7 := HS3.out.later HB7.out
    have HTM := Lib.hid (HIH.out _ _ _ rb _ sr hs7 HLT.out)
    have HMD7 := Lib.hid hs7.md
    have HX7 := Lib.hid (HX3.out.ext HB7.out)
    have HX17 := Lib.hid (HX13.out.ext HB7.out)
    have HT7 := Lib.hid (HT3.out.trans (Turn.below HB7.out))
    have HMA : Hid (∀ (b : Nat) (vs : List Value), Box w7 b vs → w3.heap.size ≤ b → M b = false) := Lib.hid (fun b vs hb hge => by
      cases hm : M b with
      | false => rfl
      | true => have h1 := HS3.out.md b hm; rw [HS3.out.old b hge] at h1; cases h1)
    have HMAx := Lib.hid (HMA.out _ _ HBX7.out (hAge))
    clear hb6 hb7 hs7 b0 b1 b2 bf HBG HSD HMA
    (go_wp2_with fail; go_fit (HTM.out); rintro e w8 ⟨D8, M8, t8, v8, lv8, ok, rfl, htv, ht8, ho8, hok8, hsm8⟩)
    obtain ⟨k8, n8, s8, a8, m8, c8, rfl⟩ := htv.full
    have HDB := Lib.hid ((ht8.dd _ HX7.out.lt).trans (plusB_self D _))
    have HMB8 := Lib.hid ((ht8.mm _ HX7.out.lt).trans HMB.out)
    have HX8 := Lib.hid (HX7.out.turn ht8 HMB.out)
    have HBX8 := Lib.hid (((HBX7.out.turn ht8 HMAx.out)).far4 hAB (.int .i64 k8) (.int .i64 n8) (.string s8) (.slice a8 m8 c8))
    have HX18 := Lib.hid ((HX17.out.turn ht8 HMT.out).far4 hne1 (.int .i64 k8) (.int .i64 n8) (.string s8) (.slice a8 m8 c8))
    have HT9 := Lib.hid ((HT7.out.trans ht8).set4 (b := w1.heap.size) (Or.inl HSB.out) (.int .i64 k8) (.int .i64 n8) (.string s8) (.slice a8 m8 c8))
    have HV9 := Lib.hid (htv.put4 HDB.out (.int .i64 k8) (.int .i64 n8) (.string s8) (.slice a8 m8 c8))
    have HO9 := Lib.hid (ho8.put4 w1.heap.size (.int .i64 k8) (.int .i64 n8) (.string s8) (.slice a8 m8 c8))
    have HX9 := Lib.hid (HX8.out.all4 (.int .i64 k8) (.int .i64 n8) (.string s8) (.slice a8 m8 c8))
    have HSM := Lib.hid hsm8
    have HOK := Lib.hid hok8
    obtain ⟨r0, r1, r2, r3, rf⟩ := HX8.out.four
    clear htv ht8 ho8 hok8 hsm8
    obtain ⟨w9, hw9⟩ : ∃ w9, set4 w8 w1.heap.size (.int .i64 k8) (.int .i64 n8) (.string s8) (.slice a8 m8 c8) = w9 := ⟨_, rfl⟩
    rw [hw9] at HT9 HV9 HO9 HX9 HBX8 HX18
    obtain ⟨u0, u1, u2, u3, uf⟩ := HX9.out.four
    obtain ⟨b0, b1, b2, bf⟩ := HBX8.out.three
    obtain ⟨_, c1, _, _, _, _⟩ := HX18.out.five
    have HCM := Lib.hid (comp_hide (w := w9.drew.alloc (.cells #[.int .i64 k8, .int .i64 n8, .string s8, .slice a8 m8 c8] 31)) (D := D8) ⟨q.1.text.toArray⟩ HTS.out (HO9.out.2.mono (show w9.heap.size ≤ _ from (bel1' w9.drew _).size)) (tms_one (w := w9.drew) HO9.out.2 (TmV.later (Below.refl _ _).drew HV9.out) _))
    cases hX1 : TERMX xs sr s with
    | none =>
      obtain rfl : ok = false := by rw [HOK.out, hX1]; rfl
      have HN := Lib.hid (show X = none from HXX.out.symm.trans (ahead_none HSR.out hX1))
      clear hX1
      go_wp2_with fail
      (try rw [hw9])
      clear hw9
      refine wp_region_held_drew (S := fun w' => w'.cell? ⟨w.heap.size, 1, none⟩ = some (.string ⟨q.1.text.toArray⟩) ∧ w'.cell? ⟨A, 2, none⟩ = some (.int .i64 pl)) (by kernel_rfl) ⟨c1, b2⟩ (fun hHeld => ?_)
      first | (refine held_t (i := 0) hHeld ?_; apply Exists.intro; refine ⟨fun wq hq => ?_, ?_⟩; (focus ((try dsimp only at hq); go_simp; (first | done | with_reducible rfl | fail)))) | refine held_s (i := 0) hHeld ?_ | fail
      first | (refine held_t (i := 1) hHeld ?_; apply Exists.intro; refine ⟨fun wq hq => ?_, ?_⟩; (focus ((try dsimp only at hq); go_simp; (first | done | with_reducible rfl | fail)))) | refine held_s (i := 1) hHeld ?_ | fail
      first | (refine held_t (i := 5) hHeld ?_; apply Exists.intro; refine ⟨fun wq hq => ?_, ?_⟩; (focus ((try dsimp only at hq); go_simp; (first | done | with_reducible rfl | fail)))) | refine held_s (i := 5) hHeld ?_ | fail
      first | (refine held_t (i := 6) hHeld ?_; apply Exists.intro; refine ⟨fun wq hq => ?_, ?_⟩; (focus ((try dsimp only at hq); go_simp; (first | done | with_reducible rfl | fail)))) | refine held_s (i := 6) hHeld ?_ | fail
      first | (refine held_t (i := 7) hHeld ?_; apply Exists.intro; refine ⟨fun wq hq => ?_, ?_⟩; (focus ((try dsimp only at hq); go_simp; (first | done | with_reducible rfl | fail)))) | refine held_s (i := 7) hHeld ?_ | fail
      try simp only [Act.put, List.setIfInBounds_toArray, List.set_cons_zero, List.set_cons_succ]
      refine held_c 2 fun K hK => ?_
      go_simp
      skip
      refine hK.out _ _ (hHeld) (fun hHeld => ?_)
      clear hK K
      try simp only [Act.put, List.setIfInBounds_toArray, List.set_cons_zero, List.set_cons_succ]
      refine held_c 3 fun K hK => ?_
      go_simp
      skip
      refine hK.out _ _ (⟨cell_later (bel1' _ _) hHeld.1, cell_later (bel1' _ _) hHeld.2⟩) (fun hHeld => ?_)
      clear hK K
      try simp only [Act.put, List.setIfInBounds_toArray, List.set_cons_zero, List.set_cons_succ]
      refine held_c 4 fun K hK => ?_
      go_simp
      (go_at_call 26; refine HCM.out.mono ?_; rintro e w11 ⟨a11, c11, rfl, hv11, hb11⟩; obtain ⟨r0, r1, r2, r3, rf⟩ := ((HX9.out.ext (Below.refl _ _).drew).ext (Ext.trans' (bel1' _ _) hb11)).four; have HV11 := Lib.hid hv11; have HB11 := Lib.hid (Ext.trans' (Below.refl w9.heap.size w9).drew (Ext.trans' (bel1' w9.drew _) hb11)))
      refine hK.out _ _ (⟨cell_later hb11 hHeld.1, cell_later hb11 hHeld.2⟩) (fun hHeld => ?_)
      clear hK K
      try simp only [Act.put, List.setIfInBounds_toArray, List.set_cons_zero, List.set_cons_succ]
      refine held_c 8 fun K hK => ?_
      go_simp
      skip
      refine hK.out _ _ (⟨far4 hHeld.1 hne1 _ _ _ _, far4 hHeld.2 hAB _ _ _ _⟩) (fun hHeld => ?_)
      clear hK K
      try simp only [Act.put, List.setIfInBounds_toArray, List.set_cons_zero, List.set_cons_succ]
      first | (refine held_t (i := 9) hHeld ?_; apply Exists.intro; refine ⟨fun wq hq => ?_, ?_⟩; (focus ((try dsimp only at hq); go_simp; (first | done | with_reducible rfl | fail)))) | refine held_s (i := 9) hHeld ?_ | fail
      first | (refine held_t (i := 10) hHeld ?_; apply Exists.intro; refine ⟨fun wq hq => ?_, ?_⟩; (focus ((try dsimp only at hq); go_simp; (first | done | with_reducible rfl | fail)))) | refine held_s (i := 10) hHeld ?_ | fail
      try simp only [Act.put, List.setIfInBounds_toArray, List.set_cons_zero, List.set_cons_succ]
      refine wpAnyH_done (by kernel_rfl) ?_ _
      go_wp2
      refine bodyPost_ret (v := .tuple #[.agg #[.int .i64 2, .int .i64 0, .string ⟨q.1.text.toArray⟩, .slice a11 1 c11], .int .i64 pl, .bool false]) (by rw [results_cell3 rfl]; go_simp) rfl ?_
      exact tdone_none (HT9.out.trans (Turn.below HB11.out)) (HO9.out.later HB11.out.size) HMd.out HSB.out HDB.out HV11.out HN.out
    | some p =>
      obtain ⟨⟨tq, lq⟩, s1⟩ := p
      obtain rfl : ok = true := by rw [HOK.out, hX1]; rfl
      obtain ⟨rfl, rfl, hs8⟩ := HSM.out _ _ hX1
      have HN := Lib.hid (show X = some ((.mk 2 0 (ba q.1.text) [t8], pl), s1) from HXX.out.symm.trans (ahead_some HSR.out hX1))
      have hs9 := hs8.put4 HDB.out HMB8.out (.int .i64 k8) (.int .i64 n8) (.string s8) (.slice a8 m8 c8)
      rw [hw9] at hs9
      have HS9 := Lib.hid hs9
      clear hX1 hs8 hs9
      go_wp2_with fail
      (try rw [hw9])
      clear hw9
      refine wp_region_held_drew (S := fun w' => w'.cell? ⟨w.heap.size, 1, none⟩ = some (.string ⟨q.1.text.toArray⟩) ∧ w'.cell? ⟨A, 2, none⟩ = some (.int .i64 pl)) (by kernel_rfl) ⟨c1, b2⟩ (fun hHeld => ?_)
      first | (refine held_t (i := 0) hHeld ?_; apply Exists.intro; refine ⟨fun wq hq => ?_, ?_⟩; (focus ((try dsimp only at hq); go_simp; (first | done | with_reducible rfl | fail)))) | refine held_s (i := 0) hHeld ?_ | fail
      first | (refine held_t (i := 1) hHeld ?_; apply Exists.intro; refine ⟨fun wq hq => ?_, ?_⟩; (focus ((try dsimp only at hq); go_simp; (first | done | with_reducible rfl | fail)))) | refine held_s (i := 1) hHeld ?_ | fail
      first | (refine held_t (i := 5) hHeld ?_; apply Exists.intro; refine ⟨fun wq hq => ?_, ?_⟩; (focus ((try dsimp only at hq); go_simp; (first | done | with_reducible rfl | fail)))) | refine held_s (i := 5) hHeld ?_ | fail
      first | (refine held_t (i := 6) hHeld ?_; apply Exists.intro; refine ⟨fun wq hq => ?_, ?_⟩; (focus ((try dsimp only at hq); go_simp; (first | done | with_reducible rfl | fail)))) | refine held_s (i := 6) hHeld ?_ | fail
      first | (refine held_t (i := 7) hHeld ?_; apply Exists.intro; refine ⟨fun wq hq => ?_, ?_⟩; (focus ((try dsimp only at hq); go_simp; (first | done | with_reducible rfl | fail)))) | refine held_s (i := 7) hHeld ?_ | fail
      try simp only [Act.put, List.setIfInBounds_toArray, List.set_cons_zero, List.set_cons_succ]
      refine held_c 2 fun K hK => ?_
      go_simp
      skip
      refine hK.out _ _ (hHeld) (fun hHeld => ?_)
      clear hK K
      try simp only [Act.put, List.setIfInBounds_toArray, List.set_cons_zero, List.set_cons_succ]
      refine held_c 3 fun K hK => ?_
      go_simp
      skip
      refine hK.out _ _ (⟨cell_later (bel1' _ _) hHeld.1, cell_later (bel1' _ _) hHeld.2⟩) (fun hHeld => ?_)
      clear hK K
      try simp only [Act.put, List.setIfInBounds_toArray, List.set_cons_zero, List.set_cons_succ]
      refine held_c 4 fun K hK => ?_
      go_simp
      (go_at_call 26; refine HCM.out.mono ?_; rintro e w11 ⟨a11, c11, rfl, hv11, hb11⟩; obtain ⟨r0, r1, r2, r3, rf⟩ := ((HX9.out.ext (Below.refl _ _).drew).ext (Ext.trans' (bel1' _ _) hb11)).four; have HV11 := Lib.hid hv11; have HB11 := Lib.hid (Ext.trans' (Below.refl w9.heap.size w9).drew (Ext.trans' (bel1' w9.drew _) hb11)))
      refine hK.out _ _ (⟨cell_later hb11 hHeld.1, cell_later hb11 hHeld.2⟩) (fun hHeld => ?_)
      clear hK K
      try simp only [Act.put, List.setIfInBounds_toArray, List.set_cons_zero, List.set_cons_succ]
      refine held_c 8 fun K hK => ?_
      go_simp
      skip
      refine hK.out _ _ (⟨far4 hHeld.1 hne1 _ _ _ _, far4 hHeld.2 hAB _ _ _ _⟩) (fun hHeld => ?_)
      clear hK K
      try simp only [Act.put, List.setIfInBounds_toArray, List.set_cons_zero, List.set_cons_succ]
      first | (refine held_t (i := 9) hHeld ?_; apply Exists.intro; refine ⟨fun wq hq => ?_, ?_⟩; (focus ((try dsimp only at hq); go_simp; (first | done | with_reducible rfl | fail)))) | refine held_s (i := 9) hHeld ?_ | fail
      first | (refine held_t (i := 10) hHeld ?_; apply Exists.intro; refine ⟨fun wq hq => ?_, ?_⟩; (focus ((try dsimp only at hq); go_simp; (first | done | with_reducible rfl | fail)))) | refine held_s (i := 10) hHeld ?_ | fail
      try simp only [Act.put, List.setIfInBounds_toArray, List.set_cons_zero, List.set_cons_succ]
      refine wpAnyH_done (by kernel_rfl) ?_ _
      go_wp2
      refine bodyPost_ret (v := .tuple #[.agg #[.int .i64 2, .int .i64 0, .string ⟨q.1.text.toArray⟩, .slice a11 1 c11], .int .i64 pl, .bool true]) (by rw [results_cell3 rfl]; go_simp) rfl ?_
      exact tdone_some (HT9.out.trans (Turn.below HB11.out)) (HS9.out.later HB11.out) HMd.out HSB.out HDB.out HMB8.out HV11.out HN.out
  · go_simp
    skip
    refine hK.out _ _ (⟨⟨cell_later (bel1' _ _) hHeld.1.1, cell_later (bel1' _ _) hHeld.1.2⟩, Ext.trans' hHeld.2 (bel1' _ _)⟩) (fun hHeld => ?_)
    clear hK K
    try simp only [Act.put, List.setIfInBounds_toArray, List.set_cons_zero, List.set_cons_succ]
    refine held_c 6 fun K hK => ?_
    go_simp
    (go_at_call 118; refine (HP.out _ hHeld.2 _ (PO.out.ext hHeld.2)).mono ?_; rintro e w4 ⟨rfl, hb4⟩; have hbx : Box w4 w3.heap.size [.string ⟨#[]⟩, .string ⟨#[]⟩, .int .i64 0] := box_ext_new w3.drew _ _ hb4; obtain ⟨e0, e1, e2, ef⟩ := hbx.three)
    refine hK.out _ _ (⟨⟨cell_later hb4 hHeld.1.1, cell_later hb4 hHeld.1.2⟩, Ext.trans' hHeld.2 hb4⟩) (fun hHeld => ?_)
    clear hK K
    try simp only [Act.put, List.setIfInBounds_toArray, List.set_cons_zero, List.set_cons_succ]
    first | (refine held_t (i := 7) hHeld ?_; apply Exists.intro; refine ⟨fun wq hq => ?_, ?_⟩; (focus ((try dsimp only at hq); go_simp; (first | done | with_reducible rfl | fail)))) | refine held_s (i := 7) hHeld ?_ | fail
    first | (refine held_t (i := 8) hHeld ?_; apply Exists.intro; refine ⟨fun wq hq => ?_, ?_⟩; (focus ((try dsimp only at hq); go_simp; (first | done | with_reducible rfl | fail)))) | refine held_s (i := 8) hHeld ?_ | fail
    first | (refine held_t (i := 9) hHeld ?_; apply Exists.intro; refine ⟨fun wq hq => ?_, ?_⟩; (focus ((try dsimp only at hq); go_simp; (first | done | with_reducible rfl | fail)))) | refine held_s (i := 9) hHeld ?_ | fail
    try simp only [Act.put, List.setIfInBounds_toArray, List.set_cons_zero, List.set_cons_succ]
    refine held_c 11 fun K hK => ?_
    go_simp
    skip
    refine hK.out _ _ (⟨⟨far3 hHeld.1.1 hn1 _ _ _, far3 hHeld.1.2 hn2 _ _ _⟩, Below.set3 hHeld.2 (Nat.le_refl _) _ _ _⟩) (fun hHeld => ?_)
    clear hK K
    try simp only [Act.put, List.setIfInBounds_toArray, List.set_cons_zero, List.set_cons_succ]
    first | (refine held_t (i := 12) hHeld ?_; apply Exists.intro; refine ⟨fun wq hq => ?_, ?_⟩; (focus ((try dsimp only at hq); go_simp; (first | done | with_reducible rfl | fail)))) | refine held_s (i := 12) hHeld ?_ | fail
    try simp only [Act.put, List.setIfInBounds_toArray, List.set_cons_zero, List.set_cons_succ]
    refine wpAnyH_done (by kernel_rfl) ?_ _
    have HBX0 := Lib.hid (show Box (((w4.setCell ⟨w3.heap.size, 0, none⟩ (.string pn)).setCell ⟨w3.heap.size, 1, none⟩ (.string pk)).setCell ⟨w3.heap.size, 2, none⟩ (.int .i64 pl)) w3.heap.size [.string pn, .string pk, .int .i64 pl] from hbx.all3 (.string pn) (.string pk) (.int .i64 pl))
    have hAB : w3.heap.size ≠ w1.heap.size := hn3
    have HB5 := Lib.hid (show Below w3.heap.size w3 (((w4.setCell ⟨w3.heap.size, 0, none⟩ (.string pn)).setCell ⟨w3.heap.size, 1, none⟩ (.string pk)).setCell ⟨w3.heap.size, 2, none⟩ (.int .i64 pl)) from hHeld.2)
    clear hHeld hb4 hbx e0 e1 e2 ef p0 c1 c0 c3
    generalize (((w4.setCell ⟨w3.heap.size, 0, none⟩ (.string pn)).setCell ⟨w3.heap.size, 1, none⟩ (.string pk)).setCell ⟨w3.heap.size, 2, none⟩ (.int .i64 pl)) = w5 at *
    have hs5 := HS3.out.later HB5.out
    have HBG := begins_at hs5
    rw [hbg] at HBG
    have HBG := Lib.hid HBG
    obtain ⟨b0, b1, b2, bf⟩ := HBX0.out.three
    clear hs5 HP PO hn1 hn2
    (go_wp2_with fail; go_fit (HBG.out); rintro e w6 ⟨rfl, hb6⟩)
    obtain ⟨b0, b1, b2, bf⟩ := (HBX0.out.ext hb6).three
    (go_wp2_with fail; go_fit (HSD.out _); rintro e w7 ⟨rfl, hb7⟩)
    have HB7 := Lib.hid (Ext.trans' (Ext.trans' HB5.out hb6) hb7)
    have HBX7 := Lib.hid ((HBX0.out.ext hb6).ext hb7)
    have hs7 := HS3.out.later HB7.out
    have HTM := Lib.hid (HIH.out _ _ _ rb _ sr hs7 HLT.out)
    have HMD7 := Lib.hid hs7.md
    have HX7 := Lib.hid (HX3.out.ext HB7.out)
    have HX17 := Lib.hid (HX13.out.ext HB7.out)
    have HT7 := Lib.hid (HT3.out.trans (Turn.below HB7.out))
    have HMA : Hid (∀ (b : Nat) (vs : List Value), Box w7 b vs → w3.heap.size ≤ b → M b = false) := Lib.hid (fun b vs hb hge => by
      cases hm : M b with
      | false => rfl
      | true => have h1 := HS3.out.md b hm; rw [HS3.out.old b hge] at h1; cases h1)
    have HMAx := Lib.hid (HMA.out _ _ HBX7.out (Nat.le_refl _))
    clear hb6 hb7 hs7 b0 b1 b2 bf HBG HSD HMA
    (go_wp2_with fail; go_fit (HTM.out); rintro e w8 ⟨D8, M8, t8, v8, lv8, ok, rfl, htv, ht8, ho8, hok8, hsm8⟩)
    obtain ⟨k8, n8, s8, a8, m8, c8, rfl⟩ := htv.full
    have HDB := Lib.hid ((ht8.dd _ HX7.out.lt).trans (plusB_self D _))
    have HMB8 := Lib.hid ((ht8.mm _ HX7.out.lt).trans HMB.out)
    have HX8 := Lib.hid (HX7.out.turn ht8 HMB.out)
    have HBX8 := Lib.hid (((HBX7.out.turn ht8 HMAx.out)).far4 hAB (.int .i64 k8) (.int .i64 n8) (.string s8) (.slice a8 m8 c8))
    have HX18 := Lib.hid ((HX17.out.turn ht8 HMT.out).far4 hne1 (.int .i64 k8) (.int .i64 n8) (.string s8) (.slice a8 m8 c8))
    have HT9 := Lib.hid ((HT7.out.trans ht8).set4 (b := w1.heap.size) (Or.inl HSB.out) (.int .i64 k8) (.int .i64 n8) (.string s8) (.slice a8 m8 c8))
    have HV9 := Lib.hid (htv.put4 HDB.out (.int .i64 k8) (.int .i64 n8) (.string s8) (.slice a8 m8 c8))
    have HO9 := Lib.hid (ho8.put4 w1.heap.size (.int .i64 k8) (.int .i64 n8) (.string s8) (.slice a8 m8 c8))
    have HX9 := Lib.hid (HX8.out.all4 (.int .i64 k8) (.int .i64 n8) (.string s8) (.slice a8 m8 c8))
    have HSM := Lib.hid hsm8
    have HOK := Lib.hid hok8
    obtain ⟨r0, r1, r2, r3, rf⟩ := HX8.out.four
    clear htv ht8 ho8 hok8 hsm8
    obtain ⟨w9, hw9⟩ : ∃ w9, set4 w8 w1.heap.size (.int .i64 k8) (.int .i64 n8) (.string s8) (.slice a8 m8 c8) = w9 := ⟨_, rfl⟩
    rw [hw9] at HT9 HV9 HO9 HX9 HBX8 HX18
    obtain ⟨u0, u1, u2, u3, uf⟩ := HX9.out.four
    obtain ⟨b0, b1, b2, bf⟩ := HBX8.out.three
    obtain ⟨_, c1, _, _, _, _⟩ := HX18.out.five
    have HCM := Lib.hid (comp_hide (w := w9.drew.alloc (.cells #[.int .i64 k8, .int .i64 n8, .string s8, .slice a8 m8 c8] 31)) (D := D8) ⟨q.1.text.toArray⟩ HTS.out (HO9.out.2.mono (show w9.heap.size ≤ _ from (bel1' w9.drew _).size)) (tms_one (w := w9.drew) HO9.out.2 (TmV.later (Below.refl _ _).drew HV9.out) _))
    cases hX1 : TERMX xs sr s with
    | none =>
      obtain rfl : ok = false := by rw [HOK.out, hX1]; rfl
      have HN := Lib.hid (show X = none from HXX.out.symm.trans (ahead_none HSR.out hX1))
      clear hX1
      go_wp2_with fail
      (try rw [hw9])
      clear hw9
      refine wp_region_held_drew (S := fun w' => w'.cell? ⟨w.heap.size, 1, none⟩ = some (.string ⟨q.1.text.toArray⟩) ∧ w'.cell? ⟨w3.heap.size, 2, none⟩ = some (.int .i64 pl)) (by kernel_rfl) ⟨c1, b2⟩ (fun hHeld => ?_)
      first | (refine held_t (i := 0) hHeld ?_; apply Exists.intro; refine ⟨fun wq hq => ?_, ?_⟩; (focus ((try dsimp only at hq); go_simp; (first | done | with_reducible rfl | fail)))) | refine held_s (i := 0) hHeld ?_ | fail
      first | (refine held_t (i := 1) hHeld ?_; apply Exists.intro; refine ⟨fun wq hq => ?_, ?_⟩; (focus ((try dsimp only at hq); go_simp; (first | done | with_reducible rfl | fail)))) | refine held_s (i := 1) hHeld ?_ | fail
      first | (refine held_t (i := 5) hHeld ?_; apply Exists.intro; refine ⟨fun wq hq => ?_, ?_⟩; (focus ((try dsimp only at hq); go_simp; (first | done | with_reducible rfl | fail)))) | refine held_s (i := 5) hHeld ?_ | fail
      first | (refine held_t (i := 6) hHeld ?_; apply Exists.intro; refine ⟨fun wq hq => ?_, ?_⟩; (focus ((try dsimp only at hq); go_simp; (first | done | with_reducible rfl | fail)))) | refine held_s (i := 6) hHeld ?_ | fail
      first | (refine held_t (i := 7) hHeld ?_; apply Exists.intro; refine ⟨fun wq hq => ?_, ?_⟩; (focus ((try dsimp only at hq); go_simp; (first | done | with_reducible rfl | fail)))) | refine held_s (i := 7) hHeld ?_ | fail
      try simp only [Act.put, List.setIfInBounds_toArray, List.set_cons_zero, List.set_cons_succ]
      refine held_c 2 fun K hK => ?_
      go_simp
      skip
      refine hK.out _ _ (hHeld) (fun hHeld => ?_)
      clear hK K
      try simp only [Act.put, List.setIfInBounds_toArray, List.set_cons_zero, List.set_cons_succ]
      refine held_c 3 fun K hK => ?_
      go_simp
      skip
      refine hK.out _ _ (⟨cell_later (bel1' _ _) hHeld.1, cell_later (bel1' _ _) hHeld.2⟩) (fun hHeld => ?_)
      clear hK K
      try simp only [Act.put, List.setIfInBounds_toArray, List.set_cons_zero, List.set_cons_succ]
      refine held_c 4 fun K hK => ?_
      go_simp
      (go_at_call 26; refine HCM.out.mono ?_; rintro e w11 ⟨a11, c11, rfl, hv11, hb11⟩; obtain ⟨r0, r1, r2, r3, rf⟩ := ((HX9.out.ext (Below.refl _ _).drew).ext (Ext.trans' (bel1' _ _) hb11)).four; have HV11 := Lib.hid hv11; have HB11 := Lib.hid (Ext.trans' (Below.refl w9.heap.size w9).drew (Ext.trans' (bel1' w9.drew _) hb11)))
      refine hK.out _ _ (⟨cell_later hb11 hHeld.1, cell_later hb11 hHeld.2⟩) (fun hHeld => ?_)
      clear hK K
      try simp only [Act.put, List.setIfInBounds_toArray, List.set_cons_zero, List.set_cons_succ]
      refine held_c 8 fun K hK => ?_
      go_simp
      skip
      refine hK.out _ _ (⟨far4 hHeld.1 hne1 _ _ _ _, far4 hHeld.2 hAB _ _ _ _⟩) (fun hHeld => ?_)
      clear hK K
      try simp only [Act.put, List.setIfInBounds_toArray, List.set_cons_zero, List.set_cons_succ]
      first | (refine held_t (i := 9) hHeld ?_; apply Exists.intro; refine ⟨fun wq hq => ?_, ?_⟩; (focus ((try dsimp only at hq); go_simp; (first | done | with_reducible rfl | fail)))) | refine held_s (i := 9) hHeld ?_ | fail
      first | (refine held_t (i := 10) hHeld ?_; apply Exists.intro; refine ⟨fun wq hq => ?_, ?_⟩; (focus ((try dsimp only at hq); go_simp; (first | done | with_reducible rfl | fail)))) | refine held_s (i := 10) hHeld ?_ | fail
      try simp only [Act.put, List.setIfInBounds_toArray, List.set_cons_zero, List.set_cons_succ]
      refine wpAnyH_done (by kernel_rfl) ?_ _
      go_wp2
      refine bodyPost_ret (v := .tuple #[.agg #[.int .i64 2, .int .i64 0, .string ⟨q.1.text.toArray⟩, .slice a11 1 c11], .int .i64 pl, .bool false]) (by rw [results_cell3 rfl]; go_simp) rfl ?_
      exact tdone_none (HT9.out.trans (Turn.below HB11.out)) (HO9.out.later HB11.out.size) HMd.out HSB.out HDB.out HV11.out HN.out
    | some p =>
      obtain ⟨⟨tq, lq⟩, s1⟩ := p
      obtain rfl : ok = true := by rw [HOK.out, hX1]; rfl
      obtain ⟨rfl, rfl, hs8⟩ := HSM.out _ _ hX1
      have HN := Lib.hid (show X = some ((.mk 2 0 (ba q.1.text) [t8], pl), s1) from HXX.out.symm.trans (ahead_some HSR.out hX1))
      have hs9 := hs8.put4 HDB.out HMB8.out (.int .i64 k8) (.int .i64 n8) (.string s8) (.slice a8 m8 c8)
      rw [hw9] at hs9
      have HS9 := Lib.hid hs9
      clear hX1 hs8 hs9
      go_wp2_with fail
      (try rw [hw9])
      clear hw9
      refine wp_region_held_drew (S := fun w' => w'.cell? ⟨w.heap.size, 1, none⟩ = some (.string ⟨q.1.text.toArray⟩) ∧ w'.cell? ⟨w3.heap.size, 2, none⟩ = some (.int .i64 pl)) (by kernel_rfl) ⟨c1, b2⟩ (fun hHeld => ?_)
      first | (refine held_t (i := 0) hHeld ?_; apply Exists.intro; refine ⟨fun wq hq => ?_, ?_⟩; (focus ((try dsimp only at hq); go_simp; (first | done | with_reducible rfl | fail)))) | refine held_s (i := 0) hHeld ?_ | fail
      first | (refine held_t (i := 1) hHeld ?_; apply Exists.intro; refine ⟨fun wq hq => ?_, ?_⟩; (focus ((try dsimp only at hq); go_simp; (first | done | with_reducible rfl | fail)))) | refine held_s (i := 1) hHeld ?_ | fail
      first | (refine held_t (i := 5) hHeld ?_; apply Exists.intro; refine ⟨fun wq hq => ?_, ?_⟩; (focus ((try dsimp only at hq); go_simp; (first | done | with_reducible rfl | fail)))) | refine held_s (i := 5) hHeld ?_ | fail
      first | (refine held_t (i := 6) hHeld ?_; apply Exists.intro; refine ⟨fun wq hq => ?_, ?_⟩; (focus ((try dsimp only at hq); go_simp; (first | done | with_reducible rfl | fail)))) | refine held_s (i := 6) hHeld ?_ | fail
      first | (refine held_t (i := 7) hHeld ?_; apply Exists.intro; refine ⟨fun wq hq => ?_, ?_⟩; (focus ((try dsimp only at hq); go_simp; (first | done | with_reducible rfl | fail)))) | refine held_s (i := 7) hHeld ?_ | fail
      try simp only [Act.put, List.setIfInBounds_toArray, List.set_cons_zero, List.set_cons_succ]
      refine held_c 2 fun K hK => ?_
      go_simp
      skip
      refine hK.out _ _ (hHeld) (fun hHeld => ?_)
      clear hK K
      try simp only [Act.put, List.setIfInBounds_toArray, List.set_cons_zero, List.set_cons_succ]
      refine held_c 3 fun K hK => ?_
      go_simp
      skip
      refine hK.out _ _ (⟨cell_later (bel1' _ _) hHeld.1, cell_later (bel1' _ _) hHeld.2⟩) (fun hHeld => ?_)
      clear hK K
      try simp only [Act.put, List.setIfInBounds_toArray, List.set_cons_zero, List.set_cons_succ]
      refine held_c 4 fun K hK => ?_
      go_simp
      (go_at_call 26; refine HCM.out.mono ?_; rintro e w11 ⟨a11, c11, rfl, hv11, hb11⟩; obtain ⟨r0, r1, r2, r3, rf⟩ := ((HX9.out.ext (Below.refl _ _).drew).ext (Ext.trans' (bel1' _ _) hb11)).four; have HV11 := Lib.hid hv11; have HB11 := Lib.hid (Ext.trans' (Below.refl w9.heap.size w9).drew (Ext.trans' (bel1' w9.drew _) hb11)))
      refine hK.out _ _ (⟨cell_later hb11 hHeld.1, cell_later hb11 hHeld.2⟩) (fun hHeld => ?_)
      clear hK K
      try simp only [Act.put, List.setIfInBounds_toArray, List.set_cons_zero, List.set_cons_succ]
      refine held_c 8 fun K hK => ?_
      go_simp
      skip
      refine hK.out _ _ (⟨far4 hHeld.1 hne1 _ _ _ _, far4 hHeld.2 hAB _ _ _ _⟩) (fun hHeld => ?_)
      clear hK K
      try simp only [Act.put, List.setIfInBounds_toArray, List.set_cons_zero, List.set_cons_succ]
      first | (refine held_t (i := 9) hHeld ?_; apply Exists.intro; refine ⟨fun wq hq => ?_, ?_⟩; (focus ((try dsimp only at hq); go_simp; (first | done | with_reducible rfl | fail)))) | refine held_s (i := 9) hHeld ?_ | fail
      first | (refine held_t (i := 10) hHeld ?_; apply Exists.intro; refine ⟨fun wq hq => ?_, ?_⟩; (focus ((try dsimp only at hq); go_simp; (first | done | with_reducible rfl | fail)))) | refine held_s (i := 10) hHeld ?_ | fail
      try simp only [Act.put, List.setIfInBounds_toArray, List.set_cons_zero, List.set_cons_succ]
      refine wpAnyH_done (by kernel_rfl) ?_ _
      go_wp2
      refine bodyPost_ret (v := .tuple #[.agg #[.int .i64 2, .int .i64 0, .string ⟨q.1.text.toArray⟩, .slice a11 1 c11], .int .i64 pl, .bool true]) (by rw [results_cell3 rfl]; go_simp) rfl ?_
      exact tdone_some (HT9.out.trans (Turn.below HB11.out)) (HS9.out.later HB11.out) HMd.out HSB.out HDB.out HMB8.out HV11.out HN.out
end Go.Proofs.YtaojalicnnnkmaaGreatDoor
