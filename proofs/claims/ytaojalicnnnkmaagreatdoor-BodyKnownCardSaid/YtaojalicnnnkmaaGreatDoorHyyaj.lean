import Derived.Test.YtaojalicnnnkmaaGreatDoorHyyai
set_option linter.unusedVariables false
set_option linter.unusedSimpArgs false
/- The project's reader: what is left in the end; list. -/
namespace Go.Proofs.YtaojalicnnnkmaaGreatDoor
open Go.Shelf Go.RowKit
set_option linter.unusedVariables false
theorem TmV.put4 {D : Nat → Bool} {w : World} {t : Tm} {v : Value} (h : TmV (hide D w) t v) {b : Nat} (hd : D b = true) (u0 u1 u2 u3 : Value) : TmV (hide D (set4 w b u0 u1 u2 u3)) t v :=
  TmV.stay ((((Stays.set ⟨b, 0, none⟩ u0 hd).trans (Stays.set ⟨b, 1, none⟩ u1 hd)).trans (Stays.set ⟨b, 2, none⟩ u2 hd)).trans (Stays.set ⟨b, 3, none⟩ u3 hd)) t v h
theorem Tms.put4 {D : Nat → Bool} {w : World} {t : List Tm} {v : Value} (h : Tms (hide D w) v t) {b : Nat} (hd : D b = true) (u0 u1 u2 u3 : Value) : Tms (hide D (set4 w b u0 u1 u2 u3)) v t :=
  h.stay ((((Stays.set ⟨b, 0, none⟩ u0 hd).trans (Stays.set ⟨b, 1, none⟩ u1 hd)).trans (Stays.set ⟨b, 2, none⟩ u2 hd)).trans (Stays.set ⟨b, 3, none⟩ u3 hd))
theorem Okd.later {D M : Nat → Bool} {w w' : World} (h : Okd D M w) (hb : w.heap.size ≤ w'.heap.size) : Okd D M w' := ⟨h.1, h.2.mono hb⟩
theorem Okd.put4 {D M : Nat → Bool} {w : World} (h : Okd D M w) (b : Nat) (u0 u1 u2 u3 : Value) : Okd D M (set4 w b u0 u1 u2 u3) := h.later (by simp [World.setCell])
theorem Okd.box {D M : Nat → Bool} {w w' : World} (h : Okd D M w) (hb : w.heap.size ≤ w'.heap.size) {b : Nat} (hlt : b < w'.heap.size) : Okd (plusB D b) M w' :=
  ⟨fun k hk => plusB_of (h.1 k hk), fun k hk => (plusB_ne (by omega)).trans (h.2 k (Nat.le_trans hb hk))⟩
theorem Turn.into2 {D M D1 M1 : Nat → Bool} {w w1 w2 : World} (ht : Turn D M D1 M1 w w1) (hb : Below w1.heap.size w1 w2) {b : Nat} (hn : w1.heap.size ≤ b) : Turn D M (plusB D1 b) M1 w w2 := ht.trans (Turn.into hb hn)
theorem TmV.box {D : Nat → Bool} {w w' : World} {t : Tm} {v : Value} (h : TmV (hide D w) t v) (hb : Below w.heap.size w w') {b : Nat} (hn : w.heap.size ≤ b) : TmV (hide (plusB D b) w') t v :=
  TmV.stay (Stays.below hb fun k hk hd => (plusB_ne (by omega)).trans hd) t v h
theorem Tms.box {D : Nat → Bool} {w w' : World} {t : List Tm} {v : Value} (h : Tms (hide D w) v t) (hb : Below w.heap.size w w') {b : Nat} (hn : w.heap.size ≤ b) : Tms (hide (plusB D b) w') v t :=
  h.stay (Stays.below hb fun k hk hd => (plusB_ne (by omega)).trans hd)
theorem Box.far4 {w : World} {b c : Nat} {vs : List Value} (h : Box w b vs) (hne : b ≠ c) (u0 u1 u2 u3 : Value) : Box (set4 w c u0 u1 u2 u3) b vs := (((h.far hne).far hne).far hne).far hne
theorem Box.all4 {w : World} {b : Nat} {v0 v1 v2 v3 : Value} (h : Box w b [v0, v1, v2, v3]) (u0 u1 u2 u3 : Value) : Box (set4 w b u0 u1 u2 u3) b [u0, u1, u2, u3] :=
  (((h.set (k := 0) (by simp)).set (k := 1) (by simp)).set (k := 2) (by simp)).set (k := 3) (by simp)
section
variable {D M D1 M1 : Nat → Bool} {w w1 : World} {rb b : Nat} {xs : List O} {t : Tm} {v u0 u1 u2 u3 : Value}
theorem bdone_none (ht : Turn D M D1 M1 w w1) (ho : Okd D1 M1 w1) (md : ∀ k, M k = true → D k = true) (hb : w.heap.size ≤ b) (hd : D1 b = true) (h : TmV (hide D1 w1) t v) {X : Out Tm} (hX : X = none) :
    BPost D M w rb xs X (.returned (.tuple #[v, .bool false])) (set4 w1 b u0 u1 u2 u3) := by
  subst hX
  have hT := ht.set4 (b := b) (Or.inl hb) u0 u1 u2 u3
  have hO := ho.put4 b u0 u1 u2 u3
  exact ⟨_, M1, t, v, false, rfl, (h.put4 hd u0 u1 u2 u3).fin hT hO, fin_turn hT, fin_okd hT hO md, rfl, fun p s' hp => by cases hp⟩
theorem bdone_some {s' : RS} (ht : Turn D M D1 M1 w w1) (hs : St D1 M1 w1 rb xs s') (md : ∀ k, M k = true → D k = true) (hb : w.heap.size ≤ b) (hd : D1 b = true) (hm : M1 b = false) (h : TmV (hide D1 w1) t v) {X : Out Tm} (hX : X = some (t, s')) :
    BPost D M w rb xs X (.returned (.tuple #[v, .bool true])) (set4 w1 b u0 u1 u2 u3) := by
  subst hX
  have hT := ht.set4 (b := b) (Or.inl hb) u0 u1 u2 u3
  have hO := hs.okd.put4 b u0 u1 u2 u3
  exact ⟨_, M1, t, v, true, rfl, (h.put4 hd u0 u1 u2 u3).fin hT hO, fin_turn hT, fin_okd hT hO md, rfl, fun p s'' hp => by
    cases hp
    exact ⟨rfl, (hs.put4 hd hm u0 u1 u2 u3).fin hT md⟩⟩
theorem tdone_none {lv : Int} (ht : Turn D M D1 M1 w w1) (ho : Okd D1 M1 w1) (md : ∀ k, M k = true → D k = true) (hb : w.heap.size ≤ b) (hd : D1 b = true) (h : TmV (hide D1 w1) t v) {X : Out TL} (hX : X = none) :
    TPost D M w rb xs X (.returned (.tuple #[v, .int .i64 lv, .bool false])) (set4 w1 b u0 u1 u2 u3) := by
  subst hX
  have hT := ht.set4 (b := b) (Or.inl hb) u0 u1 u2 u3
  have hO := ho.put4 b u0 u1 u2 u3
  exact ⟨_, M1, t, v, lv, false, rfl, (h.put4 hd u0 u1 u2 u3).fin hT hO, fin_turn hT, fin_okd hT hO md, rfl, fun p s' hp => by cases hp⟩
theorem tdone_some {lv : Int} {s' : RS} (ht : Turn D M D1 M1 w w1) (hs : St D1 M1 w1 rb xs s') (md : ∀ k, M k = true → D k = true) (hb : w.heap.size ≤ b) (hd : D1 b = true) (hm : M1 b = false) (h : TmV (hide D1 w1) t v) {X : Out TL} (hX : X = some ((t, lv), s')) :
    TPost D M w rb xs X (.returned (.tuple #[v, .int .i64 lv, .bool true])) (set4 w1 b u0 u1 u2 u3) := by
  subst hX
  have hT := ht.set4 (b := b) (Or.inl hb) u0 u1 u2 u3
  have hO := hs.okd.put4 b u0 u1 u2 u3
  exact ⟨_, M1, t, v, lv, true, rfl, (h.put4 hd u0 u1 u2 u3).fin hT hO, fin_turn hT, fin_okd hT hO md, rfl, fun p s'' hp => by
    cases hp
    exact ⟨rfl, rfl, (hs.put4 hd hm u0 u1 u2 u3).fin hT md⟩⟩
end
theorem tail_none {xs : List O} {s : RS} (h : ITEMS (preO xs) (betO xs) s = none) : rowR (TERMX xs) s = none := by rw [rowR_eq, h]
theorem tail_bad {xs : List O} {s s1 : RS} {l : List Tm} (h : ITEMS (preO xs) (betO xs) s = some (l, s1)) (h2 : tailR (TERMX xs) s1 = none) : rowR (TERMX xs) s = none := by rw [rowR_eq, h]; simp only [h2]
theorem tail_open {xs : List O} {s s1 s2 : RS} {l : List Tm} {t : Tm} (h : ITEMS (preO xs) (betO xs) s = some (l, s1)) (h2 : tailR (TERMX xs) s1 = some (t, s2)) (h3 : isMark [93] (headR s2) = false) : rowR (TERMX xs) s = none := by rw [rowR_eq, h]; simp only [h2, (takesR_no h3).1]
theorem tail_done {xs : List O} {s s1 s2 : RS} {l : List Tm} {t : Tm} (h : ITEMS (preO xs) (betO xs) s = some (l, s1)) (h2 : tailR (TERMX xs) s1 = some (t, s2)) (h3 : isMark [93] (headR s2) = true) : rowR (TERMX xs) s = some (listT l t, takesS [93] s2) := by rw [rowR_eq, h]; simp only [h2, takesR_yes h3]
set_option maxHeartbeats 4000000 in
theorem list_at {xs : List O} {n : Nat} (ih : IHT xs n) {D M : Nat → Bool} {w : World} {rb : Nat} {s : RS} (h : St D M w rb xs s) (hlt : s.rest.length < n) :
    Calls Tryz.prog 123 #[.pointer (some ⟨rb, 0, none⟩)] w (BPost D M w rb xs (rowR (TERMX xs) s)) := by
  obtain ⟨X, hX⟩ : ∃ X, rowR (TERMX xs) s = X := ⟨_, rfl⟩
  rw [hX]
  have HXX := Lib.hid hX
  obtain ⟨w1, hw1, hb1, hz1, hx1⟩ := box_new w #[.int .i64 0, .int .i64 0, .string ⟨#[]⟩, .slice none 0 0] 31
  have h1 := h.box hb1 (Nat.le_refl _) hx1.lt
  have HMd := Lib.hid h.md
  have HMB := Lib.hid (Old.out h (Nat.le_refl _))
  have HT1 := Lib.hid (Turn.into (D := D) (M := M) hb1 (Nat.le_refl _))
  have HI := Lib.hid (ritems_at ih h1 hlt)
  have HB1 := Lib.hid hb1
  have HX1 := Lib.hid hx1
  have HIH := Lib.hid ih
  have HLT := Lib.hid hlt
  clear h hX hlt ih h1 hx1 hb1 hz1
  go_enter Tryz.func123, Tryz.ntmps123
  go_wp2_with fail
  (try rw [hw1])
  clear hw1
  (go_wp2_with fail; go_fit (HI.out); rintro e w2 ⟨D2, M2, l, v, ok, rfl, hl2, ht2, ho2, hok2, hsm2⟩)
  obtain ⟨a2, c2, rfl, _⟩ := hl2.len
  obtain ⟨m2, hm2⟩ : ∃ m, l.length = m := ⟨_, rfl⟩
  rw [hm2] at hl2
  have HL2 := Lib.hid hl2
  have HO2 := Lib.hid ho2
  have HT2 := Lib.hid (HT1.out.trans ht2)
  have HX2 := Lib.hid (HX1.out.turn ht2 HMB.out)
  have hd2B : D2 w.heap.size = true := (ht2.dd _ HX1.out.lt).trans (plusB_self D _)
  have hm2B : M2 w.heap.size = false := (ht2.mm _ HX1.out.lt).trans HMB.out
  have HDB := Lib.hid hd2B
  have HMB2 := Lib.hid hm2B
  have HSM := Lib.hid hsm2
  have HOK := Lib.hid hok2
  simp only [hm2]
  clear hl2 ho2 ht2 hd2B hm2B hsm2 hok2 hm2 HI
  (go_wp2_with fail; go_fit (atom_at _ _); rintro e w3 ⟨rfl, hb3⟩)
  obtain ⟨w4, hw4, hb4, hz4, hx4⟩ := box_new w3 #[.int .i64 2, .int .i64 0, .string ⟨#[91, 93]⟩, .slice none 0 0] 31
  have HW4 := Lib.hid hw4
  have hb24 := Ext.trans' hb3 hb4
  have HB24 := Lib.hid hb24
  have hBT : w.heap.size < w3.heap.size := by have h1 := HX2.out.lt; have h2 := hb3.size; omega
  have hT2 : w2.heap.size ≤ w3.heap.size := hb3.size
  have HL4 := Lib.hid (HL2.out.box hb24 hT2)
  have HO4 := Lib.hid (HO2.out.box hb24.size hx4.lt)
  have HT4 := Lib.hid (HT2.out.into2 hb24 hT2)
  have HX4 := Lib.hid (HX2.out.ext hb24)
  have HXT := Lib.hid hx4
  have HDB4 := Lib.hid (plusB_of (b := w3.heap.size) HDB.out)
  have hMT : M2 w3.heap.size = false := by
    cases hm : M2 w3.heap.size with
    | false => rfl
    | true => have := HO2.out.1 _ hm; rw [HO2.out.2 _ hT2] at this; cases this
  have HMT := Lib.hid hMT
  have HAT := Lib.hid (show TmV (hide (plusB D2 w3.heap.size) w4) (aT [91, 93]) (.agg #[.int .i64 2, .int .i64 0, .string ⟨#[91, 93]⟩, .slice none 0 0]) from leaf_tm _ i64_2 i64_0 (by decide))
  obtain ⟨t0, t1, t2, t3, tf⟩ := hx4.four
  have hneB : w.heap.size ≠ w3.heap.size := by omega
  clear hb3 hb4 hb24 hz4 hx4 hMT hw4 t0 t1 t2 t3 tf
  cases hI : ITEMS (preO xs) (betO xs) s with
  | none =>
    obtain rfl : ok = false := by rw [HOK.out, hI]; rfl
    have HI2 := Lib.hid hI
    clear hI
    have HD4B := HDB4
    go_wp2_with fail
    (try rw [HW4.out])
    have HN := Lib.hid (show X = none by rw [← HXX.out]; exact tail_none HI2.out)
    obtain ⟨t0, t1, t2, t3, tf⟩ := HXT.out.four
    (go_wp2_with fail; go_fit (list_in HO4.out.2 HL4.out HAT.out); rintro e w9 ⟨r9, rfl, hr9, hb9⟩)
    obtain ⟨k9, n9, s9, a9, m9, c9, rfl⟩ := hr9.full
    obtain ⟨r0, r1, r2, r3, rf⟩ := (HX4.out.ext hb9).four
    have HR9 := Lib.hid hr9
    have HB9 := Lib.hid hb9
    clear hr9 hb9 t0 t1 t2 t3 tf
    go_wp2
    refine bodyPost_ret (v := .tuple #[.agg #[.int .i64 k9, .int .i64 n9, .string s9, .slice a9 m9 c9], .bool false]) (by rw [results_cell_tmp rfl]; go_simp) rfl ?_
    exact bdone_none (HT4.out.trans (Turn.below HB9.out)) (HO4.out.later HB9.out.size) HMd.out (Nat.le_refl _) HD4B.out HR9.out HN.out
  | some q =>
    obtain ⟨l', s1⟩ := q
    obtain rfl : ok = true := by rw [HOK.out, hI]; rfl
    obtain ⟨rfl, hs1⟩ := HSM.out _ _ hI
    have HI2 := Lib.hid hI
    have hs4 := (hs1.box HB24.out hT2 HXT.out.lt)
    have hshI : s1.rest.length < s.rest.length := items_shr TERM_shr _ _ _ _ hI
    have HSHI := Lib.hid hshI
    have HTKb := Lib.hid (takes_at hs4 [124])
    have HS4 := Lib.hid hs4
    clear hI hs1 hs4 hshI
    cases hbar : isMark [124] (headR s1) with
    | false =>
      rw [hbar] at HTKb
      have hno := takesR_no hbar
      have HTL := Lib.hid (show tailR (TERMX xs) s1 = some (aT [91, 93], s1) by unfold tailR; rw [hno.1])
      rw [hno.2] at HTKb
      clear hno hbar
      go_wp2_with fail
      (try rw [HW4.out])
      (go_wp2_with fail; go_fit (HTKb.out); rintro e w5 ⟨rfl, hs5, ht5⟩)
      have HS5 := Lib.hid hs5
      have HT5 := Lib.hid (HT4.out.trans ht5)
      have HL5 := Lib.hid (HL4.out.stay (ht5.stays HO4.out.1))
      have HV5 := Lib.hid (TmV.stay (ht5.stays HO4.out.1) _ _ HAT.out)
      have HX5 := Lib.hid (HX4.out.turn ht5 HMB2.out)
      have HXT5 := Lib.hid (HXT.out.turn ht5 HMT.out)
      have HD5B := HDB4
      have HM5B := HMB2
      clear hs5 ht5
      obtain ⟨t0, t1, t2, t3, tf⟩ := HXT5.out.four
      (go_wp2_with fail; go_fit (list_in HS5.out.old HL5.out HV5.out); rintro e w9 ⟨r9, rfl, hr9, hb9⟩)
      obtain ⟨k9, n9, s9, a9, m9, c9, rfl⟩ := hr9.full
      have HR9 := Lib.hid hr9
      have HB9 := Lib.hid hb9
      have hs9 := HS5.out.later hb9
      have HTK := Lib.hid (takes_at hs9 [93])
      have HX9 := Lib.hid (HX5.out.ext hb9)
      have HT9 := Lib.hid (HT5.out.trans (Turn.below hb9))
      have HMDs := Lib.hid hs9.md
      clear hr9 hb9 t0 t1 t2 t3 tf hs9
      cases hmk : isMark [93] (headR s1) with
      | false =>
        rw [hmk] at HTK
        have HN := Lib.hid (HXX.out.symm.trans (tail_open HI2.out HTL.out hmk))
        clear hmk
        (go_wp2_with fail; go_fit (HTK.out); rintro e w10 ⟨rfl, hs10, ht10⟩)
        obtain ⟨r0, r1, r2, r3, rf⟩ := (HX9.out.turn ht10 HM5B.out).four
        have HS10 := Lib.hid hs10
        have HT10 := Lib.hid ht10
        clear hs10 ht10
        go_wp2
        refine bodyPost_ret (v := .tuple #[.agg #[.int .i64 k9, .int .i64 n9, .string s9, .slice a9 m9 c9], .bool false]) (by rw [results_cell_tmp rfl]; go_simp) rfl ?_
        exact bdone_none (HT9.out.trans HT10.out) HS10.out.okd HMd.out (Nat.le_refl _) HD5B.out (TmV.stay (HT10.out.stays HMDs.out) _ _ HR9.out) HN.out
      | true =>
        rw [hmk] at HTK
        have HN := Lib.hid (HXX.out.symm.trans (tail_done HI2.out HTL.out hmk))
        clear hmk
        (go_wp2_with fail; go_fit (HTK.out); rintro e w10 ⟨rfl, hs10, ht10⟩)
        obtain ⟨r0, r1, r2, r3, rf⟩ := (HX9.out.turn ht10 HM5B.out).four
        have HS10 := Lib.hid hs10
        have HT10 := Lib.hid ht10
        clear hs10 ht10
        go_wp2
        refine bodyPost_ret (v := .tuple #[.agg #[.int .i64 k9, .int .i64 n9, .string s9, .slice a9 m9 c9], .bool true]) (by rw [results_cell_tmp rfl]; go_simp) rfl ?_
        exact bdone_some (HT9.out.trans HT10.out) HS10.out HMd.out (Nat.le_refl _) HD5B.out HM5B.out (TmV.stay (HT10.out.stays HMDs.out) _ _ HR9.out) HN.out
    | true =>
      rw [hbar] at HTKb
      have hy := takesR_yes hbar
      have HY := Lib.hid hy
      have hlt5 : (takesS [124] s1).rest.length < n := by have h1 := (takes_lt hy).2; have h2 := HLT.out; have h3 := HSHI.out; omega
      have HLT5 := Lib.hid hlt5
      clear hy hbar hlt5
      go_wp2_with fail
      (try rw [HW4.out])
      (go_wp2_with fail; go_fit (HTKb.out); rintro e w5 ⟨rfl, hs5, ht5⟩)
      have HTM := Lib.hid (HIH.out _ _ _ rb _ 999 hs5 HLT5.out)
      have HS5 := Lib.hid hs5
      have HT5 := Lib.hid (HT4.out.trans ht5)
      have HL5 := Lib.hid (HL4.out.stay (ht5.stays HO4.out.1))
      have HX5 := Lib.hid (HX4.out.turn ht5 HMB2.out)
      have HXT5 := Lib.hid (HXT.out.turn ht5 HMT.out)
      clear hs5 ht5
      (go_wp2_with fail; go_fit (HTM.out); rintro e w6 ⟨D6, M6, t6, v6, lv6, ok6, rfl, htv6, ht6, ho6, hok6, hsm6⟩)
      obtain ⟨k6, n6, s6, a6, m6, c6, rfl⟩ := htv6.full
      have hB5 := HX5.out.lt
      have hT5 := HXT5.out.lt
      have HD6B := Lib.hid ((ht6.dd _ hB5).trans HDB4.out)
      have HM6B := Lib.hid ((ht6.mm _ hB5).trans HMB2.out)
      have HD6T := Lib.hid ((ht6.dd _ hT5).trans (plusB_self D2 _))
      have HM6T := Lib.hid ((ht6.mm _ hT5).trans HMT.out)
      have HX6 := Lib.hid (HX5.out.turn ht6 HMB2.out)
      have HXT6 := Lib.hid (HXT5.out.turn ht6 HMT.out)
      have HT6 := Lib.hid ((HT5.out.trans ht6).set4 (b := w3.heap.size) (Or.inl (Nat.le_of_lt hBT)) (.int .i64 k6) (.int .i64 n6) (.string s6) (.slice a6 m6 c6))
      have HL6 := Lib.hid ((HL5.out.stay (ht6.stays HS5.out.md)).put4 HD6T.out (.int .i64 k6) (.int .i64 n6) (.string s6) (.slice a6 m6 c6))
      have HV6 := Lib.hid (htv6.put4 HD6T.out (.int .i64 k6) (.int .i64 n6) (.string s6) (.slice a6 m6 c6))
      have HO6 := Lib.hid (ho6.put4 w3.heap.size (.int .i64 k6) (.int .i64 n6) (.string s6) (.slice a6 m6 c6))
      have HX7 := Lib.hid (HX6.out.far4 hneB (.int .i64 k6) (.int .i64 n6) (.string s6) (.slice a6 m6 c6))
      have HXT7 := Lib.hid (HXT6.out.all4 (.int .i64 k6) (.int .i64 n6) (.string s6) (.slice a6 m6 c6))
      have HSM6 := Lib.hid hsm6
      have HOK6 := Lib.hid hok6
      obtain ⟨t0, t1, t2, t3, tf⟩ := HXT6.out.four
      clear htv6 ht6 ho6 hok6 hsm6 hB5 hT5
      obtain ⟨w7, hw7⟩ : ∃ w7, set4 w6 w3.heap.size (.int .i64 k6) (.int .i64 n6) (.string s6) (.slice a6 m6 c6) = w7 := ⟨_, rfl⟩
      rw [hw7] at HT6 HL6 HV6 HO6 HX7 HXT7
      obtain ⟨p0, p1, p2, p3, pf⟩ := HXT7.out.four
      cases hM : TERMX xs 999 (takesS [124] s1) with
      | none =>
        obtain rfl : ok6 = false := by rw [HOK6.out, hM]; rfl
        have HTL := Lib.hid (show tailR (TERMX xs) s1 = none by unfold tailR; rw [HY.out]; simp only [hM])
        clear hM
        go_wp2_with fail
        (try rw [hw7])
        clear hw7
        have HN := Lib.hid (show X = none by rw [← HXX.out]; exact tail_bad HI2.out HTL.out)
        obtain ⟨t0, t1, t2, t3, tf⟩ := HXT7.out.four
        (go_wp2_with fail; go_fit (list_in HO6.out.2 HL6.out HV6.out); rintro e w9 ⟨r9, rfl, hr9, hb9⟩)
        obtain ⟨k9, n9, s9, a9, m9, c9, rfl⟩ := hr9.full
        obtain ⟨r0, r1, r2, r3, rf⟩ := (HX7.out.ext hb9).four
        have HR9 := Lib.hid hr9
        have HB9 := Lib.hid hb9
        clear hr9 hb9 t0 t1 t2 t3 tf
        go_wp2
        refine bodyPost_ret (v := .tuple #[.agg #[.int .i64 k9, .int .i64 n9, .string s9, .slice a9 m9 c9], .bool false]) (by rw [results_cell_tmp rfl]; go_simp) rfl ?_
        exact bdone_none (HT6.out.trans (Turn.below HB9.out)) (HO6.out.later HB9.out.size) HMd.out (Nat.le_refl _) HD6B.out HR9.out HN.out
      | some q =>
        obtain ⟨⟨tq, lq⟩, s2⟩ := q
        obtain rfl : ok6 = true := by rw [HOK6.out, hM]; rfl
        obtain ⟨rfl, rfl, hs2⟩ := HSM6.out _ _ hM
        have HTL := Lib.hid (show tailR (TERMX xs) s1 = some (t6, s2) by unfold tailR; rw [HY.out]; simp only [hM])
        have hs7 := hs2.put4 HD6T.out HM6T.out (.int .i64 k6) (.int .i64 n6) (.string s6) (.slice a6 m6 c6)
        rw [hw7] at hs7
        have HS7 := Lib.hid hs7
        clear hM hs2 hs7
        go_wp2_with fail
        (try rw [hw7])
        clear hw7
        obtain ⟨t0, t1, t2, t3, tf⟩ := HXT7.out.four
        (go_wp2_with fail; go_fit (list_in HS7.out.old HL6.out HV6.out); rintro e w9 ⟨r9, rfl, hr9, hb9⟩)
        obtain ⟨k9, n9, s9, a9, m9, c9, rfl⟩ := hr9.full
        have HR9 := Lib.hid hr9
        have HB9 := Lib.hid hb9
        have hs9 := HS7.out.later hb9
        have HTK := Lib.hid (takes_at hs9 [93])
        have HX9 := Lib.hid (HX7.out.ext hb9)
        have HT9 := Lib.hid (HT6.out.trans (Turn.below hb9))
        have HMDs := Lib.hid hs9.md
        clear hr9 hb9 t0 t1 t2 t3 tf hs9
        cases hmk : isMark [93] (headR s2) with
        | false =>
          rw [hmk] at HTK
          have HN := Lib.hid (HXX.out.symm.trans (tail_open HI2.out HTL.out hmk))
          clear hmk
          (go_wp2_with fail; go_fit (HTK.out); rintro e w10 ⟨rfl, hs10, ht10⟩)
          obtain ⟨r0, r1, r2, r3, rf⟩ := (HX9.out.turn ht10 HM6B.out).four
          have HS10 := Lib.hid hs10
          have HT10 := Lib.hid ht10
          clear hs10 ht10
          go_wp2
          refine bodyPost_ret (v := .tuple #[.agg #[.int .i64 k9, .int .i64 n9, .string s9, .slice a9 m9 c9], .bool false]) (by rw [results_cell_tmp rfl]; go_simp) rfl ?_
          exact bdone_none (HT9.out.trans HT10.out) HS10.out.okd HMd.out (Nat.le_refl _) HD6B.out (TmV.stay (HT10.out.stays HMDs.out) _ _ HR9.out) HN.out
        | true =>
          rw [hmk] at HTK
          have HN := Lib.hid (HXX.out.symm.trans (tail_done HI2.out HTL.out hmk))
          clear hmk
          (go_wp2_with fail; go_fit (HTK.out); rintro e w10 ⟨rfl, hs10, ht10⟩)
          obtain ⟨r0, r1, r2, r3, rf⟩ := (HX9.out.turn ht10 HM6B.out).four
          have HS10 := Lib.hid hs10
          have HT10 := Lib.hid ht10
          clear hs10 ht10
          go_wp2
          refine bodyPost_ret (v := .tuple #[.agg #[.int .i64 k9, .int .i64 n9, .string s9, .slice a9 m9 c9], .bool true]) (by rw [results_cell_tmp rfl]; go_simp) rfl ?_
          exact bdone_some (HT9.out.trans HT10.out) HS10.out HMd.out (Nat.le_refl _) HD6B.out HM6B.out (TmV.stay (HT10.out.stays HMDs.out) _ _ HR9.out) HN.out
end Go.Proofs.YtaojalicnnnkmaaGreatDoor
/- The project's reader: bracketed. -/
namespace Go.Proofs.YtaojalicnnnkmaaGreatDoor
open Go.Shelf Go.RowKit
set_option linter.unusedVariables false

theorem tms_one {D : Nat → Bool} {w : World} {t : Tm} {v0 v1 v2 v3 : Value} (ho : Old D w) (h : TmV (hide D w) t (.agg #[v0, v1, v2, v3])) (ty : TypeId) : Tms (hide D (w.alloc (.cells #[v0, v1, v2, v3] ty))) (.slice (some ⟨w.heap.size, 0, none⟩) 1 1) [t] := by
  have hd : D w.heap.size = false := ho _ (Nat.le_refl _)
  obtain ⟨w1, hw1, hb1, _, hx1⟩ := box_new w #[v0, v1, v2, v3] ty
  rw [hw1]
  obtain ⟨r0, r1, r2, r3, rf⟩ := hx1.four
  refine ⟨_, 1, rfl, Nat.le_refl _, by unfold maxLen; omega, by unfold BIG; simp, Or.inr ⟨w.heap.size, 0, rfl, by rw [hide_size]; exact hx1.lt, ?_⟩⟩
  rw [TmRow]
  refine ⟨⟨v0, v1, v2, v3, ?_, ?_, ?_, ?_, TmV.later hb1 h⟩, by rw [TmRow]; trivial⟩
  · rw [hide_cell _ _ _ hd]; exact r0
  · rw [hide_cell _ _ _ hd]; exact r1
  · rw [hide_cell _ _ _ hd]; exact r2
  · rw [hide_cell _ _ _ hd]; exact r3
theorem tms_two {D : Nat → Bool} {w : World} {t u : Tm} {v0 v1 v2 v3 u0 u1 u2 u3 : Value} (ho : Old D w) (h : TmV (hide D w) t (.agg #[v0, v1, v2, v3])) (g : TmV (hide D w) u (.agg #[u0, u1, u2, u3])) (ty : TypeId) :
    Tms (hide D (w.alloc (.cells #[v0, v1, v2, v3, u0, u1, u2, u3] ty))) (.slice (some ⟨w.heap.size, 0, none⟩) 2 2) [t, u] := by
  have hd : D w.heap.size = false := ho _ (Nat.le_refl _)
  obtain ⟨w1, hw1, hb1, _, hx1⟩ := box_new w #[v0, v1, v2, v3, u0, u1, u2, u3] ty
  rw [hw1]
  refine ⟨_, 2, rfl, Nat.le_refl _, by unfold maxLen; omega, by unfold BIG; simp, Or.inr ⟨w.heap.size, 0, rfl, by rw [hide_size]; exact hx1.lt, ?_⟩⟩
  rw [TmRow, TmRow]
  refine ⟨⟨v0, v1, v2, v3, ?_, ?_, ?_, ?_, TmV.later hb1 h⟩, ⟨u0, u1, u2, u3, ?_, ?_, ?_, ?_, TmV.later hb1 g⟩, by rw [TmRow]; trivial⟩
  · rw [hide_cell _ _ _ hd]; exact hx1.cells 0 _ rfl
  · rw [hide_cell _ _ _ hd]; exact hx1.cells 1 _ rfl
  · rw [hide_cell _ _ _ hd]; exact hx1.cells 2 _ rfl
  · rw [hide_cell _ _ _ hd]; exact hx1.cells 3 _ rfl
  · rw [hide_cell _ _ _ hd]; exact hx1.cells 4 _ rfl
  · rw [hide_cell _ _ _ hd]; exact hx1.cells 5 _ rfl
  · rw [hide_cell _ _ _ hd]; exact hx1.cells 6 _ rfl
  · rw [hide_cell _ _ _ hd]; exact hx1.cells 7 _ rfl
theorem closed_none {T : TFun} {t : List UInt8} {s : RS} (h : T 1200 s = none) : closedR T t s = none := by unfold closedR; rw [h]
theorem closed_open {T : TFun} {t : List UInt8} {s s1 : RS} {p : TL} (h : T 1200 s = some (p, s1)) (hm : isMark t (headR s1) = false) : closedR T t s = none := by unfold closedR; rw [h]; simp only [(takesR_no hm).1]
theorem closed_done {T : TFun} {t : List UInt8} {s s1 : RS} {p : TL} (h : T 1200 s = some (p, s1)) (hm : isMark t (headR s1) = true) : closedR T t s = some (p.1, takesS t s1) := by unfold closedR; rw [h]; simp only [takesR_yes hm]
set_option maxHeartbeats 4000000 in
theorem paren_at {xs : List O} {n : Nat} (ih : IHT xs n) {D M : Nat → Bool} {w : World} {rb : Nat} {s : RS} (h : St D M w rb xs s) (hlt : s.rest.length < n) :
    Calls Tryz.prog 99 #[.pointer (some ⟨rb, 0, none⟩), .string ⟨#[40]⟩] w (BPost D M w rb xs (closedR (TERMX xs) [41] s)) := by
  obtain ⟨X, hX⟩ : ∃ X, closedR (TERMX xs) [41] s = X := ⟨_, rfl⟩
  rw [hX]
  have HXX := Lib.hid hX
  obtain ⟨w1, hw1, hb1, hz1, hx1⟩ := box_new w #[.int .i64 0, .int .i64 0, .string ⟨#[]⟩, .slice none 0 0] 31
  have h1 := h.box hb1 (Nat.le_refl _) hx1.lt
  have HMd := Lib.hid h.md
  have HMB := Lib.hid (Old.out h (Nat.le_refl _))
  have HT1 := Lib.hid (Turn.into (D := D) (M := M) hb1 (Nat.le_refl _))
  have HI := Lib.hid (ih _ _ _ rb _ 1200 h1 hlt)
  have HX1 := Lib.hid hx1
  clear h hX hlt ih h1 hx1 hb1 hz1
  go_enter Tryz.func99, Tryz.ntmps99
  go_wp2_with fail
  (try rw [hw1])
  clear hw1
  (go_wp2_with fail; go_fit (HI.out); rintro e w2 ⟨D2, M2, t2, v2, lv2, ok, rfl, htv, ht2, ho2, hok2, hsm2⟩)
  obtain ⟨k2, n2, s2, a2, m2, c2, rfl⟩ := htv.full
  have HDB := Lib.hid ((ht2.dd _ HX1.out.lt).trans (plusB_self D _))
  have HMB2 := Lib.hid ((ht2.mm _ HX1.out.lt).trans HMB.out)
  have HX2 := Lib.hid (HX1.out.turn ht2 HMB.out)
  have HT3 := Lib.hid ((HT1.out.trans ht2).set4 (b := w.heap.size) (Or.inl (Nat.le_refl _)) (.int .i64 k2) (.int .i64 n2) (.string s2) (.slice a2 m2 c2))
  have HV3 := Lib.hid (htv.put4 HDB.out (.int .i64 k2) (.int .i64 n2) (.string s2) (.slice a2 m2 c2))
  have HO3 := Lib.hid (ho2.put4 w.heap.size (.int .i64 k2) (.int .i64 n2) (.string s2) (.slice a2 m2 c2))
  have HX3 := Lib.hid (HX2.out.all4 (.int .i64 k2) (.int .i64 n2) (.string s2) (.slice a2 m2 c2))
  have HSM := Lib.hid hsm2
  have HOK := Lib.hid hok2
  obtain ⟨r0, r1, r2, r3, rf⟩ := HX2.out.four
  clear htv ht2 ho2 hok2 hsm2
  obtain ⟨w3, hw3⟩ : ∃ w3, set4 w2 w.heap.size (.int .i64 k2) (.int .i64 n2) (.string s2) (.slice a2 m2 c2) = w3 := ⟨_, rfl⟩
  rw [hw3] at HT3 HV3 HO3 HX3
  obtain ⟨p0, p1, p2, p3, pf⟩ := HX3.out.four
  cases hM : TERMX xs 1200 s with
  | none =>
    obtain rfl : ok = false := by rw [HOK.out, hM]; rfl
    have HN := Lib.hid (show X = none from HXX.out.symm.trans (closed_none hM))
    clear hM
    go_wp2_with fail
    (try rw [hw3])
    clear hw3
    refine wp_region_held_drew (S := fun w' => w'.cell? ⟨w.heap.size, 0, none⟩ = some (.int .i64 k2) ∧ w'.cell? ⟨w.heap.size, 1, none⟩ = some (.int .i64 n2) ∧ w'.cell? ⟨w.heap.size, 2, none⟩ = some (.string s2) ∧ w'.cell? ⟨w.heap.size, 3, none⟩ = some (.slice a2 m2 c2)) (by kernel_rfl) ⟨p0, p1, p2, p3⟩ (fun hHeld => ?_)
    first | (refine held_t (i := 0) hHeld ?_; apply Exists.intro; refine ⟨fun wq hq => ?_, ?_⟩; (focus ((try dsimp only at hq); go_simp; (first | done | with_reducible rfl | fail)))) | refine held_s (i := 0) hHeld ?_ | fail
    first | (refine held_t (i := 1) hHeld ?_; apply Exists.intro; refine ⟨fun wq hq => ?_, ?_⟩; (focus ((try dsimp only at hq); go_simp; (first | done | with_reducible rfl | fail)))) | refine held_s (i := 1) hHeld ?_ | fail
    first | (refine held_t (i := 2) hHeld ?_; apply Exists.intro; refine ⟨fun wq hq => ?_, ?_⟩; (focus ((try dsimp only at hq); go_simp; (first | done | with_reducible rfl | fail)))) | refine held_s (i := 2) hHeld ?_ | fail
    first | (refine held_t (i := 3) hHeld ?_; apply Exists.intro; refine ⟨fun wq hq => ?_, ?_⟩; (focus ((try dsimp only at hq); go_simp; (first | done | with_reducible rfl | fail)))) | refine held_s (i := 3) hHeld ?_ | fail
    first | (refine held_t (i := 4) hHeld ?_; apply Exists.intro; refine ⟨fun wq hq => ?_, ?_⟩; (focus ((try dsimp only at hq); go_simp; (first | done | with_reducible rfl | fail)))) | refine held_s (i := 4) hHeld ?_ | fail
    first | (refine held_t (i := 5) hHeld ?_; apply Exists.intro; refine ⟨fun wq hq => ?_, ?_⟩; (focus ((try dsimp only at hq); go_simp; (first | done | with_reducible rfl | fail)))) | refine held_s (i := 5) hHeld ?_ | fail
    try simp only [Act.put, List.setIfInBounds_toArray, List.set_cons_zero, List.set_cons_succ]
    refine held_c 6 fun K hK => ?_
    go_simp
    skip
    refine hK.out _ _ ((let q := ((HX3.out.ext (Below.refl _ _).drew).all4 (.int .i64 k2) (.int .i64 n2) (.string s2) (.slice a2 m2 c2)).four; ⟨q.1, q.2.1, q.2.2.1, q.2.2.2.1⟩)) (fun hHeld => ?_)
    clear hK K
    try simp only [Act.put, List.setIfInBounds_toArray, List.set_cons_zero, List.set_cons_succ]
    first | (refine held_t (i := 7) hHeld ?_; apply Exists.intro; refine ⟨fun wq hq => ?_, ?_⟩; (focus ((try dsimp only at hq); go_simp; (first | done | with_reducible rfl | fail)))) | refine held_s (i := 7) hHeld ?_ | fail
    try simp only [Act.put, List.setIfInBounds_toArray, List.set_cons_zero, List.set_cons_succ]
    refine wpAnyH_done (by kernel_rfl) ?_ _
    go_wp2
    refine bodyPost_ret (v := .tuple #[.agg #[.int .i64 k2, .int .i64 n2, .string s2, .slice a2 m2 c2], .bool false]) (by rw [results_cell_tmp rfl]; go_simp) rfl ?_
    exact bdone_none (HT3.out.trans (Turn.below (Below.refl _ _).drew)) (HO3.out.later (Nat.le_refl _)) HMd.out (Nat.le_refl _) HDB.out (TmV.later (Below.refl _ _).drew HV3.out) HN.out
  | some q =>
    obtain ⟨⟨tq, lq⟩, s1⟩ := q
    obtain rfl : ok = true := by rw [HOK.out, hM]; rfl
    obtain ⟨rfl, rfl, hs2⟩ := HSM.out _ _ hM
    have hs3 := hs2.put4 HDB.out HMB2.out (.int .i64 k2) (.int .i64 n2) (.string s2) (.slice a2 m2 c2)
    rw [hw3] at hs3
    have HM := Lib.hid hM
    have hs3d := hs3.later (Below.refl _ _).drew
    have HTK := Lib.hid (takes_at hs3d [41])
    have HMD := Lib.hid hs3d.md
    clear hM hs2 hs3 hs3d
    cases hmk : isMark [41] (headR s1) with
    | false =>
      rw [hmk] at HTK
      have HN := Lib.hid (show X = none from HXX.out.symm.trans (closed_open HM.out hmk))
      clear hmk
      go_wp2_with fail
      (try rw [hw3])
      clear hw3
      refine wp_region_held_drew (S := fun w' => w'.cell? ⟨w.heap.size, 0, none⟩ = some (.int .i64 k2) ∧ w'.cell? ⟨w.heap.size, 1, none⟩ = some (.int .i64 n2) ∧ w'.cell? ⟨w.heap.size, 2, none⟩ = some (.string s2) ∧ w'.cell? ⟨w.heap.size, 3, none⟩ = some (.slice a2 m2 c2)) (by kernel_rfl) ⟨p0, p1, p2, p3⟩ (fun hHeld => ?_)
      first | (refine held_t (i := 0) hHeld ?_; apply Exists.intro; refine ⟨fun wq hq => ?_, ?_⟩; (focus ((try dsimp only at hq); go_simp; (first | done | with_reducible rfl | fail)))) | refine held_s (i := 0) hHeld ?_ | fail
      first | (refine held_t (i := 1) hHeld ?_; apply Exists.intro; refine ⟨fun wq hq => ?_, ?_⟩; (focus ((try dsimp only at hq); go_simp; (first | done | with_reducible rfl | fail)))) | refine held_s (i := 1) hHeld ?_ | fail
      first | (refine held_t (i := 2) hHeld ?_; apply Exists.intro; refine ⟨fun wq hq => ?_, ?_⟩; (focus ((try dsimp only at hq); go_simp; (first | done | with_reducible rfl | fail)))) | refine held_s (i := 2) hHeld ?_ | fail
      first | (refine held_t (i := 3) hHeld ?_; apply Exists.intro; refine ⟨fun wq hq => ?_, ?_⟩; (focus ((try dsimp only at hq); go_simp; (first | done | with_reducible rfl | fail)))) | refine held_s (i := 3) hHeld ?_ | fail
      try simp only [Act.put, List.setIfInBounds_toArray, List.set_cons_zero, List.set_cons_succ]
      refine held_c 4 fun K hK => ?_
      go_simp
      (go_at_call 117; refine HTK.out.mono ?_; rintro e w4 ⟨rfl, hs4, ht4⟩; have HX4 := Lib.hid ((HX3.out.ext (Below.refl _ _).drew).turn ht4 HMB2.out); obtain ⟨q0, q1, q2, q3, qf⟩ := HX4.out.four; have HS4 := Lib.hid hs4; have HT4 := Lib.hid ht4)
      refine hK.out _ _ (⟨q0, q1, q2, q3⟩) (fun hHeld => ?_)
      clear hK K
      try simp only [Act.put, List.setIfInBounds_toArray, List.set_cons_zero, List.set_cons_succ]
      first | (refine held_t (i := 5) hHeld ?_; apply Exists.intro; refine ⟨fun wq hq => ?_, ?_⟩; (focus ((try dsimp only at hq); go_simp; (first | done | with_reducible rfl | fail)))) | refine held_s (i := 5) hHeld ?_ | fail
      try simp only [Act.put, List.setIfInBounds_toArray, List.set_cons_zero, List.set_cons_succ]
      refine held_c 6 fun K hK => ?_
      go_simp
      skip
      refine hK.out _ _ ((let q := (HX4.out.all4 (.int .i64 k2) (.int .i64 n2) (.string s2) (.slice a2 m2 c2)).four; ⟨q.1, q.2.1, q.2.2.1, q.2.2.2.1⟩)) (fun hHeld => ?_)
      clear hK K
      try simp only [Act.put, List.setIfInBounds_toArray, List.set_cons_zero, List.set_cons_succ]
      first | (refine held_t (i := 7) hHeld ?_; apply Exists.intro; refine ⟨fun wq hq => ?_, ?_⟩; (focus ((try dsimp only at hq); go_simp; (first | done | with_reducible rfl | fail)))) | refine held_s (i := 7) hHeld ?_ | fail
      try simp only [Act.put, List.setIfInBounds_toArray, List.set_cons_zero, List.set_cons_succ]
      refine wpAnyH_done (by kernel_rfl) ?_ _
      go_wp2
      refine bodyPost_ret (v := .tuple #[.agg #[.int .i64 k2, .int .i64 n2, .string s2, .slice a2 m2 c2], .bool false]) (by rw [results_cell_tmp rfl]; go_simp) rfl ?_
      exact bdone_none ((HT3.out.trans (Turn.below (Below.refl _ _).drew)).trans HT4.out) HS4.out.okd HMd.out (Nat.le_refl _) HDB.out (TmV.stay (HT4.out.stays HMD.out) _ _ (TmV.later (Below.refl _ _).drew HV3.out)) HN.out
    | true =>
      rw [hmk] at HTK
      have HN := Lib.hid (show X = some (t2, takesS [41] s1) from HXX.out.symm.trans (closed_done HM.out hmk))
      clear hmk
      go_wp2_with fail
      (try rw [hw3])
      clear hw3
      refine wp_region_held_drew (S := fun w' => w'.cell? ⟨w.heap.size, 0, none⟩ = some (.int .i64 k2) ∧ w'.cell? ⟨w.heap.size, 1, none⟩ = some (.int .i64 n2) ∧ w'.cell? ⟨w.heap.size, 2, none⟩ = some (.string s2) ∧ w'.cell? ⟨w.heap.size, 3, none⟩ = some (.slice a2 m2 c2)) (by kernel_rfl) ⟨p0, p1, p2, p3⟩ (fun hHeld => ?_)
      first | (refine held_t (i := 0) hHeld ?_; apply Exists.intro; refine ⟨fun wq hq => ?_, ?_⟩; (focus ((try dsimp only at hq); go_simp; (first | done | with_reducible rfl | fail)))) | refine held_s (i := 0) hHeld ?_ | fail
      first | (refine held_t (i := 1) hHeld ?_; apply Exists.intro; refine ⟨fun wq hq => ?_, ?_⟩; (focus ((try dsimp only at hq); go_simp; (first | done | with_reducible rfl | fail)))) | refine held_s (i := 1) hHeld ?_ | fail
      first | (refine held_t (i := 2) hHeld ?_; apply Exists.intro; refine ⟨fun wq hq => ?_, ?_⟩; (focus ((try dsimp only at hq); go_simp; (first | done | with_reducible rfl | fail)))) | refine held_s (i := 2) hHeld ?_ | fail
      first | (refine held_t (i := 3) hHeld ?_; apply Exists.intro; refine ⟨fun wq hq => ?_, ?_⟩; (focus ((try dsimp only at hq); go_simp; (first | done | with_reducible rfl | fail)))) | refine held_s (i := 3) hHeld ?_ | fail
      try simp only [Act.put, List.setIfInBounds_toArray, List.set_cons_zero, List.set_cons_succ]
      refine held_c 4 fun K hK => ?_
      go_simp
      (go_at_call 117; refine HTK.out.mono ?_; rintro e w4 ⟨rfl, hs4, ht4⟩; have HX4 := Lib.hid ((HX3.out.ext (Below.refl _ _).drew).turn ht4 HMB2.out); obtain ⟨q0, q1, q2, q3, qf⟩ := HX4.out.four; have HS4 := Lib.hid hs4; have HT4 := Lib.hid ht4)
      refine hK.out _ _ (⟨q0, q1, q2, q3⟩) (fun hHeld => ?_)
      clear hK K
      try simp only [Act.put, List.setIfInBounds_toArray, List.set_cons_zero, List.set_cons_succ]
      first | (refine held_t (i := 5) hHeld ?_; apply Exists.intro; refine ⟨fun wq hq => ?_, ?_⟩; (focus ((try dsimp only at hq); go_simp; (first | done | with_reducible rfl | fail)))) | refine held_s (i := 5) hHeld ?_ | fail
      try simp only [Act.put, List.setIfInBounds_toArray, List.set_cons_zero, List.set_cons_succ]
      refine held_c 6 fun K hK => ?_
      go_simp
      skip
      refine hK.out _ _ ((let q := (HX4.out.all4 (.int .i64 k2) (.int .i64 n2) (.string s2) (.slice a2 m2 c2)).four; ⟨q.1, q.2.1, q.2.2.1, q.2.2.2.1⟩)) (fun hHeld => ?_)
      clear hK K
      try simp only [Act.put, List.setIfInBounds_toArray, List.set_cons_zero, List.set_cons_succ]
      first | (refine held_t (i := 7) hHeld ?_; apply Exists.intro; refine ⟨fun wq hq => ?_, ?_⟩; (focus ((try dsimp only at hq); go_simp; (first | done | with_reducible rfl | fail)))) | refine held_s (i := 7) hHeld ?_ | fail
      try simp only [Act.put, List.setIfInBounds_toArray, List.set_cons_zero, List.set_cons_succ]
      refine wpAnyH_done (by kernel_rfl) ?_ _
      go_wp2
      refine bodyPost_ret (v := .tuple #[.agg #[.int .i64 k2, .int .i64 n2, .string s2, .slice a2 m2 c2], .bool true]) (by rw [results_cell_tmp rfl]; go_simp) rfl ?_
      exact bdone_some ((HT3.out.trans (Turn.below (Below.refl _ _).drew)).trans HT4.out) HS4.out HMd.out (Nat.le_refl _) HDB.out HMB2.out (TmV.stay (HT4.out.stays HMD.out) _ _ (TmV.later (Below.refl _ _).drew HV3.out)) HN.out
end Go.Proofs.YtaojalicnnnkmaaGreatDoor
/- The project's reader: bracketed, the other ways. -/
namespace Go.Proofs.YtaojalicnnnkmaaGreatDoor
open Go.Shelf Go.RowKit
set_option linter.unusedVariables false

def braceR (o : Out Tm) : Out Tm := match o with
  | none => none
  | some (t, s1) => some (.mk 2 0 (ba [123, 125]) [t], s1)
set_option maxHeartbeats 4000000 in
theorem brace_at {xs : List O} {n : Nat} (ih : IHT xs n) {D M : Nat → Bool} {w : World} {rb : Nat} {s : RS} (h : St D M w rb xs s) (hlt : s.rest.length < n) :
    Calls Tryz.prog 99 #[.pointer (some ⟨rb, 0, none⟩), .string ⟨#[123]⟩] w (BPost D M w rb xs (braceR (closedR (TERMX xs) [125] s))) := by
  obtain ⟨X, hX⟩ : ∃ X, braceR (closedR (TERMX xs) [125] s) = X := ⟨_, rfl⟩
  rw [hX]
  have HXX := Lib.hid hX
  obtain ⟨w1, hw1, hb1, hz1, hx1⟩ := box_new w #[.int .i64 0, .int .i64 0, .string ⟨#[]⟩, .slice none 0 0] 31
  have h1 := h.box hb1 (Nat.le_refl _) hx1.lt
  have HMd := Lib.hid h.md
  have HMB := Lib.hid (Old.out h (Nat.le_refl _))
  have HT1 := Lib.hid (Turn.into (D := D) (M := M) hb1 (Nat.le_refl _))
  have HI := Lib.hid (ih _ _ _ rb _ 1200 h1 hlt)
  have HX1 := Lib.hid hx1
  clear h hX hlt ih h1 hx1 hb1 hz1
  go_enter Tryz.func99, Tryz.ntmps99
  go_wp2_with fail
  (try rw [hw1])
  clear hw1
  (go_wp2_with fail; go_fit (HI.out); rintro e w2 ⟨D2, M2, t2, v2, lv2, ok, rfl, htv, ht2, ho2, hok2, hsm2⟩)
  obtain ⟨k2, n2, s2, a2, m2, c2, rfl⟩ := htv.full
  have HDB := Lib.hid ((ht2.dd _ HX1.out.lt).trans (plusB_self D _))
  have HMB2 := Lib.hid ((ht2.mm _ HX1.out.lt).trans HMB.out)
  have HX2 := Lib.hid (HX1.out.turn ht2 HMB.out)
  have HT3 := Lib.hid ((HT1.out.trans ht2).set4 (b := w.heap.size) (Or.inl (Nat.le_refl _)) (.int .i64 k2) (.int .i64 n2) (.string s2) (.slice a2 m2 c2))
  have HV3 := Lib.hid (htv.put4 HDB.out (.int .i64 k2) (.int .i64 n2) (.string s2) (.slice a2 m2 c2))
  have HO3 := Lib.hid (ho2.put4 w.heap.size (.int .i64 k2) (.int .i64 n2) (.string s2) (.slice a2 m2 c2))
  have HX3 := Lib.hid (HX2.out.all4 (.int .i64 k2) (.int .i64 n2) (.string s2) (.slice a2 m2 c2))
  have HSM := Lib.hid hsm2
  have HOK := Lib.hid hok2
  obtain ⟨r0, r1, r2, r3, rf⟩ := HX2.out.four
  clear htv ht2 ho2 hok2 hsm2
  obtain ⟨w3, hw3⟩ : ∃ w3, set4 w2 w.heap.size (.int .i64 k2) (.int .i64 n2) (.string s2) (.slice a2 m2 c2) = w3 := ⟨_, rfl⟩
  rw [hw3] at HT3 HV3 HO3 HX3
  obtain ⟨p0, p1, p2, p3, pf⟩ := HX3.out.four
  cases hM : TERMX xs 1200 s with
  | none =>
    obtain rfl : ok = false := by rw [HOK.out, hM]; rfl
    have HN := Lib.hid (show X = none by rw [← HXX.out, closed_none hM]; rfl)
    clear hM
    have CH := Lib.hid (comp_hide (w := w3.alloc (.cells #[.int .i64 k2, .int .i64 n2, .string s2, .slice a2 m2 c2] 31)) (D := D2) ⟨#[123, 125]⟩ (by decide) (HO3.out.2.mono (by simp)) (tms_one HO3.out.2 HV3.out _))
    go_wp2_with fail
    (try rw [hw3])
    clear hw3
    (go_wp2_with fail; go_fit (CH.out); rintro e w5 ⟨a5, c5, rfl, ht5, hb5⟩)
    have HB5 := Lib.hid (Ext.trans' (bel1' w3 _) hb5)
    have HV5 := Lib.hid ht5
    have HX5 := Lib.hid (HX3.out.ext HB5.out)
    clear hb5 ht5 p0 p1 p2 p3 pf r0 r1 r2 r3 rf CH
    obtain ⟨q0, q1, q2, q3, qf⟩ := HX5.out.four
    go_wp2
    refine bodyPost_ret (v := .tuple #[.agg #[.int .i64 2, .int .i64 0, .string ⟨#[123, 125]⟩, .slice a5 1 c5], .bool false]) (by rw [results_cell_tmp rfl]; go_simp) rfl ?_
    exact bdone_none (HT3.out.trans (Turn.below HB5.out)) (HO3.out.later HB5.out.size) HMd.out (Nat.le_refl _) HDB.out HV5.out HN.out
  | some q =>
    obtain ⟨⟨tq, lq⟩, s1⟩ := q
    obtain rfl : ok = true := by rw [HOK.out, hM]; rfl
    obtain ⟨rfl, rfl, hs2⟩ := HSM.out _ _ hM
    have hs3 := hs2.put4 HDB.out HMB2.out (.int .i64 k2) (.int .i64 n2) (.string s2) (.slice a2 m2 c2)
    rw [hw3] at hs3
    have HM := Lib.hid hM
    have HS3 := Lib.hid hs3
    clear hM hs2 hs3
    have CH := Lib.hid (comp_hide (w := w3.alloc (.cells #[.int .i64 k2, .int .i64 n2, .string s2, .slice a2 m2 c2] 31)) (D := D2) ⟨#[123, 125]⟩ (by decide) (HO3.out.2.mono (by simp)) (tms_one HO3.out.2 HV3.out _))
    go_wp2_with fail
    (try rw [hw3])
    clear hw3
    (go_wp2_with fail; go_fit (CH.out); rintro e w5 ⟨a5, c5, rfl, ht5, hb5⟩)
    have HB5 := Lib.hid (Ext.trans' (bel1' w3 _) hb5)
    have HV5 := Lib.hid ht5
    have HX5 := Lib.hid (HX3.out.ext HB5.out)
    clear hb5 ht5 p0 p1 p2 p3 pf r0 r1 r2 r3 rf CH
    have hs5 := HS3.out.later HB5.out
    have HTK := Lib.hid (takes_at hs5 [125])
    have HMD := Lib.hid hs5.md
    clear hs5
    cases hmk : isMark [125] (headR s1) with
    | false =>
      rw [hmk] at HTK
      have HN := Lib.hid (show X = none by rw [← HXX.out, closed_open HM.out hmk]; rfl)
      clear hmk
      (go_wp2_with fail; go_fit (HTK.out); rintro e w6 ⟨rfl, hs6, ht6⟩)
      obtain ⟨q0, q1, q2, q3, qf⟩ := (HX5.out.turn ht6 HMB2.out).four
      have HS6 := Lib.hid hs6
      have HT6 := Lib.hid ht6
      clear hs6 ht6
      go_wp2
      refine bodyPost_ret (v := .tuple #[.agg #[.int .i64 2, .int .i64 0, .string ⟨#[123, 125]⟩, .slice a5 1 c5], .bool false]) (by rw [results_cell_tmp rfl]; go_simp) rfl ?_
      exact bdone_none ((HT3.out.trans (Turn.below HB5.out)).trans HT6.out) HS6.out.okd HMd.out (Nat.le_refl _) HDB.out (TmV.stay (HT6.out.stays HMD.out) _ _ HV5.out) HN.out
    | true =>
      rw [hmk] at HTK
      have HN := Lib.hid (show X = some (.mk 2 0 ⟨#[123, 125]⟩ [t2], takesS [125] s1) by rw [← HXX.out, closed_done HM.out hmk]; rfl)
      clear hmk
      (go_wp2_with fail; go_fit (HTK.out); rintro e w6 ⟨rfl, hs6, ht6⟩)
      obtain ⟨q0, q1, q2, q3, qf⟩ := (HX5.out.turn ht6 HMB2.out).four
      have HS6 := Lib.hid hs6
      have HT6 := Lib.hid ht6
      clear hs6 ht6
      go_wp2
      refine bodyPost_ret (v := .tuple #[.agg #[.int .i64 2, .int .i64 0, .string ⟨#[123, 125]⟩, .slice a5 1 c5], .bool true]) (by rw [results_cell_tmp rfl]; go_simp) rfl ?_
      exact bdone_some ((HT3.out.trans (Turn.below HB5.out)).trans HT6.out) HS6.out HMd.out (Nat.le_refl _) HDB.out HMB2.out (TmV.stay (HT6.out.stays HMD.out) _ _ HV5.out) HN.out
set_option maxHeartbeats 2000000 in
theorem square_at {xs : List O} {n : Nat} (ih : IHT xs n) {D M : Nat → Bool} {w : World} {rb : Nat} {s : RS} (h : St D M w rb xs s) (hlt : s.rest.length < n) :
    Calls Tryz.prog 99 #[.pointer (some ⟨rb, 0, none⟩), .string ⟨#[91]⟩] w (BPost D M w rb xs (rowR (TERMX xs) s)) := by
  obtain ⟨X, hX⟩ : ∃ X, rowR (TERMX xs) s = X := ⟨_, rfl⟩
  rw [hX]
  obtain ⟨w1, hw1, hb1, hz1, hx1⟩ := box_new w #[.int .i64 0, .int .i64 0, .string ⟨#[]⟩, .slice none 0 0] 31
  have h1 := h.box hb1 (Nat.le_refl _) hx1.lt
  have HMd := Lib.hid h.md
  have HMB := Lib.hid (Old.out h (Nat.le_refl _))
  have HT1 := Lib.hid (Turn.into (D := D) (M := M) hb1 (Nat.le_refl _))
  have HI := list_at ih h1 hlt
  rw [hX] at HI
  have HI := Lib.hid HI
  have HX1 := Lib.hid hx1
  clear h hX hlt ih h1 hx1 hb1 hz1
  go_enter Tryz.func99, Tryz.ntmps99
  go_wp2_with fail
  (try rw [hw1])
  clear hw1
  (go_wp2_with fail; go_fit (HI.out); rintro e w2 ⟨D2, M2, t2, v2, ok, rfl, htv, ht2, ho2, hok2, hsm2⟩)
  obtain ⟨k2, n2, s2, a2, m2, c2, rfl⟩ := htv.full
  have HDB := Lib.hid ((ht2.dd _ HX1.out.lt).trans (plusB_self D _))
  have HMB2 := Lib.hid ((ht2.mm _ HX1.out.lt).trans HMB.out)
  have HV2 := Lib.hid htv
  have HO2 := Lib.hid ho2
  have HT2 := Lib.hid (HT1.out.trans ht2)
  have HSM := Lib.hid hsm2
  obtain ⟨r0, r1, r2, r3, rf⟩ := (HX1.out.turn ht2 HMB.out).four
  clear htv ht2 ho2 hsm2
  cases X with
  | none =>
    obtain rfl : ok = false := hok2

    go_wp2
    refine bodyPost_ret (v := .tuple #[.agg #[.int .i64 k2, .int .i64 n2, .string s2, .slice a2 m2 c2], .bool false]) (by rw [results_cell_tmp rfl]; go_simp) rfl ?_
    exact bdone_none HT2.out HO2.out HMd.out (Nat.le_refl _) HDB.out HV2.out rfl
  | some q =>
    obtain ⟨tq, s1⟩ := q
    obtain rfl : ok = true := hok2
    obtain ⟨rfl, hs2⟩ := HSM.out _ _ rfl
    have HS2 := Lib.hid hs2
    clear hs2
    go_wp2
    refine bodyPost_ret (v := .tuple #[.agg #[.int .i64 k2, .int .i64 n2, .string s2, .slice a2 m2 c2], .bool true]) (by rw [results_cell_tmp rfl]; go_simp) rfl ?_
    exact bdone_some HT2.out HS2.out HMd.out (Nat.le_refl _) HDB.out HMB2.out HV2.out rfl
set_option maxHeartbeats 2000000 in
theorem other_at {xs : List O} {D M : Nat → Bool} {w : World} {rb : Nat} {s : RS} (h : St D M w rb xs s) (b : List UInt8) (h1 : (b == [40]) = false) (h2 : (b == [123]) = false) (h3 : (b == [91]) = false) :
    Calls Tryz.prog 99 #[.pointer (some ⟨rb, 0, none⟩), .string ⟨b.toArray⟩] w (BPost D M w rb xs none) := by
  obtain ⟨w1, hw1, hb1, hz1, hx1⟩ := box_new w #[.int .i64 0, .int .i64 0, .string ⟨#[]⟩, .slice none 0 0] 31
  have hO := h.okd.box hb1.size hx1.lt
  have HO := Lib.hid hO
  have HMd := Lib.hid h.md
  have HT1 := Lib.hid (Turn.into (D := D) (M := M) hb1 (Nat.le_refl _))
  obtain ⟨r0, r1, r2, r3, rf⟩ := hx1.four
  clear h hx1 hb1 hz1 hO
  go_enter Tryz.func99, Tryz.ntmps99
  go_wp2_with fail
  (try rw [hw1])
  clear hw1
  go_wp2
  refine bodyPost_ret (v := .tuple #[.agg #[.int .i64 0, .int .i64 0, .string ⟨#[]⟩, .slice none 0 0], .bool false]) (by rw [results_cell_tmp rfl]; go_simp) rfl ?_
  exact bdone_none HT1.out HO.out HMd.out (Nat.le_refl _) (plusB_self D _) (leaf_tm _ (k := 0) (n := 0) (s := ⟨#[]⟩) i64_0 i64_0 (by decide)) rfl
theorem bracketed_at {xs : List O} {n : Nat} (ih : IHT xs n) {D M : Nat → Bool} {w : World} {rb : Nat} {s : RS} (h : St D M w rb xs s) (hlt : s.rest.length < n) (b : List UInt8) :
    Calls Tryz.prog 99 #[.pointer (some ⟨rb, 0, none⟩), .string ⟨b.toArray⟩] w (BPost D M w rb xs (bracketR (TERMX xs) b s)) := by
  unfold bracketR
  by_cases h1 : b = [40]
  · rw [if_pos h1]
    subst h1
    exact paren_at ih h hlt
  · rw [if_neg h1]
    by_cases h2 : b = [123]
    · rw [if_pos h2]
      subst h2
      exact brace_at ih h hlt
    · rw [if_neg h2]
      by_cases h3 : b = [91]
      · rw [if_pos h3]
        subst h3
        exact square_at ih h hlt
      · rw [if_neg h3]
        exact other_at h b (beq_false_of_ne h1) (beq_false_of_ne h2) (beq_false_of_ne h3)
end Go.Proofs.YtaojalicnnnkmaaGreatDoor
/- The project's reader: named: a number less than 0, a name with its arguments, a name in quotes. -/
namespace Go.Proofs.YtaojalicnnnkmaaGreatDoor
open Go.Shelf Go.RowKit
set_option linter.unusedVariables false

theorem box_plus {D M : Nat → Bool} {w w1 w2 : World} (hb1 : Below w.heap.size w w1) (hb2 : Below w1.heap.size w1 w2) : Turn D M (plusB D w1.heap.size) M w w2 := Turn.into (Ext.trans' hb1 hb2) hb1.size
set_option maxRecDepth 100000 in
set_option maxHeartbeats 2000000 in
theorem named_minus {xs : List O} {D M : Nat → Bool} {w : World} {rb : Nat} {s : RS} (h : St D M w rb xs s) (q : TokP) (hq : tokOk q) (most : Int) (hm : isMinusR q (headR s) = true) :
    Calls Tryz.prog 96 #[.pointer (some ⟨rb, 0, none⟩), tkVal q, .int .i64 most] w (TPost D M w rb xs (some ((iT (-((headR s).1.n : Int)), 0), dropR s))) := by
  have hn := h.nice.head.1
  obtain ⟨x, hx⟩ : ∃ x, headR s = x := ⟨_, rfl⟩
  obtain ⟨w1, hw1, hb1, hz1, hx1⟩ := box_new w #[.int .i64 (q.1.kind : Int), .string ⟨q.1.text.toArray⟩, .int .i64 (q.1.n : Int), .bool q.1.opens, .int .i64 (q.2 : Int)] 125
  obtain ⟨w2, hw2, hb2, hz2, hx2⟩ := box_new w1 #[.int .i64 0, .int .i64 0, .string ⟨#[]⟩, .slice none 0 0] 31
  have h2 := h.box (Ext.trans' hb1 hb2) hb1.size hx2.lt
  have HMd := Lib.hid h.md
  have HMB := Lib.hid (Old.out h hb1.size)
  have HSB := Lib.hid hb1.size
  have HT2 := Lib.hid (box_plus (D := D) (M := M) hb1 hb2)
  have HM := isMinus_at h2 q hq.2.2
  rw [hm] at HM
  have HM := Lib.hid HM
  have HTK := Lib.hid (fun wq hq => take_at (h2.later (w' := wq) hq))
  rw [hx] at HTK hn
  rw [hx]
  have HX := Lib.hid hx2
  have HX1 := Lib.hid (hx1.ext hb2)
  obtain ⟨c0, c1, c2, c3, c4, cf⟩ := HX1.out.five
  have HV := Lib.hid (fun wq => int_at wq (-(x.1.n : Int)))
  have hneg : IntKind.i64.wrap (-(x.1.n : Int)) = -(x.1.n : Int) := by rw [IntKind.wrap_i64]; omega
  have HN := Lib.hid hn
  have hfd : ∀ wq : World, (Instr.field 125 (.agg #[.int .i64 (x.1.kind : Int), .string ⟨x.1.text.toArray⟩, .int .i64 (x.1.n : Int), .bool x.1.opens, .int .i64 (x.2 : Int)]) 2).run Tryz.prog wq = .ok (.int .i64 (x.1.n : Int)) wq := fun _ => by kernel_rfl
  clear h hq hx hb1 hb2 hz1 hz2 hx1 hx2 h2 hm hn
  go_enter Tryz.func96, Tryz.ntmps96
  go_wp2_with fail
  (try rw [hw1])
  (try rw [hw2])
  clear hw1 hw2
  (go_wp2_with fail; go_fit (HM.out); rintro e w3 ⟨rfl, hb3⟩)
  (go_wp2_with fail; go_fit (HTK.out _ hb3); rintro e w4 ⟨rfl, hs4, ht4⟩)
  simp only [tkVal]
  have HS4 := Lib.hid hs4
  have HT4 := Lib.hid ((HT2.out.trans (Turn.below hb3)).trans ht4)
  have HX4 := Lib.hid ((HX.out.ext hb3).turn ht4 HMB.out)
  clear hs4 ht4 hb3
  (go_wp2_with fail; go_fit (HV.out _); rintro e w5 ⟨rfl, hb5⟩)
  obtain ⟨r0, r1, r2, r3, rf⟩ := (HX4.out.ext hb5).four
  have HB5 := Lib.hid hb5
  clear hb5
  go_wp2
  refine bodyPost_ret (v := .tuple #[.agg #[.int .i64 1, .int .i64 (-(x.1.n : Int)), .string ⟨#[]⟩, .slice none 0 0], .int .i64 0, .bool true]) (by rw [results_cell3 rfl]; go_simp) rfl ?_
  exact tdone_some (HT4.out.trans (Turn.below HB5.out)) (HS4.out.later HB5.out) HMd.out HSB.out (plusB_self D _) HMB.out (leaf_tm _ i64_1 (by unfold I64; have := HN.out; omega) (by decide)) rfl
set_option maxRecDepth 100000 in
set_option maxHeartbeats 2000000 in
theorem named_quoted {xs : List O} {D M : Nat → Bool} {w : World} {rb : Nat} {s : RS} (h : St D M w rb xs s) (q : TokP) (hq : tokOk q) (most : Int) (hm : isMinusR q (headR s) = false) (ho : q.1.opens = false) (hk : q.1.kind = 2) :
    Calls Tryz.prog 96 #[.pointer (some ⟨rb, 0, none⟩), tkVal q, .int .i64 most] w (TPost D M w rb xs (some ((aT q.1.text, 0), s))) := by
  obtain ⟨w1, hw1, hb1, hz1, hx1⟩ := box_new w #[.int .i64 (q.1.kind : Int), .string ⟨q.1.text.toArray⟩, .int .i64 (q.1.n : Int), .bool q.1.opens, .int .i64 (q.2 : Int)] 125
  obtain ⟨w2, hw2, hb2, hz2, hx2⟩ := box_new w1 #[.int .i64 0, .int .i64 0, .string ⟨#[]⟩, .slice none 0 0] 31
  have h2 := h.box (Ext.trans' hb1 hb2) hb1.size hx2.lt
  have HMd := Lib.hid h.md
  have HMB := Lib.hid (Old.out h hb1.size)
  have HSB := Lib.hid hb1.size
  have HT2 := Lib.hid (box_plus (D := D) (M := M) hb1 hb2)
  have HM := isMinus_at h2 q hq.2.2
  rw [hm] at HM
  have HM := Lib.hid HM
  have HS2 := Lib.hid h2
  have HX := Lib.hid hx2
  have HX1 := Lib.hid (hx1.ext hb2)
  obtain ⟨c0, c1, c2, c3, c4, cf⟩ := HX1.out.five
  have HV := Lib.hid (fun wq => atom_at wq ⟨q.1.text.toArray⟩)
  have HQ := Lib.hid hq
  have k2 : ((q.1.kind : Int) == 2) = true := by rw [hk]; rfl
  have HO := Lib.hid ho
  clear h hq hb1 hb2 hz1 hz2 hx1 hx2 h2 hm ho hk
  go_enter Tryz.func96, Tryz.ntmps96
  go_wp2_with fail
  (try rw [hw1])
  (try rw [hw2])
  clear hw1 hw2
  (go_wp2_with fail; go_fit (HM.out); rintro e w3 ⟨rfl, hb3⟩)
  obtain ⟨c0, c1, c2, c3, c4, cf⟩ := (HX1.out.ext hb3).five
  rw [HO.out] at c3
  have HB3 := Lib.hid hb3
  clear hb3
  (go_wp2_with fail; go_fit (HV.out _); rintro e w5 ⟨rfl, hb5⟩)
  obtain ⟨r0, r1, r2, r3, rf⟩ := ((HX.out.ext HB3.out).ext hb5).four
  have HB5 := Lib.hid (Ext.trans' HB3.out hb5)
  clear hb5
  go_wp2
  refine bodyPost_ret (v := .tuple #[.agg #[.int .i64 2, .int .i64 0, .string ⟨q.1.text.toArray⟩, .slice none 0 0], .int .i64 0, .bool true]) (by rw [results_cell3 rfl]; go_simp) rfl ?_
  exact tdone_some (HT2.out.trans (Turn.below HB5.out)) (HS2.out.later HB5.out) HMd.out HSB.out (plusB_self D _) HMB.out (leaf_tm _ i64_2 i64_0 (by have := HQ.out.2.1; show q.1.text.toArray.size ≤ _; simp; unfold BIG; omega)) rfl
end Go.Proofs.YtaojalicnnnkmaaGreatDoor
/- The project's reader: named: a name with its arguments. -/
namespace Go.Proofs.YtaojalicnnnkmaaGreatDoor
open Go.Shelf Go.RowKit
set_option linter.unusedVariables false

theorem args_none {xs : List O} {name : List UInt8} {s : RS} (h : ITEMS (preO xs) (betO xs) s = none) : argsR (TERMX xs) name s = none := by rw [argsR_eq, h]
theorem args_open {xs : List O} {name : List UInt8} {s s1 : RS} {l : List Tm} (h : ITEMS (preO xs) (betO xs) s = some (l, s1)) (hm : isMark [41] (headR s1) = false) : argsR (TERMX xs) name s = none := by rw [argsR_eq, h]; simp only [(takesR_no hm).1]
theorem args_done {xs : List O} {name : List UInt8} {s s1 : RS} {l : List Tm} (h : ITEMS (preO xs) (betO xs) s = some (l, s1)) (hm : isMark [41] (headR s1) = true) : argsR (TERMX xs) name s = some ((.mk 2 0 (ba name) l, 0), takesS [41] s1) := by rw [argsR_eq, h]; simp only [takesR_yes hm]
set_option maxRecDepth 100000 in
set_option maxHeartbeats 4000000 in
theorem named_opens {xs : List O} {n : Nat} (ih : IHT xs n) {D M : Nat → Bool} {w : World} {rb : Nat} {s : RS} (h : St D M w rb xs s) (hlt : s.rest.length < n) (q : TokP) (hq : tokOk q) (most : Int) (hm : isMinusR q (headR s) = false) (ho : q.1.opens = true) :
    Calls Tryz.prog 96 #[.pointer (some ⟨rb, 0, none⟩), tkVal q, .int .i64 most] w (TPost D M w rb xs (argsR (TERMX xs) q.1.text (dropR s))) := by
  obtain ⟨X, hX⟩ : ∃ X, argsR (TERMX xs) q.1.text (dropR s) = X := ⟨_, rfl⟩
  rw [hX]
  have HXX := Lib.hid hX
  obtain ⟨w1, hw1, hb1, hz1, hx1⟩ := box_new w #[.int .i64 (q.1.kind : Int), .string ⟨q.1.text.toArray⟩, .int .i64 (q.1.n : Int), .bool q.1.opens, .int .i64 (q.2 : Int)] 125
  obtain ⟨w2, hw2, hb2, hz2, hx2⟩ := box_new w1 #[.int .i64 0, .int .i64 0, .string ⟨#[]⟩, .slice none 0 0] 31
  have h2 := h.box (Ext.trans' hb1 hb2) hb1.size hx2.lt
  have HMd := Lib.hid h.md
  have HMB := Lib.hid (Old.out h hb1.size)
  have HMT := Lib.hid (Old.out h (Nat.le_refl _))
  have HSB := Lib.hid hb1.size
  have HT2 := Lib.hid (box_plus (D := D) (M := M) hb1 hb2)
  have HM := isMinus_at h2 q hq.2.2
  rw [hm] at HM
  have HM := Lib.hid HM
  have HS2 := Lib.hid h2
  have HX := Lib.hid hx2
  have HX1 := Lib.hid (hx1.ext hb2)
  obtain ⟨c0, c1, c2, c3, c4, cf⟩ := HX1.out.five
  have HQ := Lib.hid hq
  have HO := Lib.hid ho
  have HTK := Lib.hid (fun wq hq => take_at (h2.later (w' := wq) hq))
  obtain ⟨x, hx⟩ : ∃ x, headR s = x := ⟨_, rfl⟩
  rw [hx] at HTK
  have HLT := Lib.hid (show (dropR s).rest.length < n by have := dropS_le s; omega)
  have HIH := Lib.hid ih
  have hts : (⟨q.1.text.toArray⟩ : ByteArray).size ≤ BIG := by have := hq.2.1; show q.1.text.toArray.size ≤ _; simp; unfold BIG; omega
  have HTS := Lib.hid hts
  clear h hq hb1 hb2 hz1 hz2 hx1 hx2 h2 hm ho hx hX hlt ih hts
  go_enter Tryz.func96, Tryz.ntmps96
  go_wp2_with fail
  (try rw [hw1])
  (try rw [hw2])
  clear hw1 hw2
  (go_wp2_with fail; go_fit (HM.out); rintro e w3 ⟨rfl, hb3⟩)
  obtain ⟨c0, c1, c2, c3, c4, cf⟩ := (HX1.out.ext hb3).five
  rw [HO.out] at c3
  (go_wp2_with fail; go_fit (HTK.out _ hb3); rintro e w4 ⟨rfl, hs4, ht4⟩)
  have HI := Lib.hid (ritems_at HIH.out hs4 HLT.out)
  have HX4 := Lib.hid ((HX.out.ext hb3).turn ht4 HMB.out)
  have HX14 := Lib.hid ((HX1.out.ext hb3).turn ht4 HMT.out)
  have HT4 := Lib.hid ((HT2.out.trans (Turn.below hb3)).trans ht4)
  clear hb3 hs4 ht4 c0 c1 c2 c3 c4 cf
  (go_wp2_with fail; go_fit (HI.out); rintro e w5 ⟨D5, M5, l, v5, ok, rfl, hl5, ht5, ho5, hok5, hsm5⟩)
  obtain ⟨a5, c5, rfl, _⟩ := hl5.len
  obtain ⟨m5, hm5⟩ : ∃ m, l.length = m := ⟨_, rfl⟩
  rw [hm5] at hl5
  have HDB := Lib.hid ((ht5.dd _ HX4.out.lt).trans (plusB_self D _))
  have HMB5 := Lib.hid ((ht5.mm _ HX4.out.lt).trans HMB.out)
  have HX5 := Lib.hid (HX4.out.turn ht5 HMB.out)
  obtain ⟨c0, c1, c2, c3, c4, cf⟩ := (HX14.out.turn ht5 HMT.out).five
  have HT5 := Lib.hid (HT4.out.trans ht5)
  have HO5 := Lib.hid ho5
  have HSM := Lib.hid hsm5
  have HOK := Lib.hid hok5
  have HCM := comp_hide (s := ⟨q.1.text.toArray⟩) HTS.out ho5.2 hl5
  rw [hm5] at HCM
  have HCM := Lib.hid HCM
  simp only [hm5]
  clear hl5 ht5 ho5 hok5 hsm5 hm5 HI
  (go_wp2_with fail; go_fit (HCM.out); rintro e w6 ⟨a6, c6, rfl, hv6, hb6⟩)
  have HV6 := Lib.hid hv6
  have HB6 := Lib.hid hb6
  have HX6 := Lib.hid (HX5.out.ext hb6)
  clear hv6 hb6 c0 c1 c2 c3 c4 cf HCM
  cases hI : ITEMS (preO xs) (betO xs) (dropR s) with
  | none =>
    obtain rfl : ok = false := by rw [HOK.out, hI]; rfl
    have HN := Lib.hid (show X = none from HXX.out.symm.trans (args_none hI))
    obtain ⟨r0, r1, r2, r3, rf⟩ := HX6.out.four
    clear hI
    go_wp2
    refine bodyPost_ret (v := .tuple #[.agg #[.int .i64 2, .int .i64 0, .string ⟨q.1.text.toArray⟩, .slice a6 m5 c6], .int .i64 0, .bool false]) (by rw [results_cell3 rfl]; go_simp) rfl ?_
    exact tdone_none (HT5.out.trans (Turn.below HB6.out)) (HO5.out.later HB6.out.size) HMd.out HSB.out HDB.out HV6.out HN.out
  | some p =>
    obtain ⟨l', s1⟩ := p
    obtain rfl : ok = true := by rw [HOK.out, hI]; rfl
    obtain ⟨rfl, hs5⟩ := HSM.out _ _ hI
    have hs6 := hs5.later HB6.out
    have HTK2 := Lib.hid (takes_at hs6 [41])
    have HMD := Lib.hid hs6.md
    have HI2 := Lib.hid hI
    clear hI hs5 hs6
    cases hmk : isMark [41] (headR s1) with
    | false =>
      rw [hmk] at HTK2
      have HN := Lib.hid (show X = none from HXX.out.symm.trans (args_open HI2.out hmk))
      clear hmk
      (go_wp2_with fail; go_fit (HTK2.out); rintro e w7 ⟨rfl, hs7, ht7⟩)
      obtain ⟨r0, r1, r2, r3, rf⟩ := (HX6.out.turn ht7 HMB5.out).four
      have HS7 := Lib.hid hs7
      have HT7 := Lib.hid ht7
      clear hs7 ht7
      go_wp2
      refine bodyPost_ret (v := .tuple #[.agg #[.int .i64 2, .int .i64 0, .string ⟨q.1.text.toArray⟩, .slice a6 m5 c6], .int .i64 0, .bool false]) (by rw [results_cell3 rfl]; go_simp) rfl ?_
      exact tdone_none ((HT5.out.trans (Turn.below HB6.out)).trans HT7.out) HS7.out.okd HMd.out HSB.out HDB.out (TmV.stay (HT7.out.stays HMD.out) _ _ HV6.out) HN.out
    | true =>
      rw [hmk] at HTK2
      have HN := Lib.hid (show X = some ((.mk 2 0 (ba q.1.text) l, 0), takesS [41] s1) from HXX.out.symm.trans (args_done HI2.out hmk))
      clear hmk
      (go_wp2_with fail; go_fit (HTK2.out); rintro e w7 ⟨rfl, hs7, ht7⟩)
      obtain ⟨r0, r1, r2, r3, rf⟩ := (HX6.out.turn ht7 HMB5.out).four
      have HS7 := Lib.hid hs7
      have HT7 := Lib.hid ht7
      clear hs7 ht7
      go_wp2
      refine bodyPost_ret (v := .tuple #[.agg #[.int .i64 2, .int .i64 0, .string ⟨q.1.text.toArray⟩, .slice a6 m5 c6], .int .i64 0, .bool true]) (by rw [results_cell3 rfl]; go_simp) rfl ?_
      exact tdone_some ((HT5.out.trans (Turn.below HB6.out)).trans HT7.out) HS7.out HMd.out HSB.out HDB.out HMB5.out (TmV.stay (HT7.out.stays HMD.out) _ _ HV6.out) HN.out
end Go.Proofs.YtaojalicnnnkmaaGreatDoor
