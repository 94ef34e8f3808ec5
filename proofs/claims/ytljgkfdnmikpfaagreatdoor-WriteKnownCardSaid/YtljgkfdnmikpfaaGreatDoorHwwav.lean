import Derived.Test.YtljgkfdnmikpfaaGreatDoorHwwau
import Derived.Test.YtljgkfdnmikpfaaGreatDoorHwwad
import Derived.Test.YtljgkfdnmikpfaaGreatDoorHwwai
import Derived.Test.YtljgkfdnmikpfaaGreatDoorHwwaj
import Derived.Lib.LaidTab
set_option linter.unusedVariables false
set_option linter.unusedSimpArgs false
/- What Term reads, apart from blocks that are not looked at. -/
namespace Go.Proofs.YtljgkfdnmikpfaaGreatDoor
open Go.Shelf Go.RowKit
set_option linter.unusedVariables false
set_option maxRecDepth 100000

def TermXh (D0 : Nat → Bool) (w : World) (X : ReadR (Tm × List NmP)) (e : Ending) (w' : World) : Prop :=
  (match X with
    | .ok (t, names) => ∃ v vn, e = .returned (.tuple #[v, vn, .int .i64 0]) ∧ TmV (hide D0 w') t v ∧ Nms w' vn names
    | .bad k => e = .returned (.tuple #[.agg #[.int .i64 0, .int .i64 0, .string ⟨#[]⟩, .slice none 0 0], .slice none 0 0, .int .i64 k])) ∧ Below w.heap.size w w'
set_option maxHeartbeats 4000000 in
theorem term8_hide {D0 : Nat → Bool} {xs : List O} {w : World} {v : Value} (hD0 : Old D0 w) (h : Ops (hide D0 w) v xs) (s : ByteArray) (he : Err w) (hs : s.size ≤ 140737488351232) :
    Calls Tryz.prog 15 #[.agg #[v], .string s] w (TermXh D0 w (readB oneR xs (bl s))) := by
  obtain ⟨X, hX⟩ : ∃ X, readB oneR xs (bl s) = X := ⟨_, rfl⟩
  rw [hX]
  obtain ⟨ao, co, hvo, hl1, hl2⟩ := h.form
  obtain ⟨w1, hw1, hb1, hz1, hx1⟩ := box_new w #[v] 36
  obtain ⟨w2, hw2, hb2, hz2, hx2⟩ := box_new w1 #[.int .i64 0, .int .i64 0, .string ⟨#[]⟩, .slice none 0 0] 27
  have hB2 := Ext.trans' hb1 hb2
  have hE : Old (fun k => k == w1.heap.size || D0 k) w2 := fun k hk => by
    have := hx2.lt
    have h1 := hD0 k (by have := hB2.size; omega)
    have h2 : (k == w1.heap.size) = false := beq_false_of_ne (by omega)
    simp only [h1, h2, Bool.or_self]
  have hST : Stays (hide D0 w) (hide (fun k => k == w1.heap.size || D0 k) w2) := Stays.below hB2 fun k hk hd => by
    have h2 : (k == w1.heap.size) = false := beq_false_of_ne (by have := hb1.size; omega)
    simp only [hd, h2, Bool.or_self]
  have HBG := Lib.hid (begin_at hE (Elems.stay h hST) s (he.ext hB2) hs)
  obtain ⟨mo, hmo⟩ : ∃ m, xs.length = m := ⟨_, rfl⟩
  rw [hmo] at hvo
  subst hvo
  have c0 := (hx1.ext hb2).cells 0 _ rfl
  have HX2 := Lib.hid hx2
  have HB2 := Lib.hid hB2
  have HSB := Lib.hid hb1.size
  have HXX := Lib.hid hX
  have HD0 := Lib.hid hD0
  have HB2s := Lib.hid hB2.size
  clear hST hD0 h he hb1 hb2 hz1 hz2 hx1 hx2 hB2 hl1 hl2 hmo hX hs
  go_enter Tryz.func15, Tryz.ntmps15
  go_wp2_with fail
  (try rw [hw1])
  (try rw [hw2])
  clear hw1 hw2
  cases hg : goodB xs with
  | false =>
    have HB : Hid (Calls Tryz.prog 42 #[.agg #[.slice ao mo co], .string s] w2 fun e w' => e = .returned (.tuple #[.pointer none, .int .i64 1]) ∧ Below w2.heap.size w2 w') := Lib.hid (HBG.out.mono fun e w' h => by rw [hg] at h; exact h)
    have HN := Lib.hid (show X = .bad 1 by rw [← HXX.out]; unfold readB; rw [hg]; rfl)
    clear hg HBG
    (go_wp2_with fail; go_fit (HB.out); rintro e w3 ⟨rfl, hb3⟩)
    have HB3 := Lib.hid (Ext.trans' HB2.out hb3)
    obtain ⟨r0, r1, r2, r3, rf⟩ := (HX2.out.ext hb3).four
    clear hb3 c0
    go_wp2
    refine bodyPost_ret (v := .tuple #[.agg #[.int .i64 0, .int .i64 0, .string ⟨#[]⟩, .slice none 0 0], .slice none 0 0, .int .i64 1]) (by rw [results_cell3 rfl]; go_simp) rfl ?_
    rw [HN.out]
    exact ⟨rfl, Below.set4 HB3.out HSB.out _ _ _ _⟩
  | true =>
  cases hc : cutB (bl s) with
  | bad p o =>
    have HB : Hid (Calls Tryz.prog 42 #[.agg #[.slice ao mo co], .string s] w2 fun e w' => e = .returned (.tuple #[.pointer none, .int .i64 (if o then 3 else 2)]) ∧ Below w2.heap.size w2 w') := Lib.hid (HBG.out.mono fun e w' h => by rw [hg, hc] at h; exact h)
    have HN := Lib.hid (show X = .bad (if o then 3 else 2) by rw [← HXX.out]; unfold readB; rw [hg, hc]; rfl)
    clear hg hc HBG
    cases o
    all_goals
      (go_wp2_with fail; go_fit (HB.out); rintro e w3 ⟨rfl, hb3⟩)
      have HB3 := Lib.hid (Ext.trans' HB2.out hb3)
      obtain ⟨r0, r1, r2, r3, rf⟩ := (HX2.out.ext hb3).four
      clear hb3 c0
      go_wp2
    · refine bodyPost_ret (v := .tuple #[.agg #[.int .i64 0, .int .i64 0, .string ⟨#[]⟩, .slice none 0 0], .slice none 0 0, .int .i64 2]) (by rw [results_cell3 rfl]; go_simp) rfl ?_
      rw [HN.out]
      exact ⟨rfl, Below.set4 HB3.out HSB.out _ _ _ _⟩
    · refine bodyPost_ret (v := .tuple #[.agg #[.int .i64 0, .int .i64 0, .string ⟨#[]⟩, .slice none 0 0], .slice none 0 0, .int .i64 3]) (by rw [results_cell3 rfl]; go_simp) rfl ?_
      rw [HN.out]
      exact ⟨rfl, Below.set4 HB3.out HSB.out _ _ _ _⟩
  | ok l =>
    have HB : Hid (Calls Tryz.prog 42 #[.agg #[.slice ao mo co], .string s] w2 fun e w' => (∃ rb D M, w2.heap.size ≤ rb ∧ e = .returned (.tuple #[.pointer (some ⟨rb, 0, none⟩), .int .i64 0]) ∧ St D M w' rb xs ⟨l, 0, []⟩ ∧ (∀ k, k < w2.heap.size → D k = (k == w1.heap.size || D0 k) ∧ M k = false)) ∧ Below w2.heap.size w2 w') := Lib.hid (HBG.out.mono fun e w' h => by rw [hg, hc] at h; exact h)
    have HGC := Lib.hid (And.intro hg hc)
    clear hg hc HBG
    (go_wp2_with fail; go_fit (HB.out); rintro e w3 ⟨⟨rb, D, M, hrb, rfl, hs3, hD⟩, hb3⟩)
    have HW := Lib.hid (whole_at hs3)
    have HX3 := Lib.hid (HX2.out.ext hb3)
    have HM0 := Lib.hid (show ∀ k, k < w2.heap.size → M k = false from fun k hk => (hD k hk).2)
    have hDB : D w1.heap.size = true := by rw [(hD _ HX2.out.lt).1]; simp
    have HDD := Lib.hid (show ∀ k, D k = false → D0 k = false from fun k hk => by
      by_cases hlt : k < w2.heap.size
      · rw [(hD k hlt).1, Bool.or_eq_false_iff] at hk
        exact hk.2
      · exact HD0.out k (by have := HB2s.out; omega))
    have HB3s := Lib.hid hb3.size
    have HB3 := Lib.hid hb3
    have HMd := Lib.hid hs3.md
    clear hs3 hb3 hD HB c0
    (go_wp2_with fail; go_fit (HW.out); rintro e w4 ⟨D4, M4, t4, v4, ok, rfl, htv, ht4, ho4, hok4, hsm4⟩)
    obtain ⟨k4, n4, s4, a4, m4, c4, rfl⟩ := htv.full
    obtain ⟨w5, hw5, hb5, hz5, hx5⟩ := box_new w4 #[.int .i64 k4, .int .i64 n4, .string s4, .slice a4 m4 c4] 27
    have HB24 := Lib.hid (Below.trans HB3.out (ht4.bel HB3.out.size HM0.out))
    have HB25 := Lib.hid (Ext.trans' HB24.out hb5)
    have HB5 := Lib.hid hb5
    have HX5 := Lib.hid (HX2.out.ext HB25.out)
    have HV4 := Lib.hid htv.bare
    have HVH := Lib.hid htv
    have HDB := Lib.hid ((ht4.dd _ HX3.out.lt).trans hDB)
    have HD4 := Lib.hid (show ∀ k, D4 k = false → D0 k = false from fun k hk => by
      by_cases hlt : k < w3.heap.size
      · exact HDD.out k ((ht4.dd k hlt).symm.trans hk)
      · exact HD0.out k (by have := HB2s.out; have := HB3s.out; omega))
    have HSM := Lib.hid hsm4
    have HOK := Lib.hid hok4
    have HXN := Lib.hid hx5
    obtain ⟨x0, x1, x2, x3, xf⟩ := hx5.four
    obtain ⟨r0, r1, r2, r3, rf⟩ := HX5.out.four
    have hneB : w4.heap.size ≠ w1.heap.size := by have := HX2.out.lt; have := HB24.out.size; omega
    have hrbB : rb ≠ w1.heap.size := by have := HX2.out.lt; omega
    clear htv ht4 ho4 hok4 hsm4 hb5 hz5 hx5 HW hDB
    cases hW : wholeR (preO xs) (betO xs) l with
    | none =>
      obtain rfl : ok = false := by rw [HOK.out, hW]; rfl
      have HN := Lib.hid (show X = .bad 2 from HXX.out.symm.trans (one_bad HGC.out.1 HGC.out.2 hW))
      clear hW
      go_wp2_with fail
      (try rw [hw5])
      clear hw5
      go_wp2
      refine bodyPost_ret (v := .tuple #[.agg #[.int .i64 0, .int .i64 0, .string ⟨#[]⟩, .slice none 0 0], .slice none 0 0, .int .i64 2]) (by rw [results_cell3 rfl]; go_simp) rfl ?_
      rw [HN.out]
      exact ⟨rfl, Below.set4 (Ext.trans' HB2.out HB25.out) HSB.out _ _ _ _⟩
    | some q =>
      obtain ⟨tq, s1⟩ := q
      obtain rfl : ok = true := by rw [HOK.out, hW]; rfl
      obtain ⟨rfl, hs4⟩ := HSM.out _ _ hW
      have hs5 := hs4.later HB5.out
      obtain ⟨_, vl, vn, _, p1, _, p3, pf, _, pl, pn, pm⟩ := hs5.parts
      obtain ⟨al, cl, rfl⟩ := toks_len pl
      obtain ⟨nl, hnl⟩ : ∃ n, s1.rest.length = n := ⟨_, rfl⟩
      rw [hnl] at p1
      have HNL := Lib.hid hnl
      have HPN := Lib.hid pn
      have HPM := Lib.hid pm
      have HW := Lib.hid hW
      have hM4B : ∀ k, vn.ownBlock = some k → k ≠ w1.heap.size := fun k hk e => by
        have h1 := (row_in pn hk).1
        have := HX2.out.lt
        omega
      have HMB := Lib.hid hM4B
      have HGD := Lib.hid (fun wq (hq : Below w5.heap.size w5 wq) => Good_at t4 wq _ (TmV.ext (Ext.trans' HB5.out hq) _ _ HV4.out))
      clear hW hs4 hs5 pl pn pm hnl hM4B
      by_cases hn : nl = 0
      · subst hn
        have HR := Lib.hid (show s1.rest = [] from List.length_eq_zero_iff.1 HNL.out)
        cases hgt : goodT t4 with
        | false =>
          have HN := Lib.hid (show X = .bad 3 from HXX.out.symm.trans (one_over HGC.out.1 HGC.out.2 HW.out HR.out hgt))
          rw [hgt] at HGD
          clear hgt
          go_wp2_with fail
          (try rw [hw5])
          clear hw5
          (go_wp2_with fail; go_fit (HGD.out _ (Below.refl _ _)); rintro e w6 ⟨rfl, hb6⟩)
          obtain ⟨r0, r1, r2, r3, rf⟩ := (HX5.out.ext hb6).four
          have HB6 := Lib.hid (Ext.trans' HB25.out hb6)
          clear hb6
          go_wp2
          refine bodyPost_ret (v := .tuple #[.agg #[.int .i64 0, .int .i64 0, .string ⟨#[]⟩, .slice none 0 0], .slice none 0 0, .int .i64 3]) (by rw [results_cell3 rfl]; go_simp) rfl ?_
          rw [HN.out]
          exact ⟨rfl, Below.set4 (Ext.trans' HB2.out HB6.out) HSB.out _ _ _ _⟩
        | true =>
          have HN := Lib.hid (show X = .ok (t4, s1.names) from HXX.out.symm.trans (one_ok HGC.out.1 HGC.out.2 HW.out HR.out hgt))
          rw [hgt] at HGD
          clear hgt
          go_wp2_with fail
          (try rw [hw5])
          clear hw5
          (go_wp2_with fail; go_fit (HGD.out _ (Below.refl _ _)); rintro e w6 ⟨rfl, hb6⟩)
          obtain ⟨r0, r1, r2, r3, rf⟩ := (HX5.out.ext hb6).four
          obtain ⟨x0, x1, x2, x3, xf⟩ := (HXN.out.ext hb6).four
          have p3 := cell_later hb6 p3
          have HB6 := Lib.hid hb6
          clear hb6 p1 pf
          go_wp2_with fail
          refine wp_region_held_drew (S := fun w' => w'.cell? ⟨w4.heap.size, 0, none⟩ = some (.int .i64 k4) ∧ w'.cell? ⟨w4.heap.size, 1, none⟩ = some (.int .i64 n4) ∧ w'.cell? ⟨w4.heap.size, 2, none⟩ = some (.string s4) ∧ w'.cell? ⟨w4.heap.size, 3, none⟩ = some (.slice a4 m4 c4) ∧ w'.cell? ⟨rb, 3, none⟩ = some vn) (by kernel_rfl) ⟨x0, x1, x2, x3, p3⟩ (fun hHeld => ?_)
          first | (refine held_t (i := 0) hHeld ?_; apply Exists.intro; refine ⟨fun wq hq => ?_, ?_⟩; (focus ((try dsimp only at hq); go_simp; (first | done | with_reducible rfl | fail)))) | refine held_s (i := 0) hHeld ?_ | fail
          first | (refine held_t (i := 1) hHeld ?_; apply Exists.intro; refine ⟨fun wq hq => ?_, ?_⟩; (focus ((try dsimp only at hq); go_simp; (first | done | with_reducible rfl | fail)))) | refine held_s (i := 1) hHeld ?_ | fail
          first | (refine held_t (i := 2) hHeld ?_; apply Exists.intro; refine ⟨fun wq hq => ?_, ?_⟩; (focus ((try dsimp only at hq); go_simp; (first | done | with_reducible rfl | fail)))) | refine held_s (i := 2) hHeld ?_ | fail
          first | (refine held_t (i := 3) hHeld ?_; apply Exists.intro; refine ⟨fun wq hq => ?_, ?_⟩; (focus ((try dsimp only at hq); go_simp; (first | done | with_reducible rfl | fail)))) | refine held_s (i := 3) hHeld ?_ | fail
          first | (refine held_t (i := 4) hHeld ?_; apply Exists.intro; refine ⟨fun wq hq => ?_, ?_⟩; (focus ((try dsimp only at hq); go_simp; (first | done | with_reducible rfl | fail)))) | refine held_s (i := 4) hHeld ?_ | fail
          try simp only [Act.put, List.setIfInBounds_toArray, List.set_cons_zero, List.set_cons_succ]
          refine held_c 5 fun K hK => ?_
          go_simp
          skip
          refine hK.out _ _ (⟨far4 hHeld.1 hneB _ _ _ _, far4 hHeld.2.1 hneB _ _ _ _, far4 hHeld.2.2.1 hneB _ _ _ _, far4 hHeld.2.2.2.1 hneB _ _ _ _, far4 hHeld.2.2.2.2 hrbB _ _ _ _⟩) (fun hHeld => ?_)
          clear hK K
          try simp only [Act.put, List.setIfInBounds_toArray, List.set_cons_zero, List.set_cons_succ]
          first | (refine held_t (i := 6) hHeld ?_; apply Exists.intro; refine ⟨fun wq hq => ?_, ?_⟩; (focus ((try dsimp only at hq); go_simp; (first | done | with_reducible rfl | fail)))) | refine held_s (i := 6) hHeld ?_ | fail
          first | (refine held_t (i := 7) hHeld ?_; apply Exists.intro; refine ⟨fun wq hq => ?_, ?_⟩; (focus ((try dsimp only at hq); go_simp; (first | done | with_reducible rfl | fail)))) | refine held_s (i := 7) hHeld ?_ | fail
          try simp only [Act.put, List.setIfInBounds_toArray, List.set_cons_zero, List.set_cons_succ]
          refine wpAnyH_done (by kernel_rfl) ?_ _
          go_wp2
          refine bodyPost_ret (v := .tuple #[.agg #[.int .i64 k4, .int .i64 n4, .string s4, .slice a4 m4 c4], vn, .int .i64 0]) (by rw [results_cell3 rfl]; go_simp) rfl ?_
          rw [HN.out]
          have hBf : Below w4.heap.size w4 w6.drew := (Ext.trans' HB5.out HB6.out).drew
          have hv6 := TmV.stay (Stays.less HD4.out) _ _ ((TmV.later hBf HVH.out).put4 HDB.out (.int .i64 k4) (.int .i64 n4) (.string s4) (.slice a4 m4 c4))
          have hBB : Below w.heap.size w (set4 w6.drew w1.heap.size (.int .i64 k4) (.int .i64 n4) (.string s4) (.slice a4 m4 c4)) := Below.set4 (Ext.trans' HB2.out (Ext.trans' HB24.out hBf)) HSB.out _ _ _ _
          have hrow : (set4 w6.drew w1.heap.size (.int .i64 k4) (.int .i64 n4) (.string s4) (.slice a4 m4 c4)).ownsRow (rb + 1) 54 2 vn s1.names.length (s1.names.flatMap nmCells) := row_at HPN.out (fun g hg => by
            have h1 := HMB.out g hg
            have h2 := (row_in HPN.out hg).2
            rw [Below.heap_setCell _ _ _ g (fun e => h1 e), Below.heap_setCell _ _ _ g (fun e => h1 e), Below.heap_setCell _ _ _ g (fun e => h1 e), Below.heap_setCell _ _ _ g (fun e => h1 e)]
            exact HB6.out.drew.block g h2)
          exact ⟨⟨_, _, rfl, hv6, Elems.owned nmCells_len hrow⟩, hBB⟩
      · have HR := Lib.hid (show s1.rest ≠ [] from fun e => hn (by rw [← HNL.out, e]; rfl))
        have HN := Lib.hid (show X = .bad 2 from HXX.out.symm.trans (one_more HGC.out.1 HGC.out.2 HW.out HR.out))
        have hnd : (0 : Int) < (nl : Int) := by omega
        clear hn
        go_wp2_with fail
        (try rw [hw5])
        clear hw5
        go_wp2
        refine bodyPost_ret (v := .tuple #[.agg #[.int .i64 0, .int .i64 0, .string ⟨#[]⟩, .slice none 0 0], .slice none 0 0, .int .i64 2]) (by rw [results_cell3 rfl]; go_simp) rfl ?_
        rw [HN.out]
        exact ⟨rfl, Below.set4 (Ext.trans' HB2.out HB25.out) HSB.out _ _ _ _⟩
theorem oneP_hide {D0 : Nat → Bool} {xs : List O} {s : ByteArray} {t : Tm} {nm : List NmP} (hX : readB oneR xs (bl s) = .ok (t, nm)) (hs : s.size ≤ 140737488351232) {w : World} (he : Err w) {v : Value} (hD : Old D0 w) (ho : Ops (hide D0 w) v xs) :
    Calls Tryz.prog 15 #[.agg #[v], .string s] w fun e w' => (∃ k n b a m c vn, e = .returned (.tuple #[.agg #[.int .i64 k, .int .i64 n, .string b, .slice a m c], vn, .int .i64 0]) ∧ TmV (hide D0 w') t (.agg #[.int .i64 k, .int .i64 n, .string b, .slice a m c]) ∧ Nms w' vn nm) ∧ Below w.heap.size w w' :=
  (term8_hide hD ho s he hs).mono fun e w' (h : TermXh D0 w (readB oneR xs (bl s)) e w') => by
    rw [hX] at h
    obtain ⟨⟨v, vn, h1, h2, h3⟩, h4⟩ := h
    obtain ⟨k, n, b, a, m, c, rfl⟩ := h2.full
    exact ⟨⟨k, n, b, a, m, c, vn, h1, h2, h3⟩, h4⟩
/-- The operators that are there from the first do not lie in a zero term's block. -/
theorem ops_hide {w wA : World} {vA : Value} {ty : TypeId} (hb : Below (w.alloc (.cells #[.int .i64 0, .int .i64 0, .string ⟨#[]⟩, .slice none 0 0] ty)).heap.size (w.alloc (.cells #[.int .i64 0, .int .i64 0, .string ⟨#[]⟩, .slice none 0 0] ty)) wA) (ho : Ops wA vA opsB) :
    Ops (hide (fun k => k == w.heap.size) wA) vA opsB := by
  obtain ⟨a, cap, rfl, h1, h2, h3⟩ := ho
  refine ⟨a, cap, rfl, h1, h2, ?_⟩
  rcases h3 with h3 | ⟨b', off, rfl, hb', hc⟩
  · exact Or.inl h3
  · have hne : b' ≠ w.heap.size := by
      intro e
      obtain ⟨o, r, ho⟩ : ∃ o r, opsB = o :: r ∧ 0 < o.n.size := by
        refine ⟨opsB.head (by intro h; exact absurd (congrArg List.length h) (by decide)), opsB.tail, ?_, ?_⟩
        · exact (List.cons_head_tail _).symm
        · decide
      have h0 := hc 0 o (by rw [ho.1]; rfl) 0 (.string o.n) rfl
      rw [e] at h0
      have hlt : w.heap.size < (w.alloc (.cells #[.int .i64 0, .int .i64 0, .string ⟨#[]⟩, .slice none 0 0] ty)).heap.size := by simp
      rw [World.cell?_of_block (hb.block _ hlt)] at h0
      rw [World.cell?_alloc_at _ _ _ _ rfl] at h0
      obtain ⟨z, hz⟩ : ∃ z, off + 0 * 3 + 0 = z := ⟨_, rfl⟩
      rw [hz] at h0
      have hsz := ho.2
      rcases z with _ | _ | _ | _ | z
      · simp at h0
      · simp at h0
      · simp at h0
        rw [← h0] at hsz
        exact absurd hsz (by decide)
      · simp at h0
      · simp at h0
    refine Or.inr ⟨b', off, rfl, by rw [hide_size]; exact hb', fun i x hx j u hu => ?_⟩
    rw [hide_cell (fun k => k == w.heap.size) wA _ (show (b' == w.heap.size) = false from beq_false_of_ne hne)]
    exact hc i x hx j u hu
end Go.Proofs.YtljgkfdnmikpfaaGreatDoor
/- WriteKnown: the chapter's texts, read, are written as it says: the law, walked. -/
namespace Go.Proofs.YtljgkfdnmikpfaaGreatDoor
open Go.Shelf Go.RowKit
set_option linter.unusedVariables false
set_option maxRecDepth 100000

def wkL : List ByteArray := [⟨#[97, 32, 43, 32, 98, 32, 43, 32, 99]⟩, ⟨#[97, 32, 43, 32, 40, 98, 32, 43, 32, 99, 41]⟩, ⟨#[40, 97, 32, 58, 45, 32, 98, 41, 32, 43, 32, 99]⟩, ⟨#[45, 40, 49, 41]⟩, ⟨#[45, 32, 97]⟩, ⟨#[50, 32, 45, 32, 40, 45, 49, 41]⟩, ⟨#[102, 40, 45, 49, 44, 45, 32, 97, 41]⟩, ⟨#[91, 97, 44, 98, 124, 95, 48, 93]⟩, ⟨#[91, 93]⟩, ⟨#[123, 97, 44, 98, 125]⟩, ⟨#[39, 88, 39, 40, 98, 41]⟩, ⟨#[97, 44, 98, 44, 99]⟩, ⟨#[40, 97, 44, 98, 41, 44, 99]⟩, ⟨#[102, 40, 40, 97, 44, 98, 41, 41]⟩, ⟨#[91, 40, 97, 32, 58, 45, 32, 98, 41, 93]⟩, ⟨#[92, 43, 32, 97, 32, 61, 32, 98]⟩, ⟨#[40, 92, 43, 32, 97, 41, 32, 61, 32, 98]⟩, ⟨#[40, 45, 41, 32, 43, 32, 97]⟩, ⟨#[102, 40, 45, 41]⟩, ⟨#[97, 58, 45, 98]⟩]
def wkW : List ByteArray := [⟨#[97, 32, 43, 32, 98, 32, 43, 32, 99]⟩, ⟨#[97, 32, 43, 32, 40, 98, 32, 43, 32, 99, 41]⟩, ⟨#[40, 97, 32, 58, 45, 32, 98, 41, 32, 43, 32, 99]⟩, ⟨#[45, 40, 49, 41]⟩, ⟨#[45, 32, 97]⟩, ⟨#[50, 32, 45, 32, 40, 45, 49, 41]⟩, ⟨#[102, 40, 45, 49, 44, 45, 32, 97, 41]⟩, ⟨#[91, 97, 44, 98, 124, 95, 48, 93]⟩, ⟨#[91, 93]⟩, ⟨#[123, 97, 44, 98, 125]⟩, ⟨#[39, 88, 39, 40, 98, 41]⟩, ⟨#[97, 44, 98, 44, 99]⟩, ⟨#[40, 97, 44, 98, 41, 44, 99]⟩, ⟨#[102, 40, 40, 97, 44, 98, 41, 41]⟩, ⟨#[91, 40, 97, 32, 58, 45, 32, 98, 41, 93]⟩, ⟨#[92, 43, 32, 97, 32, 61, 32, 98]⟩, ⟨#[40, 92, 43, 32, 97, 41, 32, 61, 32, 98]⟩, ⟨#[40, 45, 41, 32, 43, 32, 97]⟩, ⟨#[102, 40, 45, 41]⟩, ⟨#[97, 32, 58, 45, 32, 98]⟩]
/-- How what is read is written. -/
def outW (s : List UInt8) : Option (List UInt8) := match readB oneR opsB (s ++ [32, 46]) with
  | .ok p => if goodT p.1 && decide ((writeT opsB p.1).length ≤ 4096) then some (writeT opsB p.1) else none
  | .bad _ => none
theorem wk_all : ((wkL.zip wkW).all fun p => (outW (bl p.1) == some (bl p.2)) && decide (p.1.size ≤ 4000)) = true := by kernel_rfl
theorem outW_some {s r : List UInt8} (h : outW s = some r) : ∃ t ns, readB oneR opsB (s ++ [32, 46]) = .ok (t, ns) ∧ termTx opsB t = .tuple #[.string ⟨r.toArray⟩, .int .i64 0] := by
  unfold outW at h
  cases hr : readB oneR opsB (s ++ [32, 46]) with
  | bad q => rw [hr] at h; cases h
  | ok p =>
    rw [hr] at h
    simp only at h
    by_cases hg : (goodT p.1 && decide ((writeT opsB p.1).length ≤ 4096)) = true
    · rw [if_pos hg] at h
      rw [Bool.and_eq_true, decide_eq_true_eq] at hg
      refine ⟨p.1, p.2, rfl, ?_⟩
      show textX (goodB opsB && goodT p.1) (writeT opsB p.1) = _
      rw [hg.1, show goodB opsB = true from by kernel_rfl, Bool.and_self, textX_ok hg.2, Option.some.inj h]
    · rw [if_neg hg] at h; cases h
theorem wk_at {k : Nat} (h : k < 20) : ∃ (x y : ByteArray) (t : Tm) (ns : List NmP), wkL[k]? = some x ∧ wkW[k]? = some y ∧ readB oneR opsB (bl x ++ [32, 46]) = .ok (t, ns) ∧ termTx opsB t = .tuple #[.string y, .int .i64 0] ∧ x.size ≤ 4000 := by
  have hk : k < wkL.length := h
  have hk2 : k < wkW.length := h
  have hm : (wkL[k], wkW[k]) ∈ wkL.zip wkW := by
    rw [List.mem_iff_getElem]
    exact ⟨k, by rw [List.length_zip]; omega, List.getElem_zip⟩
  have h1 := List.all_eq_true.1 wk_all _ hm
  rw [Bool.and_eq_true] at h1
  obtain ⟨t, ns, h3, h4⟩ := outW_some (eq_of_beq h1.1)
  exact ⟨wkL[k], wkW[k], t, ns, List.getElem?_eq_getElem hk, List.getElem?_eq_getElem hk2, h3, h4, of_decide_eq_true h1.2⟩
abbrev zOpW : O := ⟨⟨#[]⟩, ⟨#[]⟩, 0⟩
abbrev t7W : Tm := .mk 7 0 ⟨#[]⟩ []
abbrev i1W : Tm := .mk 1 1 ⟨#[]⟩ []
abbrev sQ : ByteArray := ⟨#[39, 39, 39, 39, 39, 39, 39, 39, 39, 39, 39, 39, 39, 39, 39, 39, 39, 39, 39, 39, 39, 39, 39, 39, 39, 39, 39, 39, 39, 39, 39, 39, 39, 39, 39, 39, 39, 39, 39, 39, 39, 39, 39, 39, 39, 39, 39, 39, 39, 39, 39, 39, 39, 39, 39, 39, 39, 39, 39]⟩
abbrev aQ : Tm := .mk 2 0 sQ []
abbrev gQ : Tm := .mk 2 0 ⟨#[103]⟩ [aQ, aQ, aQ, aQ, aQ, aQ, aQ, aQ]
abbrev hQ : Tm := .mk 2 0 ⟨#[103]⟩ [gQ, gQ, gQ, gQ, gQ, gQ, gQ, gQ]
abbrev vL : Tm := .mk 2 0 ⟨#[43]⟩ [.mk 2 0 ⟨#[97, 32, 98]⟩ [], listT [.mk 0 3 ⟨#[]⟩ []] (.mk 0 9 ⟨#[]⟩ [])]
/-- A read term's box. -/
def readBox (wr : World) (t : Tm) (u4 u6 : Value) (wx : World) : Prop := ∃ (b : Nat) (k7 n7 : Int) (s7 : ByteArray) (a7 : Option Addr) (m7 c7 : Nat), u4 = .pointer (some ⟨b, 0, none⟩) ∧ u6 = .int .i64 0 ∧ Box wx b [.int .i64 k7, .int .i64 n7, .string s7, .slice a7 m7 c7] ∧ TmV wx t (.agg #[.int .i64 k7, .int .i64 n7, .string s7, .slice a7 m7 c7]) ∧ Below wr.heap.size wr wx
theorem wk_a : termTx opsB t7W = .tuple #[.string ⟨#[]⟩, .int .i64 1] := by kernel_rfl
theorem wk_b : termTx [zOpW] i1W = .tuple #[.string ⟨#[]⟩, .int .i64 1] := by kernel_rfl
theorem wk_c : textX (goodT t7W) (PLAIN (varsT t7W []) t7W) = .tuple #[.string ⟨#[]⟩, .int .i64 1] := by kernel_rfl
theorem wk_d : textX (goodT hQ) (PLAIN (varsT hQ []) hQ) = .tuple #[.string ⟨#[]⟩, .int .i64 3] := by kernel_rfl
theorem wk_e : textX (goodT vL) (PLAIN (varsT vL []) vL) = .tuple #[.string ⟨#[43, 40, 39, 97, 32, 98, 39, 44, 39, 46, 39, 40, 95, 48, 44, 95, 49, 41, 41]⟩, .int .i64 0] := by kernel_rfl
theorem laid_eight {w : World} {k n : Int} {s : ByteArray} {u : Value} {x : Tm} {ty : TypeId} (h : TmV w x (.agg #[.int .i64 k, .int .i64 n, .string s, u])) :
    Tms (w.alloc (.cells #[.int .i64 k, .int .i64 n, .string s, u, .int .i64 k, .int .i64 n, .string s, u, .int .i64 k, .int .i64 n, .string s, u, .int .i64 k, .int .i64 n, .string s, u, .int .i64 k, .int .i64 n, .string s, u, .int .i64 k, .int .i64 n, .string s, u, .int .i64 k, .int .i64 n, .string s, u, .int .i64 k, .int .i64 n, .string s, u] ty)) (.slice (some ⟨w.heap.size, 0, none⟩) 8 8) [x, x, x, x, x, x, x, x] := by
  obtain ⟨v, e⟩ := h.pair
  unfold pVal at e
  simp only [Value.agg.injEq, Array.mk.injEq, List.cons.injEq, Value.int.injEq, Value.string.injEq, and_true, true_and] at e
  obtain ⟨rfl, rfl, rfl, rfl⟩ := e
  refine laidT_tms [(x, u), (x, u), (x, u), (x, u), (x, u), (x, u), (x, u), (x, u)] rfl (fun p hp => ?_) (by unfold BIG; simp) rfl rfl
  have hp' : p = (x, u) := by simpa using hp
  subst hp'
  exact TmV.ext (bel1' _ _) _ _ h
theorem hide_alloc {D : Nat → Bool} {w : World} {o : Obj} (h : D w.heap.size = false) : hide D (w.alloc o) = (hide D w).alloc o := by
  unfold hide World.alloc
  simp [h, Array.mapIdx_push]
theorem laid_eight_h {D : Nat → Bool} {w : World} {k n : Int} {s : ByteArray} {u : Value} {x : Tm} {ty : TypeId} (hD : D w.heap.size = false) (h : TmV (hide D w) x (.agg #[.int .i64 k, .int .i64 n, .string s, u])) :
    Tms (hide D (w.alloc (.cells #[.int .i64 k, .int .i64 n, .string s, u, .int .i64 k, .int .i64 n, .string s, u, .int .i64 k, .int .i64 n, .string s, u, .int .i64 k, .int .i64 n, .string s, u, .int .i64 k, .int .i64 n, .string s, u, .int .i64 k, .int .i64 n, .string s, u, .int .i64 k, .int .i64 n, .string s, u, .int .i64 k, .int .i64 n, .string s, u] ty))) (.slice (some ⟨w.heap.size, 0, none⟩) 8 8) [x, x, x, x, x, x, x, x] := by
  rw [hide_alloc hD]
  have := laid_eight (ty := ty) h
  rw [hide_size] at this
  exact this
theorem laid_one {w : World} {k n : Int} {s : ByteArray} {u : Value} {x : Tm} {ty : TypeId} (h : TmV w x (.agg #[.int .i64 k, .int .i64 n, .string s, u])) :
    Tms (w.alloc (.cells #[.int .i64 k, .int .i64 n, .string s, u] ty)) (.slice (some ⟨w.heap.size, 0, none⟩) 1 1) [x] := by
  obtain ⟨v, e⟩ := h.pair
  unfold pVal at e
  simp only [Value.agg.injEq, Array.mk.injEq, List.cons.injEq, Value.int.injEq, Value.string.injEq, and_true, true_and] at e
  obtain ⟨rfl, rfl, rfl, rfl⟩ := e
  refine laidT_tms [(x, u)] rfl (fun p hp => ?_) (by unfold BIG; simp) rfl rfl
  have hp' : p = (x, u) := by simpa using hp
  subst hp'
  exact TmV.ext (bel1' _ _) _ _ h
end Go.Proofs.YtljgkfdnmikpfaaGreatDoor
/- WriteKnown: the law, walked. -/
namespace Go.Proofs.YtljgkfdnmikpfaaGreatDoor
open Go.Shelf Go.RowKit
set_option linter.unusedVariables false
set_option maxRecDepth 100000

set_option maxHeartbeats 8000000 in
theorem writeKnown_walk {w : World} (hc : Con w) : Calls Tryz.prog 7 #[] w fun e w' => e = .returned (.bool true) ∧ Below w.heap.size w w' := by
  have HAW := Lib.hid (awake9_at hc)
  have HE := Lib.hid hc
  clear hc
  go_enter Tryz.func7, Tryz.ntmps7
  (go_wp2_with fail; go_fit (HAW.out); rintro e w1 ⟨rfl, b1⟩)
  have B1 := Lib.hid b1
  clear b1
  obtain ⟨w2, hw2, hb2, hz2, hx2⟩ := box_new w1 #[.string ⟨#[97, 32, 43, 32, 98, 32, 43, 32, 99]⟩, .string ⟨#[97, 32, 43, 32, 40, 98, 32, 43, 32, 99, 41]⟩, .string ⟨#[40, 97, 32, 58, 45, 32, 98, 41, 32, 43, 32, 99]⟩, .string ⟨#[45, 40, 49, 41]⟩, .string ⟨#[45, 32, 97]⟩, .string ⟨#[50, 32, 45, 32, 40, 45, 49, 41]⟩, .string ⟨#[102, 40, 45, 49, 44, 45, 32, 97, 41]⟩, .string ⟨#[91, 97, 44, 98, 124, 95, 48, 93]⟩, .string ⟨#[91, 93]⟩, .string ⟨#[123, 97, 44, 98, 125]⟩, .string ⟨#[39, 88, 39, 40, 98, 41]⟩, .string ⟨#[97, 44, 98, 44, 99]⟩, .string ⟨#[40, 97, 44, 98, 41, 44, 99]⟩, .string ⟨#[102, 40, 40, 97, 44, 98, 41, 41]⟩, .string ⟨#[91, 40, 97, 32, 58, 45, 32, 98, 41, 93]⟩, .string ⟨#[92, 43, 32, 97, 32, 61, 32, 98]⟩, .string ⟨#[40, 92, 43, 32, 97, 41, 32, 61, 32, 98]⟩, .string ⟨#[40, 45, 41, 32, 43, 32, 97]⟩, .string ⟨#[102, 40, 45, 41]⟩, .string ⟨#[97, 58, 45, 98]⟩] 9
  obtain ⟨w3, hw3, hb3, hz3, hx3⟩ := box_new w2 #[.string ⟨#[97, 32, 43, 32, 98, 32, 43, 32, 99]⟩, .string ⟨#[97, 32, 43, 32, 40, 98, 32, 43, 32, 99, 41]⟩, .string ⟨#[40, 97, 32, 58, 45, 32, 98, 41, 32, 43, 32, 99]⟩, .string ⟨#[45, 40, 49, 41]⟩, .string ⟨#[45, 32, 97]⟩, .string ⟨#[50, 32, 45, 32, 40, 45, 49, 41]⟩, .string ⟨#[102, 40, 45, 49, 44, 45, 32, 97, 41]⟩, .string ⟨#[91, 97, 44, 98, 124, 95, 48, 93]⟩, .string ⟨#[91, 93]⟩, .string ⟨#[123, 97, 44, 98, 125]⟩, .string ⟨#[39, 88, 39, 40, 98, 41]⟩, .string ⟨#[97, 44, 98, 44, 99]⟩, .string ⟨#[40, 97, 44, 98, 41, 44, 99]⟩, .string ⟨#[102, 40, 40, 97, 44, 98, 41, 41]⟩, .string ⟨#[91, 40, 97, 32, 58, 45, 32, 98, 41, 93]⟩, .string ⟨#[92, 43, 32, 97, 32, 61, 32, 98]⟩, .string ⟨#[40, 92, 43, 32, 97, 41, 32, 61, 32, 98]⟩, .string ⟨#[40, 45, 41, 32, 43, 32, 97]⟩, .string ⟨#[102, 40, 45, 41]⟩, .string ⟨#[97, 32, 58, 45, 32, 98]⟩] 9
  obtain ⟨bi, hbi⟩ : ∃ bi, w1.heap.size = bi := ⟨_, rfl⟩
  obtain ⟨bo, hbo⟩ : ∃ bo, w2.heap.size = bo := ⟨_, rfl⟩
  have HXI := Lib.hid (show ∀ k x, wkL[k]? = some x → w3.cell? ⟨bi, k, none⟩ = some (.string x) from fun k x hx => by
    rw [← hbi]
    exact cell_later hb3 (hx2.cells k (.string x) (by
      show (wkL.map Value.string)[k]? = _
      rw [List.getElem?_map, hx]; rfl)))
  have HXO := Lib.hid (show ∀ k x, wkW[k]? = some x → w3.cell? ⟨bo, k, none⟩ = some (.string x) from fun k x hx => by
    rw [← hbo]
    exact hx3.cells k (.string x) (by
      show (wkW.map Value.string)[k]? = _
      rw [List.getElem?_map, hx]; rfl))
  have HB3 := Lib.hid (Ext.trans' B1.out (Ext.trans' hb2 hb3))
  clear hb2 hz2 hx2 hb3 hz3 hx3
  go_wp2_with fail
  (try rw [hw2])
  (try rw [hw3])
  clear hw2 hw3
  (try rw [hbi])
  (try rw [hbo])
  clear hbi hbo
  go_loopw [3] (fun v wr => ∃ k : Nat, k ≤ 20 ∧ v = .int .i64 k ∧ Hid (Below w3.heap.size w3 wr)) (fun v _ => 20 - (intOf v).toNat)
  case atStart => exact ⟨0, by omega, rfl, Lib.hid (Below.refl _ _)⟩
  case round =>
    obtain ⟨k, hk, rfl, HB⟩ := hrel
    by_cases hlt : k < 20
    · obtain ⟨x, y, t, ns, hx, hy, hr, hT, hxs⟩ := wk_at hlt
      have c0 : wr.cell? ⟨bi, k, none⟩ = some (.string x) := cell_later HB.out (HXI.out k x hx)
      have HD1 := Lib.hid (HXO.out k y hy)
      have HBW := Lib.hid (Ext.trans' HB3.out HB.out)
      have hr2 : readB oneR opsB (bl (x ++ ⟨#[32, 46]⟩)) = .ok (t, ns) := by rw [bl_cat]; exact hr
      have HR2 := Lib.hid hr2
      have HTT := Lib.hid hT
      have hss : ¬ 9223372036854775807 < x.size + 2 := by omega
      have hss2 : ¬ 9223372036854775807 < 2 + x.size := by omega
      have hsz : (x ++ ⟨#[32, 46]⟩ : ByteArray).size ≤ 140737488351232 := by rw [ByteArray.size_append]; show x.size + 2 ≤ _; omega
      have HSZ := Lib.hid hsz
      clear hx hy hr hr2 hT hsz
      have hd20 : decide ((k : Int) < 20) = true := decide_eq_true (by omega)
      go_upto_region 8 with fail
      clear hd20
      have hk20 : (k : Int) < 20 := by omega
      go_cut [4, 5, 6] from 30 to 40 (fun u4 u5 u6 wx => readBox wr t u4 u6 wx)
      case first =>
        refine wp_region_held_drew (S := fun w' => w'.cell? ⟨bi, k, none⟩ = some (.string x) ∧ Below wr.heap.size wr w') (by kernel_rfl) ⟨c0, (Below.refl _ _).drew⟩ (fun hHeld => ?_)
        first | (refine held_t (i := 1) hHeld ?_; apply Exists.intro; refine ⟨fun wq hq => ?_, ?_⟩; (focus ((try dsimp only at hq); go_simp; (first | done | with_reducible rfl | fail)))) | refine held_s (i := 1) hHeld ?_ | fail
        first | (refine held_t (i := 2) hHeld ?_; apply Exists.intro; refine ⟨fun wq hq => ?_, ?_⟩; (focus ((try dsimp only at hq); go_simp; (first | done | with_reducible rfl | fail)))) | refine held_s (i := 2) hHeld ?_ | fail
        try simp only [Act.put, List.setIfInBounds_toArray, List.set_cons_zero, List.set_cons_succ]
        first | (refine held_t (i := 3) hHeld ?_; apply Exists.intro; refine ⟨fun wq hq => ?_, ?_⟩; (focus ((try dsimp only at hq); go_simp; (first | done | with_reducible rfl | fail)))) | refine held_s (i := 3) hHeld ?_ | fail
        first | (refine held_t (i := 4) hHeld ?_; apply Exists.intro; refine ⟨fun wq hq => ?_, ?_⟩; (focus ((try dsimp only at hq); go_simp; (first | done | with_reducible rfl | fail)))) | refine held_s (i := 4) hHeld ?_ | fail
        try simp only [Act.put, List.setIfInBounds_toArray, List.set_cons_zero, List.set_cons_succ]
        first | (refine held_t (i := 5) hHeld ?_; apply Exists.intro; refine ⟨fun wq hq => ?_, ?_⟩; (focus ((try dsimp only at hq); go_simp; (first | done | with_reducible rfl | fail)))) | refine held_s (i := 5) hHeld ?_ | fail
        try simp only [Act.put, List.setIfInBounds_toArray, List.set_cons_zero, List.set_cons_succ]
        refine wpAnyH_ready (rs := [0, 11]) (by kernel_rfl) (by simp) ?_
        refine AllReadyH.cons (by simp only [List.getElem?_toArray, List.getElem?_cons_zero, List.getElem?_cons_succ]; rfl) (fun K hK => ?_) (AllReadyH.cons (by simp only [List.getElem?_toArray, List.getElem?_cons_zero, List.getElem?_cons_succ]; rfl) (fun K hK => ?_) AllReadyH.nil)
        · go_simp
          (go_at_call 17; refine (plain_walk _).mono ?_; rintro e wA ⟨vA, rfl, oA, hbA⟩)
          refine hK.out _ _ (⟨cell_later hbA hHeld.1, Ext.trans' hHeld.2 hbA⟩) (fun hHeld => ?_)
          clear hK K
          try simp only [Act.put, List.setIfInBounds_toArray, List.set_cons_zero, List.set_cons_succ]
          refine wpAnyH_ready (rs := [6, 11]) (by kernel_rfl) (by simp) ?_
          refine AllReadyH.cons (by simp only [List.getElem?_toArray, List.getElem?_cons_zero, List.getElem?_cons_succ]; rfl) (fun K hK => ?_) (AllReadyH.cons (by simp only [List.getElem?_toArray, List.getElem?_cons_zero, List.getElem?_cons_succ]; rfl) (fun K hK => ?_) AllReadyH.nil)
          · go_simp
            (go_at_call 15; refine (oneP_okx HR2.out HSZ.out (HE.out.err.ext (Ext.trans' HBW.out hHeld.2)) oA).mono ?_; rintro e wB ⟨⟨k7, n7, s7, a7, m7, c7, vn, rfl, htv, hnm⟩, hbB⟩)
            refine hK.out _ _ (⟨cell_later hbB hHeld.1, Ext.trans' hHeld.2 hbB⟩) (fun hHeld => ?_)
            clear hK K
            try simp only [Act.put, List.setIfInBounds_toArray, List.set_cons_zero, List.set_cons_succ]
            first | (refine held_t (i := 7) hHeld ?_; apply Exists.intro; refine ⟨fun wq hq => ?_, ?_⟩; (focus ((try dsimp only at hq); go_simp; (first | done | with_reducible rfl | fail)))) | refine held_s (i := 7) hHeld ?_ | fail
            first | (refine held_t (i := 8) hHeld ?_; apply Exists.intro; refine ⟨fun wq hq => ?_, ?_⟩; (focus ((try dsimp only at hq); go_simp; (first | done | with_reducible rfl | fail)))) | refine held_s (i := 8) hHeld ?_ | fail
            try simp only [Act.put, List.setIfInBounds_toArray, List.set_cons_zero, List.set_cons_succ]
            first | (refine held_t (i := 9) hHeld ?_; apply Exists.intro; refine ⟨fun wq hq => ?_, ?_⟩; (focus ((try dsimp only at hq); go_simp; (first | done | with_reducible rfl | fail)))) | refine held_s (i := 9) hHeld ?_ | fail
            first | (refine held_t (i := 10) hHeld ?_; apply Exists.intro; refine ⟨fun wq hq => ?_, ?_⟩; (focus ((try dsimp only at hq); go_simp; (first | done | with_reducible rfl | fail)))) | refine held_s (i := 10) hHeld ?_ | fail
            try simp only [Act.put, List.setIfInBounds_toArray, List.set_cons_zero, List.set_cons_succ]
            have hS4 := hHeld
            refine held_c 11 fun K hK => ?_
            go_simp
            skip
            refine hK.out _ _ (⟨cell_later (bel1' _ _) hHeld.1, Ext.trans' hHeld.2 (bel1' _ _)⟩) (fun hHeld => ?_)
            clear hK K
            try simp only [Act.put, List.setIfInBounds_toArray, List.set_cons_zero, List.set_cons_succ]
            refine held_c 12 fun K hK => ?_
            go_simp
            skip
            refine hK.out _ _ (⟨cell_later (bel1' _ _) hS4.1, Ext.trans' hS4.2 (bel1' _ _)⟩) (fun hHeld => ?_)
            clear hK K
            try simp only [Act.put, List.setIfInBounds_toArray, List.set_cons_zero, List.set_cons_succ]
            first | (refine held_t (i := 13) hHeld ?_; apply Exists.intro; refine ⟨fun wq hq => ?_, ?_⟩; (focus ((try dsimp only at hq); go_simp; (first | done | with_reducible rfl | fail)))) | refine held_s (i := 13) hHeld ?_ | fail
            first | (refine held_t (i := 14) hHeld ?_; apply Exists.intro; refine ⟨fun wq hq => ?_, ?_⟩; (focus ((try dsimp only at hq); go_simp; (first | done | with_reducible rfl | fail)))) | refine held_s (i := 14) hHeld ?_ | fail
            try simp only [Act.put, List.setIfInBounds_toArray, List.set_cons_zero, List.set_cons_succ]
            refine wpAnyH_done (by kernel_rfl) ?_ _
            obtain ⟨w8, hw8, hb8, hz8, hx8⟩ := box_new wB #[.int .i64 k7, .int .i64 n7, .string s7, .slice a7 m7 c7] 27
            rw [hw8]
            have HRB := Lib.hid (show readBox wr t (.pointer (some ⟨wB.heap.size, 0, none⟩)) (.int .i64 0) w8 from ⟨_, _, _, _, _, _, _, rfl, rfl, hx8, TmV.ext hb8 _ _ htv, Ext.trans' hS4.2 hb8⟩)
            clear hHeld hS4 c0 hw8 hb8 hz8 hx8 htv hnm HBW HB HR2 HSZ oA hss hss2
            go_wp2
            all_goals go_meet
            exact HRB.out
          · have HLA := Lib.hid hHeld.2
            go_simp
            skip
            refine hK.out _ _ (⟨cell_later (bel1' _ _) hHeld.1, Ext.trans' hHeld.2 (bel1' _ _)⟩) (fun hHeld => ?_)
            clear hK K
            try simp only [Act.put, List.setIfInBounds_toArray, List.set_cons_zero, List.set_cons_succ]
            obtain ⟨w6, hw6, hb6, hz6, hx6⟩ := box_new wA #[.int .i64 0, .int .i64 0, .string ⟨#[]⟩, .slice none 0 0] 27
            rw [hw6] at hHeld ⊢
            have hwA := hb6.size
            have hleA : wr.heap.size ≤ wA.heap.size := (show Below wr.heap.size wr wA from HLA.out).size
            clear hw6
            refine held_c 6 fun K hK => ?_
            go_simp
            (go_at_call 15; refine (oneP_hide (D0 := fun k => k == wA.heap.size) HR2.out HSZ.out (HE.out.err.ext (Ext.trans' HBW.out hHeld.2)) (fun k hk => beq_false_of_ne (by omega)) (Elems.stay oA (hide_one (Nat.le_refl _) hb6))).mono ?_; rintro e wB ⟨⟨k7, n7, s7, a7, m7, c7, vn, rfl, htv, hnm⟩, hbB⟩)
            refine hK.out _ _ (⟨cell_later hbB hHeld.1, Ext.trans' hHeld.2 hbB⟩) (fun hHeld => ?_)
            clear hK K
            try simp only [Act.put, List.setIfInBounds_toArray, List.set_cons_zero, List.set_cons_succ]
            first | (refine held_t (i := 7) hHeld ?_; apply Exists.intro; refine ⟨fun wq hq => ?_, ?_⟩; (focus ((try dsimp only at hq); go_simp; (first | done | with_reducible rfl | fail)))) | refine held_s (i := 7) hHeld ?_ | fail
            first | (refine held_t (i := 8) hHeld ?_; apply Exists.intro; refine ⟨fun wq hq => ?_, ?_⟩; (focus ((try dsimp only at hq); go_simp; (first | done | with_reducible rfl | fail)))) | refine held_s (i := 8) hHeld ?_ | fail
            try simp only [Act.put, List.setIfInBounds_toArray, List.set_cons_zero, List.set_cons_succ]
            first | (refine held_t (i := 9) hHeld ?_; apply Exists.intro; refine ⟨fun wq hq => ?_, ?_⟩; (focus ((try dsimp only at hq); go_simp; (first | done | with_reducible rfl | fail)))) | refine held_s (i := 9) hHeld ?_ | fail
            first | (refine held_t (i := 10) hHeld ?_; apply Exists.intro; refine ⟨fun wq hq => ?_, ?_⟩; (focus ((try dsimp only at hq); go_simp; (first | done | with_reducible rfl | fail)))) | refine held_s (i := 10) hHeld ?_ | fail
            try simp only [Act.put, List.setIfInBounds_toArray, List.set_cons_zero, List.set_cons_succ]
            have hX7 := hx6.ext hbB
            obtain ⟨q0, q1, q2, q3, qf⟩ := hX7.four
            have hle : wr.heap.size ≤ wA.heap.size := hleA
            refine held_c 12 fun K hK => ?_
            go_simp
            skip
            refine hK.out _ _ (⟨cell_later (Below.set4 hHeld.2 hle _ _ _ _) c0, Below.set4 hHeld.2 hle _ _ _ _⟩) (fun hHeld => ?_)
            clear hK K
            try simp only [Act.put, List.setIfInBounds_toArray, List.set_cons_zero, List.set_cons_succ]
            first | (refine held_t (i := 13) hHeld ?_; apply Exists.intro; refine ⟨fun wq hq => ?_, ?_⟩; (focus ((try dsimp only at hq); go_simp; (first | done | with_reducible rfl | fail)))) | refine held_s (i := 13) hHeld ?_ | fail
            first | (refine held_t (i := 14) hHeld ?_; apply Exists.intro; refine ⟨fun wq hq => ?_, ?_⟩; (focus ((try dsimp only at hq); go_simp; (first | done | with_reducible rfl | fail)))) | refine held_s (i := 14) hHeld ?_ | fail
            try simp only [Act.put, List.setIfInBounds_toArray, List.set_cons_zero, List.set_cons_succ]
            refine wpAnyH_done (by kernel_rfl) ?_ _
            have HRB := Lib.hid (show readBox wr t (.pointer (some ⟨wA.heap.size, 0, none⟩)) (.int .i64 0) (set4 wB wA.heap.size (.int .i64 k7) (.int .i64 n7) (.string s7) (.slice a7 m7 c7)) from ⟨_, _, _, _, _, _, _, rfl, rfl, hX7.all4 _ _ _ _, (TmV.put4 htv (by simp) _ _ _ _).bare, hHeld.2⟩)
            clear hHeld c0 htv hnm HBW HB HR2 HSZ oA hss hss2 q0 q1 q2 q3 qf hX7
            go_wp2
            all_goals go_meet
            exact HRB.out
        · go_simp
          skip
          refine hK.out _ _ (⟨cell_later (bel1' _ _) hHeld.1, Ext.trans' hHeld.2 (bel1' _ _)⟩) (fun hHeld => ?_)
          clear hK K
          try simp only [Act.put, List.setIfInBounds_toArray, List.set_cons_zero, List.set_cons_succ]
          obtain ⟨w6, hw6, hb6, hz6, hx6⟩ := box_new wr #[.int .i64 0, .int .i64 0, .string ⟨#[]⟩, .slice none 0 0] 27
          have HOP := Lib.hid (fun (wA : World) (vA : Value) (hb : Below w6.heap.size w6 wA) (ho : Ops wA vA opsB) => ops_hide (ty := 27) (w := wr) (wA := wA) (by rw [hw6]; exact hb) ho)
          rw [hw6] at hHeld ⊢
          clear hw6
          refine held_c 0 fun K hK => ?_
          go_simp
          (go_at_call 17; refine (plain_walk _).mono ?_; rintro e wA ⟨vA, rfl, oA, hbA⟩; have hbA6 := Ext.trans' (Below.refl w6.heap.size w6).drew hbA; have hszA := hbA6.size; have oH := HOP.out _ _ hbA6 oA)
          refine hK.out _ _ (⟨cell_later hbA hHeld.1, Ext.trans' hHeld.2 hbA⟩) (fun hHeld => ?_)
          clear hK K
          try simp only [Act.put, List.setIfInBounds_toArray, List.set_cons_zero, List.set_cons_succ]
          refine held_c 6 fun K hK => ?_
          go_simp
          (go_at_call 15; refine (oneP_hide (D0 := fun k => k == wr.heap.size) HR2.out HSZ.out (HE.out.err.ext (Ext.trans' HBW.out hHeld.2)) (fun k hk => beq_false_of_ne (by omega)) oH).mono ?_; rintro e wB ⟨⟨k7, n7, s7, a7, m7, c7, vn, rfl, htv, hnm⟩, hbB⟩)
          refine hK.out _ _ (⟨cell_later hbB hHeld.1, Ext.trans' hHeld.2 hbB⟩) (fun hHeld => ?_)
          clear hK K
          try simp only [Act.put, List.setIfInBounds_toArray, List.set_cons_zero, List.set_cons_succ]
          first | (refine held_t (i := 7) hHeld ?_; apply Exists.intro; refine ⟨fun wq hq => ?_, ?_⟩; (focus ((try dsimp only at hq); go_simp; (first | done | with_reducible rfl | fail)))) | refine held_s (i := 7) hHeld ?_ | fail
          first | (refine held_t (i := 8) hHeld ?_; apply Exists.intro; refine ⟨fun wq hq => ?_, ?_⟩; (focus ((try dsimp only at hq); go_simp; (first | done | with_reducible rfl | fail)))) | refine held_s (i := 8) hHeld ?_ | fail
          try simp only [Act.put, List.setIfInBounds_toArray, List.set_cons_zero, List.set_cons_succ]
          first | (refine held_t (i := 9) hHeld ?_; apply Exists.intro; refine ⟨fun wq hq => ?_, ?_⟩; (focus ((try dsimp only at hq); go_simp; (first | done | with_reducible rfl | fail)))) | refine held_s (i := 9) hHeld ?_ | fail
          first | (refine held_t (i := 10) hHeld ?_; apply Exists.intro; refine ⟨fun wq hq => ?_, ?_⟩; (focus ((try dsimp only at hq); go_simp; (first | done | with_reducible rfl | fail)))) | refine held_s (i := 10) hHeld ?_ | fail
          try simp only [Act.put, List.setIfInBounds_toArray, List.set_cons_zero, List.set_cons_succ]
          have hX7 := (hx6.ext hbA6).ext hbB
          obtain ⟨q0, q1, q2, q3, qf⟩ := hX7.four
          have hle : wr.heap.size ≤ wr.heap.size := Nat.le_refl _
          refine held_c 12 fun K hK => ?_
          go_simp
          skip
          refine hK.out _ _ (⟨cell_later (Below.set4 hHeld.2 hle _ _ _ _) c0, Below.set4 hHeld.2 hle _ _ _ _⟩) (fun hHeld => ?_)
          clear hK K
          try simp only [Act.put, List.setIfInBounds_toArray, List.set_cons_zero, List.set_cons_succ]
          first | (refine held_t (i := 13) hHeld ?_; apply Exists.intro; refine ⟨fun wq hq => ?_, ?_⟩; (focus ((try dsimp only at hq); go_simp; (first | done | with_reducible rfl | fail)))) | refine held_s (i := 13) hHeld ?_ | fail
          first | (refine held_t (i := 14) hHeld ?_; apply Exists.intro; refine ⟨fun wq hq => ?_, ?_⟩; (focus ((try dsimp only at hq); go_simp; (first | done | with_reducible rfl | fail)))) | refine held_s (i := 14) hHeld ?_ | fail
          try simp only [Act.put, List.setIfInBounds_toArray, List.set_cons_zero, List.set_cons_succ]
          refine wpAnyH_done (by kernel_rfl) ?_ _
          have HRB := Lib.hid (show readBox wr t (.pointer (some ⟨wr.heap.size, 0, none⟩)) (.int .i64 0) (set4 wB wr.heap.size (.int .i64 k7) (.int .i64 n7) (.string s7) (.slice a7 m7 c7)) from ⟨_, _, _, _, _, _, _, rfl, rfl, hX7.all4 _ _ _ _, (TmV.put4 htv (by simp) _ _ _ _).bare, hHeld.2⟩)
          clear hHeld c0 htv hnm HBW HB HR2 HSZ oA hss hss2 q0 q1 q2 q3 qf hX7
          go_wp2
          all_goals go_meet
          exact HRB.out
      case rest =>
        obtain ⟨bq, k7, n7, s7, a7, m7, c7, rfl, rfl, hbx, hv, hbw⟩ := hcut
        have HBC := Lib.hid (Ext.trans' HB.out hbw)
        have HVC := Lib.hid hv
        obtain ⟨d0, d1, d2, d3, df⟩ := hbx.four
        clear hbx hv hbw
        go_upto_region 9 with fail
        refine wp_region_held_drew (S := fun w' => (w'.cell? ⟨bq, 0, none⟩ = some (.int .i64 k7) ∧ w'.cell? ⟨bq, 1, none⟩ = some (.int .i64 n7) ∧ w'.cell? ⟨bq, 2, none⟩ = some (.string s7) ∧ w'.cell? ⟨bq, 3, none⟩ = some (.slice a7 m7 c7)) ∧ Below wc.heap.size wc w') (by kernel_rfl) ⟨⟨d0, d1, d2, d3⟩, (Below.refl _ _).drew⟩ (fun hHeld => ?_)
        first | (refine held_t (i := 1) hHeld ?_; apply Exists.intro; refine ⟨fun wq hq => ?_, ?_⟩; (focus ((try dsimp only at hq); go_simp; (first | done | with_reducible rfl | fail)))) | refine held_s (i := 1) hHeld ?_ | fail
        try simp only [Act.put, List.setIfInBounds_toArray, List.set_cons_zero, List.set_cons_succ]
        refine held_c 0 fun K hK => ?_
        go_simp
        (go_at_call 17; refine (plain_walk _).mono ?_; rintro e wC ⟨vC, rfl, oC, hbC⟩)
        refine hK.out _ _ (⟨⟨cell_later hbC hHeld.1.1, cell_later hbC hHeld.1.2.1, cell_later hbC hHeld.1.2.2.1, cell_later hbC hHeld.1.2.2.2⟩, Ext.trans' hHeld.2 hbC⟩) (fun hHeld => ?_)
        clear hK K
        try simp only [Act.put, List.setIfInBounds_toArray, List.set_cons_zero, List.set_cons_succ]
        refine held_c 2 fun K hK => ?_
        go_simp
        (go_at_call 25; refine (wterm_at (HE.out.ext (Ext.trans' HB3.out (Ext.trans' HBC.out hHeld.2))) oC (TmV.ext hHeld.2 _ _ HVC.out)).mono ?_; rw [HTT.out]; rintro e wD ⟨rfl, hbD⟩)
        refine hK.out _ _ (⟨⟨cell_later hbD hHeld.1.1, cell_later hbD hHeld.1.2.1, cell_later hbD hHeld.1.2.2.1, cell_later hbD hHeld.1.2.2.2⟩, Ext.trans' hHeld.2 hbD⟩) (fun hHeld => ?_)
        clear hK K
        try simp only [Act.put, List.setIfInBounds_toArray, List.set_cons_zero, List.set_cons_succ]
        first | (refine held_t (i := 3) hHeld ?_; apply Exists.intro; refine ⟨fun wq hq => ?_, ?_⟩; (focus ((try dsimp only at hq); go_simp; (first | done | with_reducible rfl | fail)))) | refine held_s (i := 3) hHeld ?_ | fail
        first | (refine held_t (i := 4) hHeld ?_; apply Exists.intro; refine ⟨fun wq hq => ?_, ?_⟩; (focus ((try dsimp only at hq); go_simp; (first | done | with_reducible rfl | fail)))) | refine held_s (i := 4) hHeld ?_ | fail
        try simp only [Act.put, List.setIfInBounds_toArray, List.set_cons_zero, List.set_cons_succ]
        first | (refine held_t (i := 5) hHeld ?_; apply Exists.intro; refine ⟨fun wq hq => ?_, ?_⟩; (focus ((try dsimp only at hq); go_simp; (first | done | with_reducible rfl | fail)))) | refine held_s (i := 5) hHeld ?_ | fail
        first | (refine held_t (i := 6) hHeld ?_; apply Exists.intro; refine ⟨fun wq hq => ?_, ?_⟩; (focus ((try dsimp only at hq); go_simp; (first | done | with_reducible rfl | fail)))) | refine held_s (i := 6) hHeld ?_ | fail
        try simp only [Act.put, List.setIfInBounds_toArray, List.set_cons_zero, List.set_cons_succ]
        first | (refine held_t (i := 7) hHeld ?_; apply Exists.intro; refine ⟨fun wq hq => ?_, ?_⟩; (focus ((try dsimp only at hq); go_simp; (first | done | with_reducible rfl | fail)))) | refine held_s (i := 7) hHeld ?_ | fail
        try simp only [Act.put, List.setIfInBounds_toArray, List.set_cons_zero, List.set_cons_succ]
        refine wpAnyH_done (by kernel_rfl) ?_ _
        have HB9 := Lib.hid (Ext.trans' HBC.out hHeld.2)
        have c1 : wD.cell? ⟨bo, k, none⟩ = some (.string y) := cell_later HB9.out HD1.out
        clear hHeld d0 d1 d2 d3 df oC HVC HBC HTT HD1 HBW HB HR2 HSZ hss hss2 c0
        go_wp2
        go_roundw
        case rel => exact ⟨k + 1, by omega, by go_num, HB9⟩
        case measure => simp [intOf]; omega
    · obtain rfl : k = 20 := by omega
      have HB5 := Lib.hid (Ext.trans' HB3.out HB.out)
      have HE5 := Lib.hid (HE.out.ext HB5.out)
      clear HB HXI HXO hlt hk HB3
      (go_wp2_with fail; go_fit (plain_walk wr); rintro e wa ⟨va, rfl, oa, hba⟩)
      have hTa := wterm_at (HE5.out.ext hba) oa (leaf_tm wa (k := 7) (n := 0) (s := ⟨#[]⟩) i64_7 i64_0 (by decide))
      rw [show termTx opsB (Tm.mk 7 0 ⟨#[]⟩ []) = _ from wk_a] at hTa
      have HTa := Lib.hid hTa
      have HBa := Lib.hid (Ext.trans' HB5.out hba)
      clear hba oa hTa
      (go_wp2_with fail; go_fit (HTa.out); rintro e wb ⟨rfl, hbb⟩)
      obtain ⟨w6, hw6, hb6, hz6, hx6⟩ := box_new wb #[.string ⟨#[]⟩, .string ⟨#[]⟩, .int .i64 0] 33
      have HOW := World.ownsRow_lit (e := 33) (size := 3) (base := wb.heap.size) wb #[.string ⟨#[]⟩, .string ⟨#[]⟩, .int .i64 0] 1 (Nat.le_refl _) (by unfold maxLen; omega) rfl
      rw [hw6] at HOW
      have HOP := Lib.hid (show Ops w6 (.slice (some ⟨wb.heap.size, 0, none⟩) 1 1) [zOpW] from Elems.owned oCells_len HOW)
      have HB6 := Lib.hid (Ext.trans' HBa.out (Ext.trans' hbb hb6))
      have HW6 := Lib.hid hw6
      clear HOW hb6 hz6 hx6 hbb HBa hw6 HTa
      (go_wp2_with fail; go_fit (int_at _ 1); rintro e wc ⟨rfl, hbc⟩)
      rw [HW6.out] at hbc
      have hTb := wterm_at (HE.out.ext (Ext.trans' HB6.out hbc)) (HOP.out.ext hbc) (leaf_tm wc (k := 1) (n := 1) (s := ⟨#[]⟩) i64_1 i64_1 (by decide))
      rw [show termTx [zOpW] (Tm.mk 1 1 ⟨#[]⟩ []) = _ from wk_b] at hTb
      have HTb := Lib.hid hTb
      have HBc := Lib.hid (Ext.trans' HB6.out hbc)
      clear hbc hTb HOP HW6
      (go_wp2_with fail; go_fit (HTb.out); rintro e wd ⟨rfl, hbd⟩)
      have hTc := wplain_at (HE.out.ext (Ext.trans' HBc.out hbd)) (leaf_tm wd (k := 7) (n := 0) (s := ⟨#[]⟩) i64_7 i64_0 (by decide))
      rw [show textX (goodT (Tm.mk 7 0 ⟨#[]⟩ [])) (PLAIN (varsT (Tm.mk 7 0 ⟨#[]⟩ []) []) (Tm.mk 7 0 ⟨#[]⟩ [])) = _ from wk_c] at hTc
      have HTc := Lib.hid hTc
      have HBd := Lib.hid (Ext.trans' HBc.out hbd)
      clear hbd hTc HTb
      (go_wp2_with fail; go_fit (HTc.out); rintro e we ⟨rfl, hbe⟩)
      (go_wp2_with fail; go_fit (atom_at we sQ); rintro e wf ⟨rfl, hbf⟩)
      obtain ⟨wg, hwg, hbg, hzg, hxg⟩ := box_new wf #[.int .i64 2, .int .i64 0, .string sQ, .slice none 0 0] 27
      obtain ⟨bq, hbq⟩ : ∃ bq, wf.heap.size = bq := ⟨_, rfl⟩
      have HBg := Lib.hid (Ext.trans' HBd.out (Ext.trans' hbe (Ext.trans' hbf hbg)))
      have HXg := Lib.hid (hbq ▸ hxg)
      have HWg := Lib.hid hwg
      have hlg : bq < wg.heap.size := by omega
      have hwq : w.heap.size ≤ bq := by have h1 := HBd.out.size; have h2 := hbe.size; have h3 := hbf.size; omega
      have HOLD := Lib.hid (show ∀ wq : World, bq < wq.heap.size → Old (fun k => k == bq) wq from fun wq hq k hk => beq_false_of_ne (by omega))
      have HCq := Lib.hid (show Calls Tryz.prog 19 #[.string ⟨#[103]⟩, .slice (some ⟨wg.heap.size, 0, none⟩) 8 8] (wg.alloc (.cells #[.int .i64 2, .int .i64 0, .string sQ, .slice none 0 0, .int .i64 2, .int .i64 0, .string sQ, .slice none 0 0, .int .i64 2, .int .i64 0, .string sQ, .slice none 0 0, .int .i64 2, .int .i64 0, .string sQ, .slice none 0 0, .int .i64 2, .int .i64 0, .string sQ, .slice none 0 0, .int .i64 2, .int .i64 0, .string sQ, .slice none 0 0, .int .i64 2, .int .i64 0, .string sQ, .slice none 0 0, .int .i64 2, .int .i64 0, .string sQ, .slice none 0 0] 27)) (fun e w' => ∃ a c, e = .returned (.agg #[.int .i64 2, .int .i64 0, .string ⟨#[103]⟩, .slice a 8 c]) ∧ TmV (hide (fun k => k == bq) w') gQ (.agg #[.int .i64 2, .int .i64 0, .string ⟨#[103]⟩, .slice a 8 c]) ∧ Below (wg.alloc _).heap.size (wg.alloc _) w') from
        comp_hide ⟨#[103]⟩ (by decide) (HOLD.out _ (by simp; omega)) (laid_eight_h (beq_false_of_ne (by omega)) (leaf_tm (hide (fun k => k == bq) wg) i64_2 i64_0 (by decide))))
      clear hbe hbf hbg hzg hxg hwg HTc HBd HB6 HBc HB5
      obtain ⟨c0, c1, c2, c3, cf⟩ := HXg.out.four
      go_upto_region 16 with fail
      (try rw [HWg.out])
      (try rw [hbq])
      clear hbq
      (go_wp2_with fail; go_fit (HCq.out); rintro e wh ⟨a8, c8, rfl, htv, hbh⟩)
      have HXh := Lib.hid ((HXg.out.ext (bel1' _ _)).ext hbh)
      have HBh := Lib.hid (Ext.trans' HBg.out (Ext.trans' (bel1' _ _) hbh))
      obtain ⟨wi, hwi⟩ : ∃ q, set4 wh bq (.int .i64 2) (.int .i64 0) (.string ⟨#[103]⟩) (.slice a8 8 c8) = q := ⟨_, rfl⟩
      have HXi := Lib.hid (show Box wi bq [.int .i64 2, .int .i64 0, .string ⟨#[103]⟩, .slice a8 8 c8] from hwi ▸ HXh.out.all4 _ _ _ _)
      have HVi := Lib.hid (show TmV (hide (fun k => k == bq) wi) gQ (.agg #[.int .i64 2, .int .i64 0, .string ⟨#[103]⟩, .slice a8 8 c8]) from hwi ▸ TmV.put4 htv (by simp) _ _ _ _)
      have HBi := Lib.hid (show Below w.heap.size w wi from hwi ▸ Below.set4 HBh.out hwq _ _ _ _)
      have hwi' := hwi
      unfold set4 set3 at hwi'
      have HWi := Lib.hid hwi'
      have hli : bq < wi.heap.size := HXi.out.lt
      have HCh := Lib.hid (show Calls Tryz.prog 19 #[.string ⟨#[103]⟩, .slice (some ⟨wi.heap.size, 0, none⟩) 8 8] (wi.alloc (.cells #[.int .i64 2, .int .i64 0, .string ⟨#[103]⟩, .slice a8 8 c8, .int .i64 2, .int .i64 0, .string ⟨#[103]⟩, .slice a8 8 c8, .int .i64 2, .int .i64 0, .string ⟨#[103]⟩, .slice a8 8 c8, .int .i64 2, .int .i64 0, .string ⟨#[103]⟩, .slice a8 8 c8, .int .i64 2, .int .i64 0, .string ⟨#[103]⟩, .slice a8 8 c8, .int .i64 2, .int .i64 0, .string ⟨#[103]⟩, .slice a8 8 c8, .int .i64 2, .int .i64 0, .string ⟨#[103]⟩, .slice a8 8 c8, .int .i64 2, .int .i64 0, .string ⟨#[103]⟩, .slice a8 8 c8] 27)) (fun e w' => ∃ a c, e = .returned (.agg #[.int .i64 2, .int .i64 0, .string ⟨#[103]⟩, .slice a 8 c]) ∧ TmV (hide (fun k => k == bq) w') hQ (.agg #[.int .i64 2, .int .i64 0, .string ⟨#[103]⟩, .slice a 8 c]) ∧ Below (wi.alloc _).heap.size (wi.alloc _) w') from
        comp_hide ⟨#[103]⟩ (by decide) (HOLD.out _ (by simp; omega)) (laid_eight_h (beq_false_of_ne (by omega)) HVi.out))
      clear c0 c1 c2 c3 cf
      obtain ⟨c0, c1, c2, c3, cf⟩ := HXh.out.four
      clear htv hbh hwi hwi' HBg HXg HWg HCq
      go_upto_region 17 with fail
      rw [HWi.out]
      clear c0 c1 c2 c3 cf
      obtain ⟨c0, c1, c2, c3, cf⟩ := HXi.out.four
      (go_wp2_with fail; go_fit (HCh.out); rintro e wj ⟨a9, c9, rfl, htv, hbj⟩)
      have HBj := Lib.hid (Ext.trans' HBi.out (Ext.trans' (bel1' _ _) hbj))
      have hTd := wplain_at (HE.out.ext HBj.out) htv.bare
      rw [show textX (goodT hQ) (PLAIN (varsT hQ []) hQ) = _ from wk_d] at hTd
      have HTd := Lib.hid hTd
      clear htv hbj hTd HCh HXi HVi HWi HXh HBh c0 c1 c2 c3 cf
      (go_wp2_with fail; go_fit (HTd.out); rintro e wk ⟨rfl, hbk⟩)
      have HBk := Lib.hid (Ext.trans' HBj.out hbk)
      clear hbk HTd HBj HBi
      (go_wp2_with fail; go_fit (atom_at wk ⟨#[97, 32, 98]⟩); rintro e wl ⟨rfl, hbl⟩)
      (go_wp2_with fail; go_fit (var_at wl 3); rintro e wm ⟨rfl, hbm⟩)
      have HBm := Lib.hid (Ext.trans' HBk.out (Ext.trans' hbl hbm))
      have HT1 := Lib.hid (laid_one (ty := 27) (leaf_tm wm (k := 0) (n := 3) (s := ⟨#[]⟩) i64_0 (by unfold I64; omega) (by decide)))
      clear hbl hbm HBk
      (go_wp2_with fail; go_fit (var_at _ 9); rintro e wn ⟨rfl, hbn⟩)
      have HT2 := Lib.hid (HT1.out.ext hbn)
      have HBn := Lib.hid (Ext.trans' HBm.out (Ext.trans' (bel1' _ _) hbn))
      clear hbn HT1 HBm
      (go_wp2_with fail; go_fit (list_in (D := fun _ => false) (fun _ _ => rfl) (by rw [hide_none]; exact HT2.out) (by rw [hide_none]; exact leaf_tm wn (k := 0) (n := 9) (s := ⟨#[]⟩) i64_0 (by unfold I64; omega) (by decide))); rintro e wo ⟨r, rfl, hr, hbo⟩)
      rw [hide_none] at hr
      obtain ⟨kr, nr, sr, ar, mr, cr, rfl⟩ := hr.full
      have HBo := Lib.hid (Ext.trans' HBn.out hbo)
      have HT3 := Lib.hid (laid_two (ty := 27) (leaf_tm wo (k := 2) (n := 0) (s := ⟨#[97, 32, 98]⟩) i64_2 i64_0 (by decide)) hr)
      have HC3 := Lib.hid (comp_at ⟨#[43]⟩ (by decide) HT3.out)
      clear hr hbo HT2 HBn
      (go_wp2_with fail; go_fit (HC3.out); rintro e wp ⟨a7, c7, rfl, htv, hbp⟩)
      have HBp := Lib.hid (Ext.trans' HBo.out (Ext.trans' (bel1' _ _) hbp))
      have hTe := wplain_at (HE.out.ext HBp.out) htv
      rw [show textX (goodT (Tm.mk 2 0 ⟨#[43]⟩ [.mk 2 0 ⟨#[97, 32, 98]⟩ [], listT [.mk 0 3 ⟨#[]⟩ []] (.mk 0 9 ⟨#[]⟩ [])])) (PLAIN (varsT (Tm.mk 2 0 ⟨#[43]⟩ [.mk 2 0 ⟨#[97, 32, 98]⟩ [], listT [.mk 0 3 ⟨#[]⟩ []] (.mk 0 9 ⟨#[]⟩ [])]) []) (Tm.mk 2 0 ⟨#[43]⟩ [.mk 2 0 ⟨#[97, 32, 98]⟩ [], listT [.mk 0 3 ⟨#[]⟩ []] (.mk 0 9 ⟨#[]⟩ [])])) = _ from wk_e] at hTe
      have HTe := Lib.hid hTe
      clear htv hbp hTe HC3 HT3 HBo
      (go_wp2_with fail; go_fit (HTe.out); rintro e wq ⟨rfl, hbq2⟩)
      have HBq := Lib.hid (Ext.trans' HBp.out hbq2)
      clear hbq2 HTe HBp
      go_wp2
      go_ret
      exact ⟨rfl, HBq.out⟩
end Go.Proofs.YtljgkfdnmikpfaaGreatDoor
/- What the cards of this seat share: the package variables of the standard library. -/
namespace Go.Proofs.YtljgkfdnmikpfaaGreatDoor
open Go.Shelf Go.RowKit
set_option linter.unusedVariables false

theorem con_of {l : List (String × DataW Unit)} {w : World} (hl : (l.all fun x => x.2.handleName?.isNone) = true) (hf : l.filter (fun x => x.1 == "internal/strconv.uint64pow10") = [("internal/strconv.uint64pow10", Lib.tabData .u64 Lib.pow10Tab)]) (h : laidMetH Tryz.prog l w) (he : Err w) : Con w := by
  rw [MakeChecks.laidMetH_plain _ _ _ hl] at h
  have h1 := h.filter (fun x => x.1 == "internal/strconv.uint64pow10")
  rw [hf] at h1
  exact ⟨Lib.tabIs_of_head gPow (by kernel_rfl) (t := 227) (e := 207) (n := 20) Tryz.underlying227 Tryz.underlying207 (by kernel_rfl) (by kernel_rfl) h1, he⟩
end Go.Proofs.YtljgkfdnmikpfaaGreatDoor
