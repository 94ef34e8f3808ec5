import Derived.Test.YtbbbgijlbcmpbaaHqian
import Derived.Test.YtbbbgijlbcmpbaaHqiab
import Derived.Test.YtbbbgijlbcmpbaaRows
set_option linter.unusedVariables false
set_option linter.unusedSimpArgs false
/- Package unify: Could, walked. -/
namespace Go.Proofs.Ytbbbgijlbcmpbaa
open Go.RowKit Go.Maps
set_option linter.unusedVariables false

set_option maxHeartbeats 8000000 in
set_option maxRecDepth 100000 in
theorem Could_at (x y : Tm) (w : World) (vx vy : Value) (hvx : TmV w x vx) (hvy : TmV w y vy) : Calls Try.prog 44 #[vx, vy] w fun e w' => e = .returned (.bool (couldB x y)) ∧ Below w.heap.size w w' := by
  have hmm := @run_makeMap Try.prog
  obtain ⟨k, n, s, a, m, c, rfl⟩ := hvx.full
  obtain ⟨k', n', s', a', m', c', rfl⟩ := hvy.full
  obtain ⟨w1, e1, B1, z1, X1⟩ := box_new w #[.int .i64 k, .int .i64 n, .string s, .slice a m c] 31
  obtain ⟨w2, e2, B2, z2, X2⟩ := box_new w1 #[.int .i64 k', .int .i64 n', .string s', .slice a' m' c'] 31
  have X1 := X1.ext B2
  have B12 := Ext.trans' B1 B2
  rw [z1] at X2 z2
  obtain ⟨x0, x1, x2, x3, _⟩ := X1.four
  obtain ⟨y0, y1, y2, y3, _⟩ := X2.four
  have HE := Lib.hid (And.intro e1 e2)
  have HB2 := Lib.hid (And.intro B12 (And.intro X1 (And.intro X2 z2)))
  have HV := Lib.hid (And.intro hvx hvy)
  have C := Good_at x w2 _ (TmV.ext B12 _ _ hvx)
  have HGY := Lib.hid (fun (wq : World) (hb : Below w.heap.size w wq) => Good_at y wq _ (TmV.ext hb _ _ hvy))
  clear B1 B2 z1 e1 e2 B12 X1 X2 hvx hvy z2
  cases hgx : goodT x
  · have hr : couldB x y = false := by unfold couldB; rw [hgx]; rfl
    rw [hr]
    rw [hgx] at C
    clear hr hgx hmm
    go_enter Try.func44, Try.ntmps44
    go_upto_region 1 with fail
    (try rw [HE.out.1, HE.out.2])
    (go_wp2_with fail; go_fit (C); rintro e w3 ⟨rfl, b3⟩)
    have HB3 := Lib.hid (Ext.trans' HB2.out.1 b3)
    clear b3 C
    go_wp2
    go_ret
    exact ⟨rfl, HB3.out⟩
  · rw [hgx] at C
    cases hgy : goodT y
    · have hr : couldB x y = false := by unfold couldB; rw [hgx, hgy]; rfl
      rw [hr]
      rw [hgy] at HGY
      clear hr hgx hgy hmm
      go_enter Try.func44, Try.ntmps44
      go_upto_region 1 with fail
      (try rw [HE.out.1, HE.out.2])
      (go_wp2_with fail; go_fit (C); rintro e w3 ⟨rfl, b3⟩)
      have HB3 := Lib.hid (Ext.trans' HB2.out.1 b3)
      obtain ⟨y0, y1, y2, y3, _⟩ := (HB2.out.2.2.1.ext b3).four
      clear b3 C
      have C := HGY.out w3 HB3.out
      (go_wp2_with fail; go_fit (C); rintro e w4 ⟨rfl, b4⟩)
      have HB4 := Lib.hid (Ext.trans' HB3.out b4)
      clear b4 C
      go_wp2
      go_ret
      exact ⟨rfl, HB4.out⟩
    · rw [hgy] at HGY
      obtain ⟨Lx, hlx⟩ : ∃ L, numV x = L := ⟨_, rfl⟩
      obtain ⟨Ly, hly⟩ : ∃ L, numV y = L := ⟨_, rfl⟩
      have hLx := numV_le x
      have hLy := numV_le y
      rw [hlx] at hLx
      rw [hly] at hLy
      have hr : couldB x y = (bothB (Lx + Ly) [] (renT 0 x) (renT Lx y)).ok := by unfold couldB; rw [hgx, hgy, hlx, hly]; rfl
      rw [hr]
      have hvx2 : (varsT x []).length = Lx := by rw [← hlx]; unfold numV; rw [hgx, if_pos rfl]
      have hvy2 : (varsT y []).length = Ly := by rw [← hly]; unfold numV; rw [hgy, if_pos rfl]
      have HL := Lib.hid (And.intro hvx2 (And.intro hvy2 (And.intro (good_parts hgx).2.2 (good_parts hgy).2.2)))
      obtain ⟨BR, hbr⟩ : ∃ B, bothB (Lx + Ly) [] (renT 0 x) (renT Lx y) = B := ⟨_, rfl⟩
      have HBR := Lib.hid hbr
      rw [hbr]
      clear hr hgx hgy hlx hly hvx2 hvy2 hbr
      go_enter Try.func44, Try.ntmps44
      go_upto_region 1 with fail
      (try rw [HE.out.1, HE.out.2])
      (go_wp2_with fail; go_fit (C); rintro e w3 ⟨rfl, b3⟩)
      have HB3 := Lib.hid (Ext.trans' HB2.out.1 b3)
      have HX3 := Lib.hid (And.intro (HB2.out.2.1.ext b3) (HB2.out.2.2.1.ext b3))
      clear b3 C x0 x1 x2 x3 y0 y1 y2 y3
      obtain ⟨y0, y1, y2, y3, _⟩ := HX3.out.2.four
      have C := HGY.out w3 HB3.out
      (go_wp2_with fail; go_fit (C); rintro e w4 ⟨rfl, b4⟩)
      have HB4 := Lib.hid (Ext.trans' HB3.out b4)
      have HX4 := Lib.hid (And.intro (HX3.out.1.ext b4) (HX3.out.2.ext b4))
      clear b4 C y0 y1 y2 y3
      have C := New_at (V := w) ((Stays.refl w).later HB4.out)
      (go_wp2_with fail; go_fit (C); rintro e w5 ⟨p, F, rfl, i5, b5, f5⟩)
      have hz4 : w.heap.size + 2 ≤ w4.heap.size := HX4.out.2.lt
      have H5 := Lib.hid (show CB w p 0 [.int .i64 k, .int .i64 n, .string s, .slice a m c] [.int .i64 k', .int .i64 n', .string s', .slice a' m' c'] [] F w5 from ⟨i5, fun k hk => by have := f5 k hk; omega, Ext.trans' HB4.out b5, HX4.out.1.ext b5, HX4.out.2.ext b5, fun q hq => by cases hq⟩)
      have hz5 : w.heap.size + 2 ≤ w5.heap.size := Nat.le_trans hz4 b5.size
      clear i5 b5 f5 C hz4
      have HCC := Lib.hid (fun (wq : World) (hx : Box wq w.heap.size [.int .i64 k, .int .i64 n, .string s, .slice a m c]) (hy : Box wq (w.heap.size + 1) [.int .i64 k', .int .i64 n', .string s', .slice a' m' c']) => (show (wq.cell? ⟨w.heap.size, 0, none⟩ = some (.int .i64 k) ∧ wq.cell? ⟨w.heap.size, 1, none⟩ = some (.int .i64 n) ∧ wq.cell? ⟨w.heap.size, 2, none⟩ = some (.string s) ∧ wq.cell? ⟨w.heap.size, 3, none⟩ = some (.slice a m c)) ∧ (wq.cell? ⟨w.heap.size + 1, 0, none⟩ = some (.int .i64 k') ∧ wq.cell? ⟨w.heap.size + 1, 1, none⟩ = some (.int .i64 n') ∧ wq.cell? ⟨w.heap.size + 1, 2, none⟩ = some (.string s') ∧ wq.cell? ⟨w.heap.size + 1, 3, none⟩ = some (.slice a' m' c')) from by
        obtain ⟨p0, p1, p2, p3, _⟩ := hx.four
        obtain ⟨q0, q1, q2, q3, _⟩ := hy.four
        exact ⟨⟨p0, p1, p2, p3⟩, q0, q1, q2, q3⟩))
      have HCB := Lib.hid (fun (wq : World) (N : Nat) (ms : List (Nat × Nat)) (G : List Nat) (h : CB w p N [.int .i64 k, .int .i64 n, .string s, .slice a m c] [.int .i64 k', .int .i64 n', .string s', .slice a' m' c'] ms G wq) => HCC.out wq h.2.2.2.1 h.2.2.2.2.1)
      go_upto_region 4 with fail
      refine wp_region_held_drew (S := fun wq => (wq.cell? ⟨w.heap.size, 0, none⟩ = some (.int .i64 k) ∧ wq.cell? ⟨w.heap.size, 1, none⟩ = some (.int .i64 n) ∧ wq.cell? ⟨w.heap.size, 2, none⟩ = some (.string s) ∧ wq.cell? ⟨w.heap.size, 3, none⟩ = some (.slice a m c)) ∧ (wq.cell? ⟨w.heap.size + 1, 0, none⟩ = some (.int .i64 k') ∧ wq.cell? ⟨w.heap.size + 1, 1, none⟩ = some (.int .i64 n') ∧ wq.cell? ⟨w.heap.size + 1, 2, none⟩ = some (.string s') ∧ wq.cell? ⟨w.heap.size + 1, 3, none⟩ = some (.slice a' m' c'))) (by kernel_rfl) (HCB.out _ _ _ _ (H5.out.ext (Below.refl _ _).drew)) (fun hHeld => ?_)
      first | (refine held_t (i := 0) hHeld ?_; apply Exists.intro; refine ⟨fun wq hq => ?_, ?_⟩; (focus ((try dsimp only at hq); go_simp; (first | done | with_reducible rfl | fail)))) | refine held_s (i := 0) hHeld ?_ | fail
      first | (refine held_t (i := 1) hHeld ?_; apply Exists.intro; refine ⟨fun wq hq => ?_, ?_⟩; (focus ((try dsimp only at hq); go_simp; (first | done | with_reducible rfl | fail)))) | refine held_s (i := 1) hHeld ?_ | fail
      first | (refine held_t (i := 2) hHeld ?_; apply Exists.intro; refine ⟨fun wq hq => ?_, ?_⟩; (focus ((try dsimp only at hq); go_simp; (first | done | with_reducible rfl | fail)))) | refine held_s (i := 2) hHeld ?_ | fail
      first | (refine held_t (i := 5) hHeld ?_; apply Exists.intro; refine ⟨fun wq hq => ?_, ?_⟩; (focus ((try dsimp only at hq); go_simp; (first | done | with_reducible rfl | fail)))) | refine held_s (i := 5) hHeld ?_ | fail
      first | (refine held_t (i := 6) hHeld ?_; apply Exists.intro; refine ⟨fun wq hq => ?_, ?_⟩; (focus ((try dsimp only at hq); go_simp; (first | done | with_reducible rfl | fail)))) | refine held_s (i := 6) hHeld ?_ | fail
      try simp only [Act.put, List.setIfInBounds_toArray, List.set_cons_zero, List.set_cons_succ]
      obtain ⟨wd, hwd⟩ : ∃ wd, w5.drew = wd := ⟨_, rfl⟩
      have HD := Lib.hid (show CB w p 0 [.int .i64 k, .int .i64 n, .string s, .slice a m c] [.int .i64 k', .int .i64 n', .string s', .slice a' m' c'] [] F wd from by rw [← hwd]; exact H5.out.ext (Below.refl _ _).drew)
      have hzd : w.heap.size + 2 ≤ wd.heap.size := by rw [← hwd]; exact hz5
      rw [hwd] at hHeld ⊢
      clear hwd
      refine wpAnyH_ready (rs := [3, 7]) (by kernel_rfl) (by simp) ?_
      refine AllReadyH.cons (by simp only [List.getElem?_toArray, List.getElem?_cons_zero, List.getElem?_cons_succ]; rfl) (fun K hK => ?_) (AllReadyH.cons (by simp only [List.getElem?_toArray, List.getElem?_cons_zero, List.getElem?_cons_succ]; rfl) (fun K hK => ?_) AllReadyH.nil)
      · have HA0 := Lib.hid (HD.out.map 0 hzd)
        go_simp
        skip
        refine hK.out _ _ (HCB.out _ _ _ _ HA0.out) (fun hHeld => ?_)
        clear hK K
        try simp only [Act.put, List.setIfInBounds_toArray, List.set_cons_zero, List.set_cons_succ]
        obtain ⟨wa, ewa⟩ : ∃ q, wd.alloc (.map #[] 0) = q := ⟨_, rfl⟩
        have HA := HA0
        rw [ewa] at HA hHeld ⊢
        have hza : w.heap.size + 2 ≤ wa.heap.size := by rw [← ewa]; exact Nat.le_trans hzd (bel1' wd _).size
        have hswa : wd.heap.size < wa.heap.size := by rw [← ewa]; simp
        have hbwa : Below wd.heap.size wd wa := by rw [← ewa]; exact bel1' wd _
        clear ewa HA0
        refine wpAnyH_ready (rs := [4, 7]) (by kernel_rfl) (by simp) ?_
        refine AllReadyH.cons (by simp only [List.getElem?_toArray, List.getElem?_cons_zero, List.getElem?_cons_succ]; rfl) (fun K hK => ?_) (AllReadyH.cons (by simp only [List.getElem?_toArray, List.getElem?_cons_zero, List.getElem?_cons_succ]; rfl) (fun K hK => ?_) AllReadyH.nil)
        · have CH6 := HA.out.apart (fun q hq => by simp at hq <;> (try (subst hq; simp; omega))) HV.out.1 HL.out.2.2.1 (K := Lx) (by rw [HL.out.1]; omega) (by omega)
          go_simp
          (go_at_call 83; refine CH6.mono ?_; rintro e w6 ⟨F6, r6, rfl, c_, t_, tt_, in_⟩; have H6 := Lib.hid c_; have TH6 := Lib.hid (And.intro t_ (And.intro tt_ in_)); clear c_ t_ tt_ in_)
          refine hK.out _ _ (HCB.out _ _ _ _ H6.out) (fun hHeld => ?_)
          clear hK K
          try simp only [Act.put, List.setIfInBounds_toArray, List.set_cons_zero, List.set_cons_succ]
          have hz6 : w.heap.size + 2 ≤ w6.heap.size := Nat.le_trans hza TH6.out.2.1.size
          clear CH6
          have HB0 := Lib.hid (H6.out.map Lx hz6)
          refine held_c 7 fun K hK => ?_
          go_simp
          skip
          refine hK.out _ _ (HCB.out _ _ _ _ HB0.out) (fun hHeld => ?_)
          clear hK K
          try simp only [Act.put, List.setIfInBounds_toArray, List.set_cons_zero, List.set_cons_succ]
          obtain ⟨wb, ewb⟩ : ∃ q, w6.alloc (.map #[] 0) = q := ⟨_, rfl⟩
          have HB := HB0
          rw [ewb] at HB hHeld ⊢
          have hzb : w.heap.size + 2 ≤ wb.heap.size := by rw [← ewb]; exact Nat.le_trans hz6 (bel1' w6 _).size
          have hswb : w6.heap.size < wb.heap.size := by rw [← ewb]; simp
          have hbwb : Below w6.heap.size w6 wb := by rw [← ewb]; exact bel1' w6 _
          clear ewb HB0
          have CH8 := HB.out.apart (fun q hq => by simp at hq <;> (try (subst hq; simp; omega))) HV.out.2 HL.out.2.2.2 (K := (Lx + Ly)) (by rw [HL.out.2.1]) (by omega)
          refine held_c 8 fun K hK => ?_
          go_simp
          (go_at_call 83; refine CH8.mono ?_; rintro e w8 ⟨F8, r8, rfl, c_, t_, tt_, in_⟩; have H8 := Lib.hid c_; have TH8 := Lib.hid (And.intro t_ (And.intro tt_ in_)); clear c_ t_ tt_ in_)
          refine hK.out _ _ (HCB.out _ _ _ _ H8.out) (fun hHeld => ?_)
          clear hK K
          try simp only [Act.put, List.setIfInBounds_toArray, List.set_cons_zero, List.set_cons_succ]
          have hz8 : w.heap.size + 2 ≤ w8.heap.size := Nat.le_trans hzb TH8.out.2.1.size
          clear CH8
          have tx := apart_later TH6.out.1 hbwb (Or.inr (Nat.le_refl _)) TH8.out.2.1 TH8.out.2.2
          have ty := TmV.stay (Stays.less (D' := awayB F8) fun q hq => by obtain ⟨_, h2⟩ := newU_false.1 hq; simpa [awayB] using h2) _ _ TH8.out.1
          have C9 := H8.out.both tx ty
          rw [show bothB (Lx + Ly) [] (renT ((0 : Nat) : Int) x) (renT (Lx : Int) y) = BR from HBR.out] at C9
          clear tx ty
          refine held_c 9 fun K hK => ?_
          go_simp
          (go_at_call 42; refine C9.mono ?_; rintro e w9 ⟨rfl, b9, p9, q9⟩; have HB9 := Lib.hid b9; clear b9)
          refine hK.out _ _ (HCC.out _ p9 q9) (fun hHeld => ?_)
          clear hK K
          try simp only [Act.put, List.setIfInBounds_toArray, List.set_cons_zero, List.set_cons_succ]
          clear p9 q9 C9
          first | (refine held_t (i := 10) hHeld ?_; apply Exists.intro; refine ⟨fun wq hq => ?_, ?_⟩; (focus ((try dsimp only at hq); go_simp; (first | done | with_reducible rfl | fail)))) | refine held_s (i := 10) hHeld ?_ | fail
          first | (refine held_t (i := 11) hHeld ?_; apply Exists.intro; refine ⟨fun wq hq => ?_, ?_⟩; (focus ((try dsimp only at hq); go_simp; (first | done | with_reducible rfl | fail)))) | refine held_s (i := 11) hHeld ?_ | fail
          first | (refine held_t (i := 12) hHeld ?_; apply Exists.intro; refine ⟨fun wq hq => ?_, ?_⟩; (focus ((try dsimp only at hq); go_simp; (first | done | with_reducible rfl | fail)))) | refine held_s (i := 12) hHeld ?_ | fail
          first | (refine held_t (i := 13) hHeld ?_; apply Exists.intro; refine ⟨fun wq hq => ?_, ?_⟩; (focus ((try dsimp only at hq); go_simp; (first | done | with_reducible rfl | fail)))) | refine held_s (i := 13) hHeld ?_ | fail
          first | (refine held_t (i := 14) hHeld ?_; apply Exists.intro; refine ⟨fun wq hq => ?_, ?_⟩; (focus ((try dsimp only at hq); go_simp; (first | done | with_reducible rfl | fail)))) | refine held_s (i := 14) hHeld ?_ | fail
          first | (refine held_t (i := 15) hHeld ?_; apply Exists.intro; refine ⟨fun wq hq => ?_, ?_⟩; (focus ((try dsimp only at hq); go_simp; (first | done | with_reducible rfl | fail)))) | refine held_s (i := 15) hHeld ?_ | fail
          first | (refine held_t (i := 16) hHeld ?_; apply Exists.intro; refine ⟨fun wq hq => ?_, ?_⟩; (focus ((try dsimp only at hq); go_simp; (first | done | with_reducible rfl | fail)))) | refine held_s (i := 16) hHeld ?_ | fail
          try simp only [Act.put, List.setIfInBounds_toArray, List.set_cons_zero, List.set_cons_succ]
          refine wpAnyH_done (by kernel_rfl) ?_ _
          clear hHeld
          go_wp2
          go_ret
          exact ⟨rfl, HB9.out⟩
        · have HB0 := Lib.hid (HA.out.map Lx hza)
          go_simp
          skip
          refine hK.out _ _ (HCB.out _ _ _ _ HB0.out) (fun hHeld => ?_)
          clear hK K
          try simp only [Act.put, List.setIfInBounds_toArray, List.set_cons_zero, List.set_cons_succ]
          obtain ⟨wb, ewb⟩ : ∃ q, wa.alloc (.map #[] 0) = q := ⟨_, rfl⟩
          have HB := HB0
          rw [ewb] at HB hHeld ⊢
          have hzb : w.heap.size + 2 ≤ wb.heap.size := by rw [← ewb]; exact Nat.le_trans hza (bel1' wa _).size
          have hswb : wa.heap.size < wb.heap.size := by rw [← ewb]; simp
          have hbwb : Below wa.heap.size wa wb := by rw [← ewb]; exact bel1' wa _
          clear ewb HB0
          have CH6 := (CB.swap HB.out).apart (fun q hq => by simp at hq <;> (try (subst hq; simp; omega))) HV.out.1 HL.out.2.2.1 (K := Lx) (by rw [HL.out.1]; omega) (by omega)
          refine held_c 4 fun K hK => ?_
          go_simp
          (go_at_call 83; refine CH6.mono ?_; rintro e w6 ⟨F6, r6, rfl, c_, t_, tt_, in_⟩; have H6 := Lib.hid c_; have TH6 := Lib.hid (And.intro t_ (And.intro tt_ in_)); clear c_ t_ tt_ in_)
          refine hK.out _ _ (HCB.out _ _ _ _ H6.out) (fun hHeld => ?_)
          clear hK K
          try simp only [Act.put, List.setIfInBounds_toArray, List.set_cons_zero, List.set_cons_succ]
          have hz6 : w.heap.size + 2 ≤ w6.heap.size := Nat.le_trans hzb TH6.out.2.1.size
          clear CH6
          have CH8 := H6.out.apart (fun q hq => by simp at hq <;> (try (subst hq; simp; omega))) HV.out.2 HL.out.2.2.2 (K := (Lx + Ly)) (by rw [HL.out.2.1]) (by omega)
          refine held_c 8 fun K hK => ?_
          go_simp
          (go_at_call 83; refine CH8.mono ?_; rintro e w8 ⟨F8, r8, rfl, c_, t_, tt_, in_⟩; have H8 := Lib.hid c_; have TH8 := Lib.hid (And.intro t_ (And.intro tt_ in_)); clear c_ t_ tt_ in_)
          refine hK.out _ _ (HCB.out _ _ _ _ H8.out) (fun hHeld => ?_)
          clear hK K
          try simp only [Act.put, List.setIfInBounds_toArray, List.set_cons_zero, List.set_cons_succ]
          have hz8 : w.heap.size + 2 ≤ w8.heap.size := Nat.le_trans hz6 TH8.out.2.1.size
          clear CH8
          have tx := apart_later TH6.out.1 (Below.refl _ _) (Or.inl hswb) TH8.out.2.1 TH8.out.2.2
          have ty := TmV.stay (Stays.less (D' := awayB F8) fun q hq => by obtain ⟨_, h2⟩ := newU_false.1 hq; simpa [awayB] using h2) _ _ TH8.out.1
          have C9 := H8.out.both tx ty
          rw [show bothB (Lx + Ly) [] (renT ((0 : Nat) : Int) x) (renT (Lx : Int) y) = BR from HBR.out] at C9
          clear tx ty
          refine held_c 9 fun K hK => ?_
          go_simp
          (go_at_call 42; refine C9.mono ?_; rintro e w9 ⟨rfl, b9, p9, q9⟩; have HB9 := Lib.hid b9; clear b9)
          refine hK.out _ _ (HCC.out _ p9 q9) (fun hHeld => ?_)
          clear hK K
          try simp only [Act.put, List.setIfInBounds_toArray, List.set_cons_zero, List.set_cons_succ]
          clear p9 q9 C9
          first | (refine held_t (i := 10) hHeld ?_; apply Exists.intro; refine ⟨fun wq hq => ?_, ?_⟩; (focus ((try dsimp only at hq); go_simp; (first | done | with_reducible rfl | fail)))) | refine held_s (i := 10) hHeld ?_ | fail
          first | (refine held_t (i := 11) hHeld ?_; apply Exists.intro; refine ⟨fun wq hq => ?_, ?_⟩; (focus ((try dsimp only at hq); go_simp; (first | done | with_reducible rfl | fail)))) | refine held_s (i := 11) hHeld ?_ | fail
          first | (refine held_t (i := 12) hHeld ?_; apply Exists.intro; refine ⟨fun wq hq => ?_, ?_⟩; (focus ((try dsimp only at hq); go_simp; (first | done | with_reducible rfl | fail)))) | refine held_s (i := 12) hHeld ?_ | fail
          first | (refine held_t (i := 13) hHeld ?_; apply Exists.intro; refine ⟨fun wq hq => ?_, ?_⟩; (focus ((try dsimp only at hq); go_simp; (first | done | with_reducible rfl | fail)))) | refine held_s (i := 13) hHeld ?_ | fail
          first | (refine held_t (i := 14) hHeld ?_; apply Exists.intro; refine ⟨fun wq hq => ?_, ?_⟩; (focus ((try dsimp only at hq); go_simp; (first | done | with_reducible rfl | fail)))) | refine held_s (i := 14) hHeld ?_ | fail
          first | (refine held_t (i := 15) hHeld ?_; apply Exists.intro; refine ⟨fun wq hq => ?_, ?_⟩; (focus ((try dsimp only at hq); go_simp; (first | done | with_reducible rfl | fail)))) | refine held_s (i := 15) hHeld ?_ | fail
          first | (refine held_t (i := 16) hHeld ?_; apply Exists.intro; refine ⟨fun wq hq => ?_, ?_⟩; (focus ((try dsimp only at hq); go_simp; (first | done | with_reducible rfl | fail)))) | refine held_s (i := 16) hHeld ?_ | fail
          try simp only [Act.put, List.setIfInBounds_toArray, List.set_cons_zero, List.set_cons_succ]
          refine wpAnyH_done (by kernel_rfl) ?_ _
          clear hHeld
          go_wp2
          go_ret
          exact ⟨rfl, HB9.out⟩
      · have HA0 := Lib.hid (HD.out.map Lx hzd)
        go_simp
        skip
        refine hK.out _ _ (HCB.out _ _ _ _ HA0.out) (fun hHeld => ?_)
        clear hK K
        try simp only [Act.put, List.setIfInBounds_toArray, List.set_cons_zero, List.set_cons_succ]
        obtain ⟨wa, ewa⟩ : ∃ q, wd.alloc (.map #[] 0) = q := ⟨_, rfl⟩
        have HA := HA0
        rw [ewa] at HA hHeld ⊢
        have hza : w.heap.size + 2 ≤ wa.heap.size := by rw [← ewa]; exact Nat.le_trans hzd (bel1' wd _).size
        have hswa : wd.heap.size < wa.heap.size := by rw [← ewa]; simp
        have hbwa : Below wd.heap.size wd wa := by rw [← ewa]; exact bel1' wd _
        clear ewa HA0
        have HB0 := Lib.hid (HA.out.map 0 hza)
        refine held_c 3 fun K hK => ?_
        go_simp
        skip
        refine hK.out _ _ (HCB.out _ _ _ _ HB0.out) (fun hHeld => ?_)
        clear hK K
        try simp only [Act.put, List.setIfInBounds_toArray, List.set_cons_zero, List.set_cons_succ]
        obtain ⟨wb, ewb⟩ : ∃ q, wa.alloc (.map #[] 0) = q := ⟨_, rfl⟩
        have HB := HB0
        rw [ewb] at HB hHeld ⊢
        have hzb : w.heap.size + 2 ≤ wb.heap.size := by rw [← ewb]; exact Nat.le_trans hza (bel1' wa _).size
        have hswb : wa.heap.size < wb.heap.size := by rw [← ewb]; simp
        have hbwb : Below wa.heap.size wa wb := by rw [← ewb]; exact bel1' wa _
        clear ewb HB0
        have CH6 := HB.out.apart (fun q hq => by simp at hq <;> (try (subst hq; simp; omega))) HV.out.1 HL.out.2.2.1 (K := Lx) (by rw [HL.out.1]; omega) (by omega)
        refine held_c 4 fun K hK => ?_
        go_simp
        (go_at_call 83; refine CH6.mono ?_; rintro e w6 ⟨F6, r6, rfl, c_, t_, tt_, in_⟩; have H6 := Lib.hid c_; have TH6 := Lib.hid (And.intro t_ (And.intro tt_ in_)); clear c_ t_ tt_ in_)
        refine hK.out _ _ (HCB.out _ _ _ _ H6.out) (fun hHeld => ?_)
        clear hK K
        try simp only [Act.put, List.setIfInBounds_toArray, List.set_cons_zero, List.set_cons_succ]
        have hz6 : w.heap.size + 2 ≤ w6.heap.size := Nat.le_trans hzb TH6.out.2.1.size
        clear CH6
        have CH8 := H6.out.apart (fun q hq => by simp at hq <;> (try (subst hq; simp; omega))) HV.out.2 HL.out.2.2.2 (K := (Lx + Ly)) (by rw [HL.out.2.1]) (by omega)
        refine held_c 8 fun K hK => ?_
        go_simp
        (go_at_call 83; refine CH8.mono ?_; rintro e w8 ⟨F8, r8, rfl, c_, t_, tt_, in_⟩; have H8 := Lib.hid c_; have TH8 := Lib.hid (And.intro t_ (And.intro tt_ in_)); clear c_ t_ tt_ in_)
        refine hK.out _ _ (HCB.out _ _ _ _ H8.out) (fun hHeld => ?_)
        clear hK K
        try simp only [Act.put, List.setIfInBounds_toArray, List.set_cons_zero, List.set_cons_succ]
        have hz8 : w.heap.size + 2 ≤ w8.heap.size := Nat.le_trans hz6 TH8.out.2.1.size
        clear CH8
        have tx := apart_later TH6.out.1 (Below.refl _ _) (Or.inl (by omega)) TH8.out.2.1 TH8.out.2.2
        have ty := TmV.stay (Stays.less (D' := awayB F8) fun q hq => by obtain ⟨_, h2⟩ := newU_false.1 hq; simpa [awayB] using h2) _ _ TH8.out.1
        have C9 := H8.out.both tx ty
        rw [show bothB (Lx + Ly) [] (renT ((0 : Nat) : Int) x) (renT (Lx : Int) y) = BR from HBR.out] at C9
        clear tx ty
        refine held_c 9 fun K hK => ?_
        go_simp
        (go_at_call 42; refine C9.mono ?_; rintro e w9 ⟨rfl, b9, p9, q9⟩; have HB9 := Lib.hid b9; clear b9)
        refine hK.out _ _ (HCC.out _ p9 q9) (fun hHeld => ?_)
        clear hK K
        try simp only [Act.put, List.setIfInBounds_toArray, List.set_cons_zero, List.set_cons_succ]
        clear p9 q9 C9
        first | (refine held_t (i := 10) hHeld ?_; apply Exists.intro; refine ⟨fun wq hq => ?_, ?_⟩; (focus ((try dsimp only at hq); go_simp; (first | done | with_reducible rfl | fail)))) | refine held_s (i := 10) hHeld ?_ | fail
        first | (refine held_t (i := 11) hHeld ?_; apply Exists.intro; refine ⟨fun wq hq => ?_, ?_⟩; (focus ((try dsimp only at hq); go_simp; (first | done | with_reducible rfl | fail)))) | refine held_s (i := 11) hHeld ?_ | fail
        first | (refine held_t (i := 12) hHeld ?_; apply Exists.intro; refine ⟨fun wq hq => ?_, ?_⟩; (focus ((try dsimp only at hq); go_simp; (first | done | with_reducible rfl | fail)))) | refine held_s (i := 12) hHeld ?_ | fail
        first | (refine held_t (i := 13) hHeld ?_; apply Exists.intro; refine ⟨fun wq hq => ?_, ?_⟩; (focus ((try dsimp only at hq); go_simp; (first | done | with_reducible rfl | fail)))) | refine held_s (i := 13) hHeld ?_ | fail
        first | (refine held_t (i := 14) hHeld ?_; apply Exists.intro; refine ⟨fun wq hq => ?_, ?_⟩; (focus ((try dsimp only at hq); go_simp; (first | done | with_reducible rfl | fail)))) | refine held_s (i := 14) hHeld ?_ | fail
        first | (refine held_t (i := 15) hHeld ?_; apply Exists.intro; refine ⟨fun wq hq => ?_, ?_⟩; (focus ((try dsimp only at hq); go_simp; (first | done | with_reducible rfl | fail)))) | refine held_s (i := 15) hHeld ?_ | fail
        first | (refine held_t (i := 16) hHeld ?_; apply Exists.intro; refine ⟨fun wq hq => ?_, ?_⟩; (focus ((try dsimp only at hq); go_simp; (first | done | with_reducible rfl | fail)))) | refine held_s (i := 16) hHeld ?_ | fail
        try simp only [Act.put, List.setIfInBounds_toArray, List.set_cons_zero, List.set_cons_succ]
        refine wpAnyH_done (by kernel_rfl) ?_ _
        clear hHeld
        go_wp2
        go_ret
        exact ⟨rfl, HB9.out⟩
end Go.Proofs.Ytbbbgijlbcmpbaa
/- Stage 13's laws: AliasSelf. -/
namespace Go.Proofs.Ytbbbgijlbcmpbaa
open Go.RowKit
set_option linter.unusedVariables false

set_option maxHeartbeats 16000000 in
set_option maxRecDepth 100000 in
theorem self_walk {W : World} {vx : Value} {t : Tm} (hx : TmV W t vx) : Calls Try.prog 13 #[vx] W fun e w' => IsBool W true e w' := by
  obtain ⟨k, n, s, a, m, c, rfl⟩ := hx.full
  obtain ⟨w1, e1, B1, z1, X1⟩ := box_new W #[.int .i64 k, .int .i64 n, .string s, .slice a m c] 31
  have HE := Lib.hid e1
  have HB1 := Lib.hid (And.intro B1 X1)
  have HV := Lib.hid (fun (wq : World) (hb : Below W.heap.size W wq) => TmV.ext hb _ _ hx)
  have DX := Lib.hid (fun (wq : World) (hb : Below W.heap.size W wq) => deep13_at _ t (Nat.le_refl _) 40 (by unfold I64; omega) wq _ (TmV.ext hb _ _ hx))
  clear B1 z1 e1 X1 hx
  go_enter Try.func13, Try.ntmps13
  go_upto_region 1 with fail
  (try rw [HE.out])
  (go_wp2_with fail; go_fit (aawake_at _); rintro e w2 ⟨rfl, b2⟩)
  have HB2 := Lib.hid (Ext.trans' HB1.out.1 b2)
  have HX2 := Lib.hid (HB1.out.2.ext b2)
  clear b2
  obtain ⟨x0, x1, x2, x3, _⟩ := HX2.out.four
  have C := DX.out w2 HB2.out
  cases hdx : deepT t 40
  rotate_left
  · rw [hdx] at C
    clear hdx
    (go_wp2_with fail; go_fit (C); rintro e w3 ⟨rfl, b3⟩)
    have HB3 := Lib.hid (Ext.trans' HB2.out b3)
    clear b3 C
    go_wp2
    go_ret
    exact ⟨rfl, HB3.out⟩
  rw [hdx] at C
  clear hdx
  (go_wp2_with fail; go_fit (C); rintro e w3 ⟨rfl, b3⟩)
  have HB3 := Lib.hid (Ext.trans' HB2.out b3)
  have HX3 := Lib.hid (HX2.out.ext b3)
  clear b3 C x0 x1 x2 x3
  obtain ⟨x0, x1, x2, x3, _⟩ := HX3.out.four
  have C := Good_at t w3 _ (HV.out w3 HB3.out)
  cases hg : goodT t
  · rw [hg] at C
    clear hg
    (go_wp2_with fail; go_fit (C); rintro e w4 ⟨rfl, b4⟩)
    have HB4 := Lib.hid (Ext.trans' HB3.out b4)
    clear b4 C
    go_wp2
    go_ret
    exact ⟨rfl, HB4.out⟩
  rw [hg] at C
  (go_wp2_with fail; go_fit (C); rintro e w4 ⟨rfl, b4⟩)
  have HB4 := Lib.hid (Ext.trans' HB3.out b4)
  have HX4 := Lib.hid (HX3.out.ext b4)
  clear b4 C x0 x1 x2 x3
  obtain ⟨x0, x1, x2, x3, _⟩ := HX4.out.four
  have C := size_at t w4 _ (HV.out w4 HB4.out)
  by_cases hbig : 200 < sizeN t
  · obtain ⟨z, hz⟩ : ∃ z, min (sizeN t) 2001 = z := ⟨_, rfl⟩
    have hz2 : (200 : Int) < z := by omega
    rw [hz] at C
    clear hz hg hbig
    (go_wp2_with fail; go_fit (C); rintro e w5 ⟨rfl, b5⟩)
    have HB5 := Lib.hid (Ext.trans' HB4.out b5)
    clear b5 C
    go_wp2
    go_ret
    exact ⟨rfl, HB5.out⟩
  obtain ⟨z, hz⟩ : ∃ z, min (sizeN t) 2001 = z := ⟨_, rfl⟩
  have hz2 : ¬ (200 : Int) < z := by omega
  rw [hz] at C
  obtain ⟨K, hK⟩ : ∃ K, (varsT t []).length = K := ⟨_, rfl⟩
  obtain ⟨hK2, p, q, S, c1, c2, hF⟩ := self_facts hg (by omega) hK
  have HF := Lib.hid hF
  have HL := Lib.hid hK
  have HVT := Lib.hid (fun (wq : World) (hb : Below W.heap.size W wq) => Vars_at t wq _ (HV.out wq hb))
  rw [hg, if_pos rfl] at HVT
  clear hz hg hbig hF hK
  (go_wp2_with fail; go_fit (C); rintro e w5 ⟨rfl, b5⟩)
  have HB5 := Lib.hid (Ext.trans' HB4.out b5)
  have HX5 := Lib.hid (HX4.out.ext b5)
  clear b5 C x0 x1 x2 x3
  obtain ⟨x0, x1, x2, x3, _⟩ := HX5.out.four
  have C := Plain_at t w5 _ (HV.out w5 HB5.out)
  rw [HF.out.plain] at C
  unfold PlainP at C
  (go_wp2_with fail; go_fit (C); rintro e w5b ⟨r, rfl, ht, b5b⟩)
  obtain ⟨k3, n3, s3, a3, m3, c3, rfl, f1, f2, f3, f4⟩ := four_of ht
  obtain ⟨w6, e6, b6, z6, x6⟩ := box_new w5b #[.int .i64 k3, .int .i64 n3, .string s3, .slice a3 m3 c3] 31
  have hb6 := Ext.trans' b5b b6
  have HB6 := Lib.hid (Ext.trans' HB5.out hb6)
  have HP6 := Lib.hid (TmV.ext b6 _ _ ht.bare)
  have HX6 := Lib.hid (And.intro (HX5.out.ext hb6) x6)
  have HE6 := Lib.hid e6
  obtain ⟨b3, hb3⟩ : ∃ b, w5b.heap.size = b := ⟨_, rfl⟩
  have HEQ3 := Lib.hid hb3
  rw [hb3] at HX6
  clear f1 f2 f3 f4 ht b5b b6 z6 x6 e6 C x0 x1 x2 x3 hb6 hb3
  have HC := Lib.hid (fun (wq : World) (hb : Below w6.heap.size w6 wq) => (show ((wq.cell? ⟨W.heap.size, 0, none⟩ = some (.int .i64 k) ∧ wq.cell? ⟨W.heap.size, 1, none⟩ = some (.int .i64 n) ∧ wq.cell? ⟨W.heap.size, 2, none⟩ = some (.string s) ∧ wq.cell? ⟨W.heap.size, 3, none⟩ = some (.slice a m c)) ∧ (wq.cell? ⟨b3, 0, none⟩ = some (.int .i64 k3) ∧ wq.cell? ⟨b3, 1, none⟩ = some (.int .i64 n3) ∧ wq.cell? ⟨b3, 2, none⟩ = some (.string s3) ∧ wq.cell? ⟨b3, 3, none⟩ = some (.slice a3 m3 c3))) ∧ Below w6.heap.size w6 wq from by
    obtain ⟨p0, p1, p2, p3, _⟩ := (HX6.out.1.ext hb).four
    obtain ⟨q0, q1, q2, q3, _⟩ := (HX6.out.2.ext hb).four
    exact ⟨⟨⟨p0, p1, p2, p3⟩, q0, q1, q2, q3⟩, hb⟩))
  have HFP := Lib.hid (fun (wq : World) (hb : Below w6.heap.size w6 wq) => pFrom_at p (K : Int) (by unfold I64; omega) wq _ (TmV.ext hb _ _ HP6.out))
  unfold FromP at HFP
  rw [HF.out.from_] at HFP
  obtain ⟨NN, hNN⟩ : ∃ NN : Nat, K + K = NN := ⟨_, rfl⟩
  have hNN2 : (K : Int) + (K : Int) = (NN : Int) := by omega
  rw [hNN2] at HFP
  have HNN := Lib.hid hNN
  have hNN4 : NN ≤ 400 := by omega
  have hNN5 : ¬ (1000 : Int) < NN := by omega
  clear hNN hNN2
  go_upto_region 6 with fail
  (try rw [HE6.out])
  (try rw [HEQ3.out])
  go_cut [5, 6, 7] from 37 to 45 (fun s5 s6_ s7 wx => s6_ = .int .i64 NN ∧ Hid (BoxT w6 q 0 s5 s7 wx))
  case first =>
    refine wp_region_held_drew (S := fun wq => ((wq.cell? ⟨W.heap.size, 0, none⟩ = some (.int .i64 k) ∧ wq.cell? ⟨W.heap.size, 1, none⟩ = some (.int .i64 n) ∧ wq.cell? ⟨W.heap.size, 2, none⟩ = some (.string s) ∧ wq.cell? ⟨W.heap.size, 3, none⟩ = some (.slice a m c)) ∧ (wq.cell? ⟨b3, 0, none⟩ = some (.int .i64 k3) ∧ wq.cell? ⟨b3, 1, none⟩ = some (.int .i64 n3) ∧ wq.cell? ⟨b3, 2, none⟩ = some (.string s3) ∧ wq.cell? ⟨b3, 3, none⟩ = some (.slice a3 m3 c3))) ∧ Below w6.heap.size w6 wq) (by kernel_rfl) (HC.out _ (Below.refl _ _).drew) (fun hHeld => ?_)
    first | (refine held_t (i := 0) hHeld ?_; apply Exists.intro; refine ⟨fun wq hq => ?_, ?_⟩; (focus ((try dsimp only at hq); go_simp; (first | done | with_reducible rfl | fail)))) | refine held_s (i := 0) hHeld ?_ | fail
    first | (refine held_t (i := 1) hHeld ?_; apply Exists.intro; refine ⟨fun wq hq => ?_, ?_⟩; (focus ((try dsimp only at hq); go_simp; (first | done | with_reducible rfl | fail)))) | refine held_s (i := 1) hHeld ?_ | fail
    try simp only [Act.put, List.setIfInBounds_toArray, List.set_cons_zero, List.set_cons_succ]
    obtain ⟨wd, hwd⟩ : ∃ wd, w6.drew = wd := ⟨_, rfl⟩
    rw [hwd] at hHeld ⊢
    clear hwd
    refine wpAnyH_ready (rs := [2, 9]) (by kernel_rfl) (by simp) ?_
    refine AllReadyH.cons (by simp only [List.getElem?_toArray, List.getElem?_cons_zero, List.getElem?_cons_succ]; rfl) (fun K hK => ?_) (AllReadyH.cons (by simp only [List.getElem?_toArray, List.getElem?_cons_zero, List.getElem?_cons_succ]; rfl) (fun K hK => ?_) AllReadyH.nil)
    · go_simp
      (go_at_call 38; refine (HVT.out _ (HB6.out.trans (hHeld.2.mono HB6.out.size))).mono ?_; rintro e w7_ ⟨r, rfl, hn, h5⟩; obtain ⟨ra, rc, rfl, hrc1, hrc2⟩ := hn.len; rw [HL.out] at hrc1 ⊢; unfold maxLen at hrc2; have HB7_ := Lib.hid h5; clear hn)
      refine hK.out _ _ (HC.out _ (Ext.trans' hHeld.2 HB7_.out)) (fun hHeld => ?_)
      clear hK K
      try simp only [Act.put, List.setIfInBounds_toArray, List.set_cons_zero, List.set_cons_succ]
      clear h5
      first | (refine held_t (i := 3) hHeld ?_; apply Exists.intro; refine ⟨fun wq hq => ?_, ?_⟩; (focus ((try dsimp only at hq); go_simp; (first | done | with_reducible rfl | fail)))) | refine held_s (i := 3) hHeld ?_ | fail
      try simp only [Act.put, List.setIfInBounds_toArray, List.set_cons_zero, List.set_cons_succ]
      refine wpAnyH_ready (rs := [4, 9]) (by kernel_rfl) (by simp) ?_
      refine AllReadyH.cons (by simp only [List.getElem?_toArray, List.getElem?_cons_zero, List.getElem?_cons_succ]; rfl) (fun K hK => ?_) (AllReadyH.cons (by simp only [List.getElem?_toArray, List.getElem?_cons_zero, List.getElem?_cons_succ]; rfl) (fun K hK => ?_) AllReadyH.nil)
      · go_simp
        (go_at_call 53; refine (HFP.out _ hHeld.2).mono ?_; rintro e w8_ ⟨r, rfl, ht6, h6⟩; obtain ⟨k6, n6, s6, a6, m6, c6, rfl, g1, g2, g3, g4⟩ := four_of ht6; have HT6 := Lib.hid ht6; have HB8_ := Lib.hid h6; clear ht6 g1 g2 g3 g4)
        refine hK.out _ _ (HC.out _ (Ext.trans' hHeld.2 HB8_.out)) (fun hHeld => ?_)
        clear hK K
        try simp only [Act.put, List.setIfInBounds_toArray, List.set_cons_zero, List.set_cons_succ]
        clear h6
        first | (refine held_t (i := 5) hHeld ?_; apply Exists.intro; refine ⟨fun wq hq => ?_, ?_⟩; (focus ((try dsimp only at hq); go_simp; (first | done | with_reducible rfl | fail)))) | refine held_s (i := 5) hHeld ?_ | fail
        first | (refine held_t (i := 6) hHeld ?_; apply Exists.intro; refine ⟨fun wq hq => ?_, ?_⟩; (focus ((try dsimp only at hq); go_simp; (first | done | with_reducible rfl | fail)))) | refine held_s (i := 6) hHeld ?_ | fail
        first | (refine held_t (i := 7) hHeld ?_; apply Exists.intro; refine ⟨fun wq hq => ?_, ?_⟩; (focus ((try dsimp only at hq); go_simp; (first | done | with_reducible rfl | fail)))) | refine held_s (i := 7) hHeld ?_ | fail
        first | (refine held_t (i := 8) hHeld ?_; apply Exists.intro; refine ⟨fun wq hq => ?_, ?_⟩; (focus ((try dsimp only at hq); go_simp; (first | done | with_reducible rfl | fail)))) | refine held_s (i := 8) hHeld ?_ | fail
        try simp only [Act.put, List.setIfInBounds_toArray, List.set_cons_zero, List.set_cons_succ]
        have HELD := Lib.hid hHeld.2
        refine held_c 9 fun K hK => ?_
        go_simp
        skip
        refine hK.out _ _ (HC.out _ (Ext.trans' hHeld.2 (bel1' _ _))) (fun hHeld => ?_)
        clear hK K
        try simp only [Act.put, List.setIfInBounds_toArray, List.set_cons_zero, List.set_cons_succ]
        obtain ⟨w9_, e9, b9, z9, hx9⟩ := box_new w8_ #[.int .i64 0, .int .i64 0, .string ⟨#[]⟩, .slice none 0 0] 31
        have hd9 : w6.heap.size ≤ w8_.heap.size := by have := HELD.out.size; exact this
        rw [e9] at hHeld ⊢
        clear e9 z9
        have hl9 := hx9.lt
        have TD := Lib.hid (BoxT.late (w := w6) (e := 0) HT6.out.bare b9 (Nat.le_refl _) hx9 hHeld.2 hd9)
        obtain ⟨r0, r1, r2, r3, rf⟩ := hx9.four
        refine held_c 10 fun K hK => ?_
        go_simp
        skip
        refine hK.out _ _ (HC.out _ (Below.set4 hHeld.2 hd9 _ _ _ _)) (fun hHeld => ?_)
        clear hK K
        try simp only [Act.put, List.setIfInBounds_toArray, List.set_cons_zero, List.set_cons_succ]
        first | (refine held_t (i := 11) hHeld ?_; apply Exists.intro; refine ⟨fun wq hq => ?_, ?_⟩; (focus ((try dsimp only at hq); go_simp; (first | done | with_reducible rfl | fail)))) | refine held_s (i := 11) hHeld ?_ | fail
        first | (refine held_t (i := 12) hHeld ?_; apply Exists.intro; refine ⟨fun wq hq => ?_, ?_⟩; (focus ((try dsimp only at hq); go_simp; (first | done | with_reducible rfl | fail)))) | refine held_s (i := 12) hHeld ?_ | fail
        try simp only [Act.put, List.setIfInBounds_toArray, List.set_cons_zero, List.set_cons_succ]
        refine wpAnyH_done (by kernel_rfl) ?_ _
        clear hHeld r0 r1 r2 r3 rf
        go_wp2
        all_goals go_meet
        exact ⟨rfl, TD.out⟩
      · have HELD := Lib.hid hHeld.2
        go_simp
        skip
        refine hK.out _ _ (HC.out _ (Ext.trans' hHeld.2 (bel1' _ _))) (fun hHeld => ?_)
        clear hK K
        try simp only [Act.put, List.setIfInBounds_toArray, List.set_cons_zero, List.set_cons_succ]
        obtain ⟨w9_, e9, b9, z9, hx9⟩ := box_new w7_ #[.int .i64 0, .int .i64 0, .string ⟨#[]⟩, .slice none 0 0] 31
        have hd9 : w6.heap.size ≤ w7_.heap.size := by have := HELD.out.size; exact this
        rw [e9] at hHeld ⊢
        clear e9 z9
        have hl9 := hx9.lt
        refine held_c 4 fun K hK => ?_
        go_simp
        (go_at_call 53; refine (HFP.out _ hHeld.2).mono ?_; rintro e w8_ ⟨r, rfl, ht6, h6⟩; obtain ⟨k6, n6, s6, a6, m6, c6, rfl, g1, g2, g3, g4⟩ := four_of ht6; have HT6 := Lib.hid ht6; have HB8_ := Lib.hid h6; clear ht6 g1 g2 g3 g4)
        refine hK.out _ _ (HC.out _ (Ext.trans' hHeld.2 HB8_.out)) (fun hHeld => ?_)
        clear hK K
        try simp only [Act.put, List.setIfInBounds_toArray, List.set_cons_zero, List.set_cons_succ]
        clear h6
        first | (refine held_t (i := 5) hHeld ?_; apply Exists.intro; refine ⟨fun wq hq => ?_, ?_⟩; (focus ((try dsimp only at hq); go_simp; (first | done | with_reducible rfl | fail)))) | refine held_s (i := 5) hHeld ?_ | fail
        first | (refine held_t (i := 6) hHeld ?_; apply Exists.intro; refine ⟨fun wq hq => ?_, ?_⟩; (focus ((try dsimp only at hq); go_simp; (first | done | with_reducible rfl | fail)))) | refine held_s (i := 6) hHeld ?_ | fail
        first | (refine held_t (i := 7) hHeld ?_; apply Exists.intro; refine ⟨fun wq hq => ?_, ?_⟩; (focus ((try dsimp only at hq); go_simp; (first | done | with_reducible rfl | fail)))) | refine held_s (i := 7) hHeld ?_ | fail
        first | (refine held_t (i := 8) hHeld ?_; apply Exists.intro; refine ⟨fun wq hq => ?_, ?_⟩; (focus ((try dsimp only at hq); go_simp; (first | done | with_reducible rfl | fail)))) | refine held_s (i := 8) hHeld ?_ | fail
        try simp only [Act.put, List.setIfInBounds_toArray, List.set_cons_zero, List.set_cons_succ]
        replace hx9 := hx9.ext HB8_.out
        have TD := Lib.hid (BoxT.early (w := w6) (e := 0) HT6.out hl9 hx9 hHeld.2 hd9)
        obtain ⟨r0, r1, r2, r3, rf⟩ := hx9.four
        refine held_c 10 fun K hK => ?_
        go_simp
        skip
        refine hK.out _ _ (HC.out _ (Below.set4 hHeld.2 hd9 _ _ _ _)) (fun hHeld => ?_)
        clear hK K
        try simp only [Act.put, List.setIfInBounds_toArray, List.set_cons_zero, List.set_cons_succ]
        first | (refine held_t (i := 11) hHeld ?_; apply Exists.intro; refine ⟨fun wq hq => ?_, ?_⟩; (focus ((try dsimp only at hq); go_simp; (first | done | with_reducible rfl | fail)))) | refine held_s (i := 11) hHeld ?_ | fail
        first | (refine held_t (i := 12) hHeld ?_; apply Exists.intro; refine ⟨fun wq hq => ?_, ?_⟩; (focus ((try dsimp only at hq); go_simp; (first | done | with_reducible rfl | fail)))) | refine held_s (i := 12) hHeld ?_ | fail
        try simp only [Act.put, List.setIfInBounds_toArray, List.set_cons_zero, List.set_cons_succ]
        refine wpAnyH_done (by kernel_rfl) ?_ _
        clear hHeld r0 r1 r2 r3 rf
        go_wp2
        all_goals go_meet
        exact ⟨rfl, TD.out⟩
    · have HELD := Lib.hid hHeld.2
      go_simp
      skip
      refine hK.out _ _ (HC.out _ (Ext.trans' hHeld.2 (bel1' _ _))) (fun hHeld => ?_)
      clear hK K
      try simp only [Act.put, List.setIfInBounds_toArray, List.set_cons_zero, List.set_cons_succ]
      obtain ⟨w9_, e9, b9, z9, hx9⟩ := box_new wd #[.int .i64 0, .int .i64 0, .string ⟨#[]⟩, .slice none 0 0] 31
      have hd9 : w6.heap.size ≤ wd.heap.size := by have := HELD.out.size; exact this
      rw [e9] at hHeld ⊢
      clear e9 z9
      have hl9 := hx9.lt
      refine held_c 2 fun K hK => ?_
      go_simp
      (go_at_call 38; refine (HVT.out _ (HB6.out.trans (hHeld.2.mono HB6.out.size))).mono ?_; rintro e w7_ ⟨r, rfl, hn, h5⟩; obtain ⟨ra, rc, rfl, hrc1, hrc2⟩ := hn.len; rw [HL.out] at hrc1 ⊢; unfold maxLen at hrc2; have HB7_ := Lib.hid h5; clear hn)
      refine hK.out _ _ (HC.out _ (Ext.trans' hHeld.2 HB7_.out)) (fun hHeld => ?_)
      clear hK K
      try simp only [Act.put, List.setIfInBounds_toArray, List.set_cons_zero, List.set_cons_succ]
      clear h5
      first | (refine held_t (i := 3) hHeld ?_; apply Exists.intro; refine ⟨fun wq hq => ?_, ?_⟩; (focus ((try dsimp only at hq); go_simp; (first | done | with_reducible rfl | fail)))) | refine held_s (i := 3) hHeld ?_ | fail
      try simp only [Act.put, List.setIfInBounds_toArray, List.set_cons_zero, List.set_cons_succ]
      refine held_c 4 fun K hK => ?_
      go_simp
      (go_at_call 53; refine (HFP.out _ hHeld.2).mono ?_; rintro e w8_ ⟨r, rfl, ht6, h6⟩; obtain ⟨k6, n6, s6, a6, m6, c6, rfl, g1, g2, g3, g4⟩ := four_of ht6; have HT6 := Lib.hid ht6; have HB8_ := Lib.hid h6; clear ht6 g1 g2 g3 g4)
      refine hK.out _ _ (HC.out _ (Ext.trans' hHeld.2 HB8_.out)) (fun hHeld => ?_)
      clear hK K
      try simp only [Act.put, List.setIfInBounds_toArray, List.set_cons_zero, List.set_cons_succ]
      clear h6
      first | (refine held_t (i := 5) hHeld ?_; apply Exists.intro; refine ⟨fun wq hq => ?_, ?_⟩; (focus ((try dsimp only at hq); go_simp; (first | done | with_reducible rfl | fail)))) | refine held_s (i := 5) hHeld ?_ | fail
      first | (refine held_t (i := 6) hHeld ?_; apply Exists.intro; refine ⟨fun wq hq => ?_, ?_⟩; (focus ((try dsimp only at hq); go_simp; (first | done | with_reducible rfl | fail)))) | refine held_s (i := 6) hHeld ?_ | fail
      first | (refine held_t (i := 7) hHeld ?_; apply Exists.intro; refine ⟨fun wq hq => ?_, ?_⟩; (focus ((try dsimp only at hq); go_simp; (first | done | with_reducible rfl | fail)))) | refine held_s (i := 7) hHeld ?_ | fail
      first | (refine held_t (i := 8) hHeld ?_; apply Exists.intro; refine ⟨fun wq hq => ?_, ?_⟩; (focus ((try dsimp only at hq); go_simp; (first | done | with_reducible rfl | fail)))) | refine held_s (i := 8) hHeld ?_ | fail
      try simp only [Act.put, List.setIfInBounds_toArray, List.set_cons_zero, List.set_cons_succ]
      replace hx9 := (hx9.ext HB7_.out).ext HB8_.out
      have hl7 : wd.heap.size < w7_.heap.size := Nat.lt_of_lt_of_le hl9 HB7_.out.size
      have TD := Lib.hid (BoxT.early (w := w6) (e := 0) HT6.out hl7 hx9 hHeld.2 hd9)
      obtain ⟨r0, r1, r2, r3, rf⟩ := hx9.four
      refine held_c 10 fun K hK => ?_
      go_simp
      skip
      refine hK.out _ _ (HC.out _ (Below.set4 hHeld.2 hd9 _ _ _ _)) (fun hHeld => ?_)
      clear hK K
      try simp only [Act.put, List.setIfInBounds_toArray, List.set_cons_zero, List.set_cons_succ]
      first | (refine held_t (i := 11) hHeld ?_; apply Exists.intro; refine ⟨fun wq hq => ?_, ?_⟩; (focus ((try dsimp only at hq); go_simp; (first | done | with_reducible rfl | fail)))) | refine held_s (i := 11) hHeld ?_ | fail
      first | (refine held_t (i := 12) hHeld ?_; apply Exists.intro; refine ⟨fun wq hq => ?_, ?_⟩; (focus ((try dsimp only at hq); go_simp; (first | done | with_reducible rfl | fail)))) | refine held_s (i := 12) hHeld ?_ | fail
      try simp only [Act.put, List.setIfInBounds_toArray, List.set_cons_zero, List.set_cons_succ]
      refine wpAnyH_done (by kernel_rfl) ?_ _
      clear hHeld r0 r1 r2 r3 rf
      go_wp2
      all_goals go_meet
      exact ⟨rfl, TD.out⟩
  case rest =>
    obtain ⟨rfl, hcc⟩ := hcut
    obtain ⟨d, k9, n9, s9_, a9, m9, c9, rfl, hx9, ht9, rfl, hb9⟩ := hcc.out
    have HB9 := Lib.hid (HB6.out.trans (hb9.mono HB6.out.size))
    have HX9 := Lib.hid (And.intro (HX6.out.1.ext hb9) (And.intro (HX6.out.2.ext hb9) hx9))
    have HT9 := Lib.hid (And.intro (HV.out wc HB9.out) (And.intro (TmV.ext hb9 _ _ HP6.out) ht9))
    clear hx9 ht9 hb9 hcc HC HFP HVT DX HEQ3
    generalize wc = w10 at *
    (go_wp2_with fail; go_fit (binds13_at (V := w10) (Stays.refl w10) NN (by omega)); rintro e w11 ⟨pb, rfl, h6⟩)
    obtain ⟨F, hI, hF, hB⟩ := h6
    obtain ⟨bt, rfl⟩ : ∃ bt, pb = .pointer (some ⟨bt, 0, none⟩) := by obtain ⟨bt, _, _, _, rfl, _⟩ := hI.open; exact ⟨bt, rfl⟩
    have hst : Stays w10 (hide (awayB F) w11) := IsB.old (V := w10) (p := .pointer (some ⟨bt, 0, none⟩)) (N := NN) (R := []) hF hB
    have hI11 := hI.rebase
    have HVT := Lib.hid (And.intro (TmV.stay hst _ _ HT9.out.1) (And.intro (TmV.stay hst _ _ HT9.out.2.1) (TmV.stay hst _ _ HT9.out.2.2)))
    have HVC := Lib.hid (show (∀ j u, [Value.int .i64 k, .int .i64 n, .string s, .slice a m c][j]? = some u → (hide (awayB F) w11).cell? ⟨W.heap.size, j, none⟩ = some u) ∧ (∀ j u, [Value.int .i64 k3, .int .i64 n3, .string s3, .slice a3 m3 c3][j]? = some u → (hide (awayB F) w11).cell? ⟨b3, j, none⟩ = some u) ∧ (∀ j u, [Value.int .i64 k9, .int .i64 n9, .string s9_, .slice a9 m9 c9][j]? = some u → (hide (awayB F) w11).cell? ⟨d, j, none⟩ = some u) from ⟨fun j u hj => hst.2 _ _ (HX9.out.1.cells j u hj), fun j u hj => hst.2 _ _ (HX9.out.2.1.cells j u hj), fun j u hj => hst.2 _ _ (HX9.out.2.2.cells j u hj)⟩)
    have HB11 := Lib.hid (And.intro (HB9.out.trans (hB.mono HB9.out.size)) (fun k hk => Nat.le_trans HB9.out.size (hF k hk) : ∀ k ∈ F, W.heap.size ≤ k))
    clear hst hI hF hB HX9 HT9
    generalize hide (awayB F) w11 = V at *
    have HI11 := Lib.hid hI11
    clear hI11
    have C := Both_at HI11.out (S := []) trivial HVT.out.2.1 HVT.out.2.1
    rw [← HNN.out, HF.out.one, HNN.out] at C
    have y0 := HI11.out.see.1.2 _ _ (HVC.out.2.1 0 _ rfl)
    have y1 := HI11.out.see.1.2 _ _ (HVC.out.2.1 1 _ rfl)
    have y2 := HI11.out.see.1.2 _ _ (HVC.out.2.1 2 _ rfl)
    have y3 := HI11.out.see.1.2 _ _ (HVC.out.2.1 3 _ rfl)
    (go_wp2_with fail; go_fit (C); rintro e w12 ⟨F12, R12, rfl, i12, s12, t12, in12⟩)
    have H12 := Lib.hid (show IsB V F12 w12 _ NN R12 ∧ Sync R12 [] ∧ Below W.heap.size W w12 ∧ ∀ k ∈ F12, W.heap.size ≤ k from ⟨i12, s12, Touch.own HB11.out.1 t12 HB11.out.2, fun k hk => (in12 k hk).elim (HB11.out.2 k) (fun h => Nat.le_trans HB11.out.1.size h)⟩)
    clear i12 s12 t12 in12 C y0 y1 y2 y3
    have C := Mark_at H12.out.1
    rw [sync_nil H12.out.2.1] at C
    (go_wp2_with fail; go_fit (C); rintro e w12' ⟨rfl, rfl⟩)
    clear C
    have C := Both_at H12.out.1 (S := []) H12.out.2.1 HVT.out.2.1 HVT.out.2.2
    rw [← HNN.out, HF.out.two, HNN.out] at C
    have y0 := H12.out.1.see.1.2 _ _ (HVC.out.2.1 0 _ rfl)
    have y1 := H12.out.1.see.1.2 _ _ (HVC.out.2.1 1 _ rfl)
    have y2 := H12.out.1.see.1.2 _ _ (HVC.out.2.1 2 _ rfl)
    have y3 := H12.out.1.see.1.2 _ _ (HVC.out.2.1 3 _ rfl)
    have v0 := H12.out.1.see.1.2 _ _ (HVC.out.2.2 0 _ rfl)
    have v1 := H12.out.1.see.1.2 _ _ (HVC.out.2.2 1 _ rfl)
    have v2 := H12.out.1.see.1.2 _ _ (HVC.out.2.2 2 _ rfl)
    have v3 := H12.out.1.see.1.2 _ _ (HVC.out.2.2 3 _ rfl)
    (go_wp2_with fail; go_fit (C); rintro e w13 ⟨F13, R13, rfl, i13, s13, t13, in13⟩)
    have H13 := Lib.hid (show IsB V F13 w13 _ NN R13 ∧ Sync R13 S ∧ Below W.heap.size W w13 from ⟨i13, s13, Touch.own H12.out.2.2.1 t13 H12.out.2.2.2⟩)
    clear i13 s13 t13 in13 C y0 y1 y2 y3 v0 v1 v2 v3
    have C := Whole_at H13.out.1 HVT.out.2.2
    rw [H13.out.2.1.wholeB, ← HNN.out, HF.out.whole] at C
    have v0 := H13.out.1.see.1.2 _ _ (HVC.out.2.2 0 _ rfl)
    have v1 := H13.out.1.see.1.2 _ _ (HVC.out.2.2 1 _ rfl)
    have v2 := H13.out.1.see.1.2 _ _ (HVC.out.2.2 2 _ rfl)
    have v3 := H13.out.1.see.1.2 _ _ (HVC.out.2.2 3 _ rfl)
    (go_wp2_with fail; go_fit (C); rintro e w14 ⟨r, rfl, hr, b14⟩)
    obtain ⟨k14, n14, s14, a14, m14, c14, rfl, f1, f2, f3, f4⟩ := four_of hr
    obtain ⟨w15, e15, b15, z15, x15⟩ := box_new w14 #[.int .i64 k14, .int .i64 n14, .string s14, .slice a14 m14 c14] 31
    have hb15 := Ext.trans' b14 b15
    have HB15 := Lib.hid (And.intro (H13.out.2.2.trans (hb15.mono H13.out.2.2.size)) hb15)
    have HX15 := Lib.hid (And.intro x15 (TmV.ext b15 _ _ hr.bare))
    have HE15 := Lib.hid e15
    clear f1 f2 f3 f4 hr b14 b15 z15 x15 e15 C v0 v1 v2 v3 hb15
    go_upto_region 14 with fail
    (try rw [HE15.out])
    have HV15 := Lib.hid (H13.out.1.ext HB15.out.2)
    obtain ⟨v0, v1, v2, v3, _⟩ := HX15.out.1.four
    have y0 := HV15.out.see.1.2 _ _ (HVC.out.2.1 0 _ rfl)
    have y1 := HV15.out.see.1.2 _ _ (HVC.out.2.1 1 _ rfl)
    have y2 := HV15.out.see.1.2 _ _ (HVC.out.2.1 2 _ rfl)
    have y3 := HV15.out.see.1.2 _ _ (HVC.out.2.1 3 _ rfl)
    have C := Same_at HX15.out.2 (TmV.stay HV15.out.see.1 _ _ HVT.out.2.1)
    rw [HF.out.goodp, same_self] at C
    (go_wp2_with fail; go_fit (C); rintro e w16 ⟨rfl, b16⟩)
    have HV16 := Lib.hid (HV15.out.ext b16)
    have HB16 := Lib.hid (HB15.out.1.trans (b16.mono HB15.out.1.size))
    clear b16 C v0 v1 v2 v3 y0 y1 y2 y3
    have x0 := HV16.out.see.1.2 _ _ (HVC.out.1 0 _ rfl)
    have x1 := HV16.out.see.1.2 _ _ (HVC.out.1 1 _ rfl)
    have x2 := HV16.out.see.1.2 _ _ (HVC.out.1 2 _ rfl)
    have x3 := HV16.out.see.1.2 _ _ (HVC.out.1 3 _ rfl)
    have C := Could_at t t w16 _ _ (TmV.stay HV16.out.see.1 _ _ HVT.out.1) (TmV.stay HV16.out.see.1 _ _ HVT.out.1)
    rw [HF.out.could] at C
    (go_wp2_with fail; go_fit (C); rintro e w17 ⟨rfl, b17⟩)
    have HB17 := Lib.hid (HB16.out.trans (b17.mono HB16.out.size))
    clear b17 C
    go_wp2
    go_ret
    exact ⟨rfl, HB17.out⟩
end Go.Proofs.Ytbbbgijlbcmpbaa
/- AliasSelf: a term of at most 200 parts can be made alike with itself, which binds nothing, and with itself by other names, which makes the other it; and could be alike with itself: for every input the law answers true. No condition. -/
namespace Go.Proofs.Ytbbbgijlbcmpbaa
open Go.RowKit
namespace aliasSelf
open Go.ChangeShapes Go.WideShapes Go.ChangeAt Go.RowKit
theorem own : ownKnob Try.prog.godebug = none := by kernel_rfl
theorem laidOut : laidOutB Try.prog = true := by kernel_rfl
set_option linter.unusedVariables false
set_option maxRecDepth 100000 in
theorem lifted (os : Os) (started : os.Started) (H : Type) (enc : TypeId × Value → H) :
    ReturnsInHanded {} Try.checked os 13 .any (Rows.aliasSelfSpec.pre6 enc Try.prog Try.f13 Rows.aliasSelfRow.domain false) (Rows.aliasSelfSpec.post enc Try.prog Try.f13 false true false false) := by
  refine returnsInHanded_of_change_sized (C := Try.checked) own started (by kernel_rfl) Try.func13
    (ChangeSpec.witness6 (enc := enc) (C := Try.checked) false ⟨#[], #[.agg #[.int .i64 0,.int .i64 0,.string ⟨#[]⟩,.slice none 0 0]], []⟩ 8 (by kernel_rfl) (by kernel_rfl) (by kernel_rfl) (by kernel_rfl)) ?_
  intro W base args ds gs before hval0 hW hcnd hsz0 _
  have hval : ∀ (j : Nat) t v, Try.f13.params[j]? = some t → args[j]? = some v → Value.okWide Try.prog W .any base t v := hval0
  have hW' := hW
  obtain ⟨p, q, hA0, hV, rfl, hfz, hnd⟩ := hW
  have hA : DataW.TrodAll enc Try.prog W 0 (fun _ => true) true Try.f13.params.toList args.toList ds p := hA0
  have hsz : (DataW.weightsEach Try.prog (Try.f13.params.toList ++ []) (ds ++ gs)).all (· ≤ reachBytes) = true := hsz0
  rw [Try.params13] at hA hval hsz
  obtain ⟨v0, vs0, d0, ds0, p0, q0, hargs, rfl, rfl, h0, r0⟩ := trodAll_cons hA
  obtain ⟨rfl, rfl, rfl⟩ := trodAll_nil r0
  obtain rfl : args = #[v0] := by cases args; simp_all
  obtain ⟨rfl, rfl⟩ := trodVars_none hV
  clear hA0 hval0 hsz0
  have k0 := h0
  have lt0 := lt_of_trod h0
  obtain ⟨a0, w0⟩ := term_of_trod h0 (hval 0 31 v0 rfl rfl) (weights_ok hsz (j := 0) (t := 31) (d := d0) rfl rfl)
  refine (self_walk w0).mono fun e W' ⟨he, bel⟩ => ?_
  subst he
  exact ⟨_, rfl, _, _, _, [], _, [], hW', trodAll_mk1 (shut_bool Try.underlying4 _), (trodAll_cons_mk (Below.trod laidOut (by kernel_rfl) (of_decide_eq_true (by kernel_rfl)) k0 bel lt0) trodAll_mk0), rfl, bel.frame _, fun h => by cases h⟩
theorem proved : Rows.AliasSelfSaid :=
  OpenClaim.holds_of_wide 13 Try.f13 rfl rfl rfl rfl rfl rfl rfl ⟨rfl, rfl, rfl, rfl, rfl⟩ rfl rfl rfl rfl rfl (by kernel_rfl) Try.func13 (by kernel_rfl)
    (of_decide_eq_true (by kernel_rfl)) (by unfold Func.isWrapper; first | (rw [if_pos (by decide +kernel)]; kernel_rfl) | (rw [if_neg (by decide +kernel)]; exact ⟨rfl, rfl⟩))
    (fun os started H enc _ => lifted os started H enc)
#print axioms proved
end aliasSelf

end Go.Proofs.Ytbbbgijlbcmpbaa
