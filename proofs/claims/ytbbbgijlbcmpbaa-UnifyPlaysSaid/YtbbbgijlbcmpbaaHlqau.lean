import Derived.Test.YtbbbgijlbcmpbaaHlqat
import Derived.Test.YtbbbgijlbcmpbaaHlqap
import Derived.Test.YtbbbgijlbcmpbaaHlqaq
set_option linter.unusedVariables false
set_option linter.unusedSimpArgs false
/- Package unify: Could, walked. -/
namespace Go.Proofs.Ytbbbgijlbcmpbaa
open Go.RowKit Go.Maps
set_option linter.unusedVariables false

set_option maxHeartbeats 8000000 in
set_option maxRecDepth 100000 in
theorem Could_at (x y : Tm) (w : World) (vx vy : Value) (hvx : TmV w x vx) (hvy : TmV w y vy) : Calls Try.prog 44 #[vx, vy] w fun e w' => e = .returned (.bool (couldB x y)) ∧ Below w.heap.size w w' := by
  have hmm := @run_makeMap Try.prog
  obtain ⟨k, n, s, a, m, c, rfl⟩ := hvx.full
  obtain ⟨k', n', s', a', m', c', rfl⟩ := hvy.full
  obtain ⟨w1, e1, B1, z1, X1⟩ := box_new w #[.int .i64 k, .int .i64 n, .string s, .slice a m c] 31
  obtain ⟨w2, e2, B2, z2, X2⟩ := box_new w1 #[.int .i64 k', .int .i64 n', .string s', .slice a' m' c'] 31
  have X1 := X1.ext B2
  have B12 := Ext.trans' B1 B2
  rw [z1] at X2 z2
  obtain ⟨x0, x1, x2, x3, _⟩ := X1.four
  obtain ⟨y0, y1, y2, y3, _⟩ := X2.four
  have HE := Lib.hid (And.intro e1 e2)
  have HB2 := Lib.hid (And.intro B12 (And.intro X1 (And.intro X2 z2)))
  have HV := Lib.hid (And.intro hvx hvy)
  have C := Good_at x w2 _ (TmV.ext B12 _ _ hvx)
  have HGY := Lib.hid (fun (wq : World) (hb : Below w.heap.size w wq) => Good_at y wq _ (TmV.ext hb _ _ hvy))
  clear B1 B2 z1 e1 e2 B12 X1 X2 hvx hvy z2
  cases hgx : goodT x
  · have hr : couldB x y = false := by unfold couldB; rw [hgx]; rfl
    rw [hr]
    rw [hgx] at C
    clear hr hgx hmm
    go_enter Try.func44, Try.ntmps44
    go_upto_region 1 with fail
    (try rw [HE.out.1, HE.out.2])
    (go_wp2_with fail; go_fit (C); rintro e w3 ⟨rfl, b3⟩)
    have HB3 := Lib.hid (Ext.trans' HB2.out.1 b3)
    clear b3 C
    go_wp2
    go_ret
    exact ⟨rfl, HB3.out⟩
  · rw [hgx] at C
    cases hgy : goodT y
    · have hr : couldB x y = false := by unfold couldB; rw [hgx, hgy]; rfl
      rw [hr]
      rw [hgy] at HGY
      clear hr hgx hgy hmm
      go_enter Try.func44, Try.ntmps44
      go_upto_region 1 with fail
      (try rw [HE.out.1, HE.out.2])
      (go_wp2_with fail; go_fit (C); rintro e w3 ⟨rfl, b3⟩)
      have HB3 := Lib.hid (Ext.trans' HB2.out.1 b3)
      obtain ⟨y0, y1, y2, y3, _⟩ := (HB2.out.2.2.1.ext b3).four
      clear b3 C
      have C := HGY.out w3 HB3.out
      (go_wp2_with fail; go_fit (C); rintro e w4 ⟨rfl, b4⟩)
      have HB4 := Lib.hid (Ext.trans' HB3.out b4)
      clear b4 C
      go_wp2
      go_ret
      exact ⟨rfl, HB4.out⟩
    · rw [hgy] at HGY
      obtain ⟨Lx, hlx⟩ : ∃ L, numV x = L := ⟨_, rfl⟩
      obtain ⟨Ly, hly⟩ : ∃ L, numV y = L := ⟨_, rfl⟩
      have hLx := numV_le x
      have hLy := numV_le y
      rw [hlx] at hLx
      rw [hly] at hLy
      have hr : couldB x y = (bothB (Lx + Ly) [] (renT 0 x) (renT Lx y)).ok := by unfold couldB; rw [hgx, hgy, hlx, hly]; rfl
      rw [hr]
      have hvx2 : (varsT x []).length = Lx := by rw [← hlx]; unfold numV; rw [hgx, if_pos rfl]
      have hvy2 : (varsT y []).length = Ly := by rw [← hly]; unfold numV; rw [hgy, if_pos rfl]
      have HL := Lib.hid (And.intro hvx2 (And.intro hvy2 (And.intro (good_parts hgx).2.2 (good_parts hgy).2.2)))
      obtain ⟨BR, hbr⟩ : ∃ B, bothB (Lx + Ly) [] (renT 0 x) (renT Lx y) = B := ⟨_, rfl⟩
      have HBR := Lib.hid hbr
      rw [hbr]
      clear hr hgx hgy hlx hly hvx2 hvy2 hbr
      go_enter Try.func44, Try.ntmps44
      go_upto_region 1 with fail
      (try rw [HE.out.1, HE.out.2])
      (go_wp2_with fail; go_fit (C); rintro e w3 ⟨rfl, b3⟩)
      have HB3 := Lib.hid (Ext.trans' HB2.out.1 b3)
      have HX3 := Lib.hid (And.intro (HB2.out.2.1.ext b3) (HB2.out.2.2.1.ext b3))
      clear b3 C x0 x1 x2 x3 y0 y1 y2 y3
      obtain ⟨y0, y1, y2, y3, _⟩ := HX3.out.2.four
      have C := HGY.out w3 HB3.out
      (go_wp2_with fail; go_fit (C); rintro e w4 ⟨rfl, b4⟩)
      have HB4 := Lib.hid (Ext.trans' HB3.out b4)
      have HX4 := Lib.hid (And.intro (HX3.out.1.ext b4) (HX3.out.2.ext b4))
      clear b4 C y0 y1 y2 y3
      have C := New_at (V := w) ((Stays.refl w).later HB4.out)
      (go_wp2_with fail; go_fit (C); rintro e w5 ⟨p, F, rfl, i5, b5, f5⟩)
      have hz4 : w.heap.size + 2 ≤ w4.heap.size := HX4.out.2.lt
      have H5 := Lib.hid (show CB w p 0 [.int .i64 k, .int .i64 n, .string s, .slice a m c] [.int .i64 k', .int .i64 n', .string s', .slice a' m' c'] [] F w5 from ⟨i5, fun k hk => by have := f5 k hk; omega, Ext.trans' HB4.out b5, HX4.out.1.ext b5, HX4.out.2.ext b5, fun q hq => by cases hq⟩)
      have hz5 : w.heap.size + 2 ≤ w5.heap.size := Nat.le_trans hz4 b5.size
      clear i5 b5 f5 C hz4
      have HCC := Lib.hid (fun (wq : World) (hx : Box wq w.heap.size [.int .i64 k, .int .i64 n, .string s, .slice a m c]) (hy : Box wq (w.heap.size + 1) [.int .i64 k', .int .i64 n', .string s', .slice a' m' c']) => (show (wq.cell? ⟨w.heap.size, 0, none⟩ = some (.int .i64 k) ∧ wq.cell? ⟨w.heap.size, 1, none⟩ = some (.int .i64 n) ∧ wq.cell? ⟨w.heap.size, 2, none⟩ = some (.string s) ∧ wq.cell? ⟨w.heap.size, 3, none⟩ = some (.slice a m c)) ∧ (wq.cell? ⟨w.heap.size + 1, 0, none⟩ = some (.int .i64 k') ∧ wq.cell? ⟨w.heap.size + 1, 1, none⟩ = some (.int .i64 n') ∧ wq.cell? ⟨w.heap.size + 1, 2, none⟩ = some (.string s') ∧ wq.cell? ⟨w.heap.size + 1, 3, none⟩ = some (.slice a' m' c')) from by
        obtain ⟨p0, p1, p2, p3, _⟩ := hx.four
        obtain ⟨q0, q1, q2, q3, _⟩ := hy.four
        exact ⟨⟨p0, p1, p2, p3⟩, q0, q1, q2, q3⟩))
      have HCB := Lib.hid (fun (wq : World) (N : Nat) (ms : List (Nat × Nat)) (G : List Nat) (h : CB w p N [.int .i64 k, .int .i64 n, .string s, .slice a m c] [.int .i64 k', .int .i64 n', .string s', .slice a' m' c'] ms G wq) => HCC.out wq h.2.2.2.1 h.2.2.2.2.1)
      go_upto_region 4 with fail
      refine wp_region_held_drew (S := fun wq => (wq.cell? ⟨w.heap.size, 0, none⟩ = some (.int .i64 k) ∧ wq.cell? ⟨w.heap.size, 1, none⟩ = some (.int .i64 n) ∧ wq.cell? ⟨w.heap.size, 2, none⟩ = some (.string s) ∧ wq.cell? ⟨w.heap.size, 3, none⟩ = some (.slice a m c)) ∧ (wq.cell? ⟨w.heap.size + 1, 0, none⟩ = some (.int .i64 k') ∧ wq.cell? ⟨w.heap.size + 1, 1, none⟩ = some (.int .i64 n') ∧ wq.cell? ⟨w.heap.size + 1, 2, none⟩ = some (.string s') ∧ wq.cell? ⟨w.heap.size + 1, 3, none⟩ = some (.slice a' m' c'))) (by kernel_rfl) (HCB.out _ _ _ _ (H5.out.ext (Below.refl _ _).drew)) (fun hHeld => ?_)
      first | (refine held_t (i := 0) hHeld ?_; apply Exists.intro; refine ⟨fun wq hq => ?_, ?_⟩; (focus ((try dsimp only at hq); go_simp; (first | done | with_reducible rfl | fail)))) | refine held_s (i := 0) hHeld ?_ | fail
      first | (refine held_t (i := 1) hHeld ?_; apply Exists.intro; refine ⟨fun wq hq => ?_, ?_⟩; (focus ((try dsimp only at hq); go_simp; (first | done | with_reducible rfl | fail)))) | refine held_s (i := 1) hHeld ?_ | fail
      first | (refine held_t (i := 2) hHeld ?_; apply Exists.intro; refine ⟨fun wq hq => ?_, ?_⟩; (focus ((try dsimp only at hq); go_simp; (first | done | with_reducible rfl | fail)))) | refine held_s (i := 2) hHeld ?_ | fail
      first | (refine held_t (i := 5) hHeld ?_; apply Exists.intro; refine ⟨fun wq hq => ?_, ?_⟩; (focus ((try dsimp only at hq); go_simp; (first | done | with_reducible rfl | fail)))) | refine held_s (i := 5) hHeld ?_ | fail
      first | (refine held_t (i := 6) hHeld ?_; apply Exists.intro; refine ⟨fun wq hq => ?_, ?_⟩; (focus ((try dsimp only at hq); go_simp; (first | done | with_reducible rfl | fail)))) | refine held_s (i := 6) hHeld ?_ | fail
      try simp only [Act.put, List.setIfInBounds_toArray, List.set_cons_zero, List.set_cons_succ]
      obtain ⟨wd, hwd⟩ : ∃ wd, w5.drew = wd := ⟨_, rfl⟩
      have HD := Lib.hid (show CB w p 0 [.int .i64 k, .int .i64 n, .string s, .slice a m c] [.int .i64 k', .int .i64 n', .string s', .slice a' m' c'] [] F wd from by rw [← hwd]; exact H5.out.ext (Below.refl _ _).drew)
      have hzd : w.heap.size + 2 ≤ wd.heap.size := by rw [← hwd]; exact hz5
      rw [hwd] at hHeld ⊢
      clear hwd
      refine wpAnyH_ready (rs := [3, 7]) (by kernel_rfl) (by simp) ?_
      refine AllReadyH.cons (by simp only [List.getElem?_toArray, List.getElem?_cons_zero, List.getElem?_cons_succ]; rfl) (fun K hK => ?_) (AllReadyH.cons (by simp only [List.getElem?_toArray, List.getElem?_cons_zero, List.getElem?_cons_succ]; rfl) (fun K hK => ?_) AllReadyH.nil)
      · have HA0 := Lib.hid (HD.out.map 0 hzd)
        go_simp
        skip
        refine hK.out _ _ (HCB.out _ _ _ _ HA0.out) (fun hHeld => ?_)
        clear hK K
        try simp only [Act.put, List.setIfInBounds_toArray, List.set_cons_zero, List.set_cons_succ]
        obtain ⟨wa, ewa⟩ : ∃ q, wd.alloc (.map #[] 0) = q := ⟨_, rfl⟩
        have HA := HA0
        rw [ewa] at HA hHeld ⊢
        have hza : w.heap.size + 2 ≤ wa.heap.size := by rw [← ewa]; exact Nat.le_trans hzd (bel1' wd _).size
        have hswa : wd.heap.size < wa.heap.size := by rw [← ewa]; simp
        have hbwa : Below wd.heap.size wd wa := by rw [← ewa]; exact bel1' wd _
        clear ewa HA0
        refine wpAnyH_ready (rs := [4, 7]) (by kernel_rfl) (by simp) ?_
        refine AllReadyH.cons (by simp only [List.getElem?_toArray, List.getElem?_cons_zero, List.getElem?_cons_succ]; rfl) (fun K hK => ?_) (AllReadyH.cons (by simp only [List.getElem?_toArray, List.getElem?_cons_zero, List.getElem?_cons_succ]; rfl) (fun K hK => ?_) AllReadyH.nil)
        · have CH6 := HA.out.apart (fun q hq => by simp at hq <;> (try (subst hq; simp; omega))) HV.out.1 HL.out.2.2.1 (K := Lx) (by rw [HL.out.1]; omega) (by omega)
          go_simp
          (go_at_call 83; refine CH6.mono ?_; rintro e w6 ⟨F6, r6, rfl, c_, t_, tt_, in_⟩; have H6 := Lib.hid c_; have TH6 := Lib.hid (And.intro t_ (And.intro tt_ in_)); clear c_ t_ tt_ in_)
          refine hK.out _ _ (HCB.out _ _ _ _ H6.out) (fun hHeld => ?_)
          clear hK K
          try simp only [Act.put, List.setIfInBounds_toArray, List.set_cons_zero, List.set_cons_succ]
          have hz6 : w.heap.size + 2 ≤ w6.heap.size := Nat.le_trans hza TH6.out.2.1.size
          clear CH6
          have HB0 := Lib.hid (H6.out.map Lx hz6)
          refine held_c 7 fun K hK => ?_
          go_simp
          skip
          refine hK.out _ _ (HCB.out _ _ _ _ HB0.out) (fun hHeld => ?_)
          clear hK K
          try simp only [Act.put, List.setIfInBounds_toArray, List.set_cons_zero, List.set_cons_succ]
          obtain ⟨wb, ewb⟩ : ∃ q, w6.alloc (.map #[] 0) = q := ⟨_, rfl⟩
          have HB := HB0
          rw [ewb] at HB hHeld ⊢
          have hzb : w.heap.size + 2 ≤ wb.heap.size := by rw [← ewb]; exact Nat.le_trans hz6 (bel1' w6 _).size
          have hswb : w6.heap.size < wb.heap.size := by rw [← ewb]; simp
          have hbwb : Below w6.heap.size w6 wb := by rw [← ewb]; exact bel1' w6 _
          clear ewb HB0
          have CH8 := HB.out.apart (fun q hq => by simp at hq <;> (try (subst hq; simp; omega))) HV.out.2 HL.out.2.2.2 (K := (Lx + Ly)) (by rw [HL.out.2.1]) (by omega)
          refine held_c 8 fun K hK => ?_
          go_simp
          (go_at_call 83; refine CH8.mono ?_; rintro e w8 ⟨F8, r8, rfl, c_, t_, tt_, in_⟩; have H8 := Lib.hid c_; have TH8 := Lib.hid (And.intro t_ (And.intro tt_ in_)); clear c_ t_ tt_ in_)
          refine hK.out _ _ (HCB.out _ _ _ _ H8.out) (fun hHeld => ?_)
          clear hK K
          try simp only [Act.put, List.setIfInBounds_toArray, List.set_cons_zero, List.set_cons_succ]
          have hz8 : w.heap.size + 2 ≤ w8.heap.size := Nat.le_trans hzb TH8.out.2.1.size
          clear CH8
          have tx := apart_later TH6.out.1 hbwb (Or.inr (Nat.le_refl _)) TH8.out.2.1 TH8.out.2.2
          have ty := TmV.stay (Stays.less (D' := awayB F8) fun q hq => by obtain ⟨_, h2⟩ := newU_false.1 hq; simpa [awayB] using h2) _ _ TH8.out.1
          have C9 := H8.out.both tx ty
          rw [show bothB (Lx + Ly) [] (renT ((0 : Nat) : Int) x) (renT (Lx : Int) y) = BR from HBR.out] at C9
          clear tx ty
          refine held_c 9 fun K hK => ?_
          go_simp
          (go_at_call 42; refine C9.mono ?_; rintro e w9 ⟨rfl, b9, p9, q9⟩; have HB9 := Lib.hid b9; clear b9)
          refine hK.out _ _ (HCC.out _ p9 q9) (fun hHeld => ?_)
          clear hK K
          try simp only [Act.put, List.setIfInBounds_toArray, List.set_cons_zero, List.set_cons_succ]
          clear p9 q9 C9
          first | (refine held_t (i := 10) hHeld ?_; apply Exists.intro; refine ⟨fun wq hq => ?_, ?_⟩; (focus ((try dsimp only at hq); go_simp; (first | done | with_reducible rfl | fail)))) | refine held_s (i := 10) hHeld ?_ | fail
          first | (refine held_t (i := 11) hHeld ?_; apply Exists.intro; refine ⟨fun wq hq => ?_, ?_⟩; (focus ((try dsimp only at hq); go_simp; (first | done | with_reducible rfl | fail)))) | refine held_s (i := 11) hHeld ?_ | fail
          first | (refine held_t (i := 12) hHeld ?_; apply Exists.intro; refine ⟨fun wq hq => ?_, ?_⟩; (focus ((try dsimp only at hq); go_simp; (first | done | with_reducible rfl | fail)))) | refine held_s (i := 12) hHeld ?_ | fail
          first | (refine held_t (i := 13) hHeld ?_; apply Exists.intro; refine ⟨fun wq hq => ?_, ?_⟩; (focus ((try dsimp only at hq); go_simp; (first | done | with_reducible rfl | fail)))) | refine held_s (i := 13) hHeld ?_ | fail
          first | (refine held_t (i := 14) hHeld ?_; apply Exists.intro; refine ⟨fun wq hq => ?_, ?_⟩; (focus ((try dsimp only at hq); go_simp; (first | done | with_reducible rfl | fail)))) | refine held_s (i := 14) hHeld ?_ | fail
          first | (refine held_t (i := 15) hHeld ?_; apply Exists.intro; refine ⟨fun wq hq => ?_, ?_⟩; (focus ((try dsimp only at hq); go_simp; (first | done | with_reducible rfl | fail)))) | refine held_s (i := 15) hHeld ?_ | fail
          first | (refine held_t (i := 16) hHeld ?_; apply Exists.intro; refine ⟨fun wq hq => ?_, ?_⟩; (focus ((try dsimp only at hq); go_simp; (first | done | with_reducible rfl | fail)))) | refine held_s (i := 16) hHeld ?_ | fail
          try simp only [Act.put, List.setIfInBounds_toArray, List.set_cons_zero, List.set_cons_succ]
          refine wpAnyH_done (by kernel_rfl) ?_ _
          clear hHeld
          go_wp2
          go_ret
          exact ⟨rfl, HB9.out⟩
        · have HB0 := Lib.hid (HA.out.map Lx hza)
          go_simp
          skip
          refine hK.out _ _ (HCB.out _ _ _ _ HB0.out) (fun hHeld => ?_)
          clear hK K
          try simp only [Act.put, List.setIfInBounds_toArray, List.set_cons_zero, List.set_cons_succ]
          obtain ⟨wb, ewb⟩ : ∃ q, wa.alloc (.map #[] 0) = q := ⟨_, rfl⟩
          have HB := HB0
          rw [ewb] at HB hHeld ⊢
          have hzb : w.heap.size + 2 ≤ wb.heap.size := by rw [← ewb]; exact Nat.le_trans hza (bel1' wa _).size
          have hswb : wa.heap.size < wb.heap.size := by rw [← ewb]; simp
          have hbwb : Below wa.heap.size wa wb := by rw [← ewb]; exact bel1' wa _
          clear ewb HB0
          have CH6 := (CB.swap HB.out).apart (fun q hq => by simp at hq <;> (try (subst hq; simp; omega))) HV.out.1 HL.out.2.2.1 (K := Lx) (by rw [HL.out.1]; omega) (by omega)
          refine held_c 4 fun K hK => ?_
          go_simp
          (go_at_call 83; refine CH6.mono ?_; rintro e w6 ⟨F6, r6, rfl, c_, t_, tt_, in_⟩; have H6 := Lib.hid c_; have TH6 := Lib.hid (And.intro t_ (And.intro tt_ in_)); clear c_ t_ tt_ in_)
          refine hK.out _ _ (HCB.out _ _ _ _ H6.out) (fun hHeld => ?_)
          clear hK K
          try simp only [Act.put, List.setIfInBounds_toArray, List.set_cons_zero, List.set_cons_succ]
          have hz6 : w.heap.size + 2 ≤ w6.heap.size := Nat.le_trans hzb TH6.out.2.1.size
          clear CH6
          have CH8 := H6.out.apart (fun q hq => by simp at hq <;> (try (subst hq; simp; omega))) HV.out.2 HL.out.2.2.2 (K := (Lx + Ly)) (by rw [HL.out.2.1]) (by omega)
          refine held_c 8 fun K hK => ?_
          go_simp
          (go_at_call 83; refine CH8.mono ?_; rintro e w8 ⟨F8, r8, rfl, c_, t_, tt_, in_⟩; have H8 := Lib.hid c_; have TH8 := Lib.hid (And.intro t_ (And.intro tt_ in_)); clear c_ t_ tt_ in_)
          refine hK.out _ _ (HCB.out _ _ _ _ H8.out) (fun hHeld => ?_)
          clear hK K
          try simp only [Act.put, List.setIfInBounds_toArray, List.set_cons_zero, List.set_cons_succ]
          have hz8 : w.heap.size + 2 ≤ w8.heap.size := Nat.le_trans hz6 TH8.out.2.1.size
          clear CH8
          have tx := apart_later TH6.out.1 (Below.refl _ _) (Or.inl hswb) TH8.out.2.1 TH8.out.2.2
          have ty := TmV.stay (Stays.less (D' := awayB F8) fun q hq => by obtain ⟨_, h2⟩ := newU_false.1 hq; simpa [awayB] using h2) _ _ TH8.out.1
          have C9 := H8.out.both tx ty
          rw [show bothB (Lx + Ly) [] (renT ((0 : Nat) : Int) x) (renT (Lx : Int) y) = BR from HBR.out] at C9
          clear tx ty
          refine held_c 9 fun K hK => ?_
          go_simp
          (go_at_call 42; refine C9.mono ?_; rintro e w9 ⟨rfl, b9, p9, q9⟩; have HB9 := Lib.hid b9; clear b9)
          refine hK.out _ _ (HCC.out _ p9 q9) (fun hHeld => ?_)
          clear hK K
          try simp only [Act.put, List.setIfInBounds_toArray, List.set_cons_zero, List.set_cons_succ]
          clear p9 q9 C9
          first | (refine held_t (i := 10) hHeld ?_; apply Exists.intro; refine ⟨fun wq hq => ?_, ?_⟩; (focus ((try dsimp only at hq); go_simp; (first | done | with_reducible rfl | fail)))) | refine held_s (i := 10) hHeld ?_ | fail
          first | (refine held_t (i := 11) hHeld ?_; apply Exists.intro; refine ⟨fun wq hq => ?_, ?_⟩; (focus ((try dsimp only at hq); go_simp; (first | done | with_reducible rfl | fail)))) | refine held_s (i := 11) hHeld ?_ | fail
          first | (refine held_t (i := 12) hHeld ?_; apply Exists.intro; refine ⟨fun wq hq => ?_, ?_⟩; (focus ((try dsimp only at hq); go_simp; (first | done | with_reducible rfl | fail)))) | refine held_s (i := 12) hHeld ?_ | fail
          first | (refine held_t (i := 13) hHeld ?_; apply Exists.intro; refine ⟨fun wq hq => ?_, ?_⟩; (focus ((try dsimp only at hq); go_simp; (first | done | with_reducible rfl | fail)))) | refine held_s (i := 13) hHeld ?_ | fail
          first | (refine held_t (i := 14) hHeld ?_; apply Exists.intro; refine ⟨fun wq hq => ?_, ?_⟩; (focus ((try dsimp only at hq); go_simp; (first | done | with_reducible rfl | fail)))) | refine held_s (i := 14) hHeld ?_ | fail
          first | (refine held_t (i := 15) hHeld ?_; apply Exists.intro; refine ⟨fun wq hq => ?_, ?_⟩; (focus ((try dsimp only at hq); go_simp; (first | done | with_reducible rfl | fail)))) | refine held_s (i := 15) hHeld ?_ | fail
          first | (refine held_t (i := 16) hHeld ?_; apply Exists.intro; refine ⟨fun wq hq => ?_, ?_⟩; (focus ((try dsimp only at hq); go_simp; (first | done | with_reducible rfl | fail)))) | refine held_s (i := 16) hHeld ?_ | fail
          try simp only [Act.put, List.setIfInBounds_toArray, List.set_cons_zero, List.set_cons_succ]
          refine wpAnyH_done (by kernel_rfl) ?_ _
          clear hHeld
          go_wp2
          go_ret
          exact ⟨rfl, HB9.out⟩
      · have HA0 := Lib.hid (HD.out.map Lx hzd)
        go_simp
        skip
        refine hK.out _ _ (HCB.out _ _ _ _ HA0.out) (fun hHeld => ?_)
        clear hK K
        try simp only [Act.put, List.setIfInBounds_toArray, List.set_cons_zero, List.set_cons_succ]
        obtain ⟨wa, ewa⟩ : ∃ q, wd.alloc (.map #[] 0) = q := ⟨_, rfl⟩
        have HA := HA0
        rw [ewa] at HA hHeld ⊢
        have hza : w.heap.size + 2 ≤ wa.heap.size := by rw [← ewa]; exact Nat.le_trans hzd (bel1' wd _).size
        have hswa : wd.heap.size < wa.heap.size := by rw [← ewa]; simp
        have hbwa : Below wd.heap.size wd wa := by rw [← ewa]; exact bel1' wd _
        clear ewa HA0
        have HB0 := Lib.hid (HA.out.map 0 hza)
        refine held_c 3 fun K hK => ?_
        go_simp
        skip
        refine hK.out _ _ (HCB.out _ _ _ _ HB0.out) (fun hHeld => ?_)
        clear hK K
        try simp only [Act.put, List.setIfInBounds_toArray, List.set_cons_zero, List.set_cons_succ]
        obtain ⟨wb, ewb⟩ : ∃ q, wa.alloc (.map #[] 0) = q := ⟨_, rfl⟩
        have HB := HB0
        rw [ewb] at HB hHeld ⊢
        have hzb : w.heap.size + 2 ≤ wb.heap.size := by rw [← ewb]; exact Nat.le_trans hza (bel1' wa _).size
        have hswb : wa.heap.size < wb.heap.size := by rw [← ewb]; simp
        have hbwb : Below wa.heap.size wa wb := by rw [← ewb]; exact bel1' wa _
        clear ewb HB0
        have CH6 := HB.out.apart (fun q hq => by simp at hq <;> (try (subst hq; simp; omega))) HV.out.1 HL.out.2.2.1 (K := Lx) (by rw [HL.out.1]; omega) (by omega)
        refine held_c 4 fun K hK => ?_
        go_simp
        (go_at_call 83; refine CH6.mono ?_; rintro e w6 ⟨F6, r6, rfl, c_, t_, tt_, in_⟩; have H6 := Lib.hid c_; have TH6 := Lib.hid (And.intro t_ (And.intro tt_ in_)); clear c_ t_ tt_ in_)
        refine hK.out _ _ (HCB.out _ _ _ _ H6.out) (fun hHeld => ?_)
        clear hK K
        try simp only [Act.put, List.setIfInBounds_toArray, List.set_cons_zero, List.set_cons_succ]
        have hz6 : w.heap.size + 2 ≤ w6.heap.size := Nat.le_trans hzb TH6.out.2.1.size
        clear CH6
        have CH8 := H6.out.apart (fun q hq => by simp at hq <;> (try (subst hq; simp; omega))) HV.out.2 HL.out.2.2.2 (K := (Lx + Ly)) (by rw [HL.out.2.1]) (by omega)
        refine held_c 8 fun K hK => ?_
        go_simp
        (go_at_call 83; refine CH8.mono ?_; rintro e w8 ⟨F8, r8, rfl, c_, t_, tt_, in_⟩; have H8 := Lib.hid c_; have TH8 := Lib.hid (And.intro t_ (And.intro tt_ in_)); clear c_ t_ tt_ in_)
        refine hK.out _ _ (HCB.out _ _ _ _ H8.out) (fun hHeld => ?_)
        clear hK K
        try simp only [Act.put, List.setIfInBounds_toArray, List.set_cons_zero, List.set_cons_succ]
        have hz8 : w.heap.size + 2 ≤ w8.heap.size := Nat.le_trans hz6 TH8.out.2.1.size
        clear CH8
        have tx := apart_later TH6.out.1 (Below.refl _ _) (Or.inl (by omega)) TH8.out.2.1 TH8.out.2.2
        have ty := TmV.stay (Stays.less (D' := awayB F8) fun q hq => by obtain ⟨_, h2⟩ := newU_false.1 hq; simpa [awayB] using h2) _ _ TH8.out.1
        have C9 := H8.out.both tx ty
        rw [show bothB (Lx + Ly) [] (renT ((0 : Nat) : Int) x) (renT (Lx : Int) y) = BR from HBR.out] at C9
        clear tx ty
        refine held_c 9 fun K hK => ?_
        go_simp
        (go_at_call 42; refine C9.mono ?_; rintro e w9 ⟨rfl, b9, p9, q9⟩; have HB9 := Lib.hid b9; clear b9)
        refine hK.out _ _ (HCC.out _ p9 q9) (fun hHeld => ?_)
        clear hK K
        try simp only [Act.put, List.setIfInBounds_toArray, List.set_cons_zero, List.set_cons_succ]
        clear p9 q9 C9
        first | (refine held_t (i := 10) hHeld ?_; apply Exists.intro; refine ⟨fun wq hq => ?_, ?_⟩; (focus ((try dsimp only at hq); go_simp; (first | done | with_reducible rfl | fail)))) | refine held_s (i := 10) hHeld ?_ | fail
        first | (refine held_t (i := 11) hHeld ?_; apply Exists.intro; refine ⟨fun wq hq => ?_, ?_⟩; (focus ((try dsimp only at hq); go_simp; (first | done | with_reducible rfl | fail)))) | refine held_s (i := 11) hHeld ?_ | fail
        first | (refine held_t (i := 12) hHeld ?_; apply Exists.intro; refine ⟨fun wq hq => ?_, ?_⟩; (focus ((try dsimp only at hq); go_simp; (first | done | with_reducible rfl | fail)))) | refine held_s (i := 12) hHeld ?_ | fail
        first | (refine held_t (i := 13) hHeld ?_; apply Exists.intro; refine ⟨fun wq hq => ?_, ?_⟩; (focus ((try dsimp only at hq); go_simp; (first | done | with_reducible rfl | fail)))) | refine held_s (i := 13) hHeld ?_ | fail
        first | (refine held_t (i := 14) hHeld ?_; apply Exists.intro; refine ⟨fun wq hq => ?_, ?_⟩; (focus ((try dsimp only at hq); go_simp; (first | done | with_reducible rfl | fail)))) | refine held_s (i := 14) hHeld ?_ | fail
        first | (refine held_t (i := 15) hHeld ?_; apply Exists.intro; refine ⟨fun wq hq => ?_, ?_⟩; (focus ((try dsimp only at hq); go_simp; (first | done | with_reducible rfl | fail)))) | refine held_s (i := 15) hHeld ?_ | fail
        first | (refine held_t (i := 16) hHeld ?_; apply Exists.intro; refine ⟨fun wq hq => ?_, ?_⟩; (focus ((try dsimp only at hq); go_simp; (first | done | with_reducible rfl | fail)))) | refine held_s (i := 16) hHeld ?_ | fail
        try simp only [Act.put, List.setIfInBounds_toArray, List.set_cons_zero, List.set_cons_succ]
        refine wpAnyH_done (by kernel_rfl) ?_ _
        clear hHeld
        go_wp2
        go_ret
        exact ⟨rfl, HB9.out⟩
end Go.Proofs.Ytbbbgijlbcmpbaa
/- Stage 12's laws: UnifyPlays. (gen_unifyplays.py) -/
namespace Go.Proofs.Ytbbbgijlbcmpbaa
open Go.RowKit
set_option linter.unusedVariables false

set_option maxHeartbeats 16000000 in
set_option maxRecDepth 100000 in
theorem unifyPlays_at {W : World} {vl : Value} {l : List PrB} (hl : PrsB W vl l) : Calls Try.prog 7 #[vl] W fun e w' => IsBool W true e w' := by
  obtain ⟨⟨la, lc, rfl, hl1, hl2, hlc⟩, hlok, hlb⟩ := hl
  obtain ⟨m, hm⟩ : ∃ m, l.length = m := ⟨_, rfl⟩
  rw [hm] at hl1 hlb ⊢
  unfold maxLen at hl2
  have HL := Lib.hid (And.intro hlc (And.intro hlok hm))
  clear hlc hlok hm
  go_enter Try.func7, Try.ntmps7
  (go_wp2_with fail; go_fit (uawake_at _); rintro e w2 ⟨rfl, b2⟩)
  have B2 := Lib.hid b2
  clear b2
  by_cases h20 : 20 < m
  · have h20' : (20 : Int) < m := by omega
    go_wp2
    go_ret
    exact ⟨rfl, B2.out⟩
  have h20' : ¬ (20 : Int) < m := by omega
  (go_wp2_with fail; go_fit (both12_at (V := w2) (Stays.refl w2) 8 (by omega)); rintro e w4 ⟨p, q, rfl, h4⟩)
  have H4 := Lib.hid (h4.two B2.out)
  obtain ⟨bq, rfl⟩ : ∃ bq, q = .pointer (some ⟨bq, 0, none⟩) := by obtain ⟨_, _, _, h2, _⟩ := h4; obtain ⟨bt, _, _, _, _, _, _, rfl, _⟩ := h2.open; exact ⟨bt, rfl⟩
  clear h4
  go_wp2_with fail
  go_loopw [5] (fun z wr => ∃ i : Nat, i ≤ m ∧ z = .int .i64 i ∧ Hid (TwoI W wr p (.pointer (some ⟨bq, 0, none⟩)) 8)) (fun z _ => m - (intOf z).toNat)
  case atStart => exact ⟨0, Nat.zero_le _, rfl, H4⟩
  case round =>
    obtain ⟨i, hi, rfl, HM⟩ := hrel
    clear H4
    by_cases him : i < m
    · obtain ⟨y, hy⟩ : ∃ y, l[i]? = some y := ⟨_, List.getElem?_eq_getElem (by rw [HL.out.2.2]; exact him)⟩
      rcases HL.out.1 with hnil | ⟨b, off, rfl, hbw, hc⟩
      · rw [hnil] at hy; simp at hy
      obtain ⟨k, n, s, a, mx, c, k', n', s', a', m', c', htx, hty, c0, c1, c2, c3, c4, c5, c6, c7⟩ := pr_cells hc hy (HL.out.2.1 _ (List.mem_of_getElem? hy))
      obtain ⟨⟨x, ux⟩, ⟨y, uy⟩⟩ := y
      have htx : TmV W x (.agg #[.int .i64 k, .int .i64 n, .string s, .slice a mx c]) := htx
      have hty : TmV W y (.agg #[.int .i64 k', .int .i64 n', .string s', .slice a' m' c']) := hty
      have HTX := Lib.hid (And.intro htx hty)
      have HK := Lib.hid (fun (wq : World) (hb : Below W.heap.size W wq) => (show (wq.cell? ⟨b, off + i * 8, none⟩ = some (.int .i64 k) ∧ wq.cell? ⟨b, off + i * 8 + 1, none⟩ = some (.int .i64 n) ∧ wq.cell? ⟨b, off + i * 8 + 2, none⟩ = some (.string s) ∧ wq.cell? ⟨b, off + i * 8 + 3, none⟩ = some (.slice a mx c) ∧ wq.cell? ⟨b, off + i * 8 + 4, none⟩ = some (.int .i64 k') ∧ wq.cell? ⟨b, off + i * 8 + 4 + 1, none⟩ = some (.int .i64 n') ∧ wq.cell? ⟨b, off + i * 8 + 4 + 2, none⟩ = some (.string s') ∧ wq.cell? ⟨b, off + i * 8 + 4 + 3, none⟩ = some (.slice a' m' c')) ∧ Below W.heap.size W wq from ⟨⟨cell_later hb c0, cell_later hb c1, cell_later hb c2, cell_later hb c3, cell_later hb c4, cell_later hb c5, cell_later hb c6, cell_later hb c7⟩, hb⟩))
      have him2 : (i : Int) < m := by omega
      have HBR := Lib.hid HM.out.bel
      clear hy hc htx hty c0 c1 c2 c3 c4 c5 c6 c7
      obtain ⟨⟨c0, c1, c2, c3, c4, c5, c6, c7⟩, _⟩ := HK.out _ HBR.out
      have C := deep12_at _ x (Nat.le_refl _) 30 (by unfold I64; omega) wr _ (TmV.ext HBR.out _ _ HTX.out.1)
      cases hdx : deepT x 30
      rotate_left
      · rw [hdx] at C
        clear hdx
        (go_wp2_with fail; go_fit (C); rintro e w5 ⟨rfl, b5⟩)
        have HB5 := Lib.hid (HBR.out.trans (b5.mono HBR.out.size))
        clear C b5
        go_wp2
        go_ret
        exact ⟨rfl, HB5.out⟩
      rw [hdx] at C
      clear hdx
      (go_wp2_with fail; go_fit (C); rintro e w5 ⟨rfl, b5⟩)
      have HB5 := Lib.hid (And.intro b5 (HBR.out.trans (b5.mono HBR.out.size)))
      clear C b5 c0 c1 c2 c3 c4 c5 c6 c7
      obtain ⟨⟨c0, c1, c2, c3, c4, c5, c6, c7⟩, _⟩ := HK.out _ HB5.out.2
      have C := deep12_at _ y (Nat.le_refl _) 30 (by unfold I64; omega) w5 _ (TmV.ext HB5.out.2 _ _ HTX.out.2)
      cases hdy : deepT y 30
      rotate_left
      · rw [hdy] at C
        clear hdy
        (go_wp2_with fail; go_fit (C); rintro e w6 ⟨rfl, b6⟩)
        have HB6 := Lib.hid (HB5.out.2.trans (b6.mono HB5.out.2.size))
        clear C b6
        go_wp2
        go_ret
        exact ⟨rfl, HB6.out⟩
      rw [hdy] at C
      clear hdy
      (go_wp2_with fail; go_fit (C); rintro e w6 ⟨rfl, b6⟩)
      have HM6 := Lib.hid (HM.out.ext (Ext.trans' HB5.out.1 b6))
      clear C b6 c0 c1 c2 c3 c4 c5 c6 c7
      obtain ⟨F, F2, R, S, hP, hS, hst⟩ := HM6.out.open
      have HVT := Lib.hid (And.intro (TmV.stay hst _ _ HTX.out.1) (TmV.stay hst _ _ HTX.out.2))
      generalize seenB F F2 w6 = V at *
      have HP := Lib.hid (And.intro hP hS)
      obtain ⟨B, hB⟩ : ∃ B, bothB 8 S x y = B := ⟨_, rfl⟩
      have HBB := Lib.hid hB
      clear hP hS hst hB
      go_wp2_with fail
      refine wp_region_held_drew (S := fun wq => (wq.cell? ⟨b, off + i * 8, none⟩ = some (.int .i64 k) ∧ wq.cell? ⟨b, off + i * 8 + 1, none⟩ = some (.int .i64 n) ∧ wq.cell? ⟨b, off + i * 8 + 2, none⟩ = some (.string s) ∧ wq.cell? ⟨b, off + i * 8 + 3, none⟩ = some (.slice a mx c) ∧ wq.cell? ⟨b, off + i * 8 + 4, none⟩ = some (.int .i64 k') ∧ wq.cell? ⟨b, off + i * 8 + 4 + 1, none⟩ = some (.int .i64 n') ∧ wq.cell? ⟨b, off + i * 8 + 4 + 2, none⟩ = some (.string s') ∧ wq.cell? ⟨b, off + i * 8 + 4 + 3, none⟩ = some (.slice a' m' c')) ∧ Below W.heap.size W wq) (by kernel_rfl) (HK.out _ HP.out.1.bel.drew) (fun hHeld => ?_)
      first | (refine held_t (i := 0) hHeld ?_; apply Exists.intro; refine ⟨fun wq hq => ?_, ?_⟩; (focus ((try dsimp only at hq); go_simp; (first | done | with_reducible rfl | fail)))) | refine held_s (i := 0) hHeld ?_ | fail
      first | (refine held_t (i := 1) hHeld ?_; apply Exists.intro; refine ⟨fun wq hq => ?_, ?_⟩; (focus ((try dsimp only at hq); go_simp; (first | done | with_reducible rfl | fail)))) | refine held_s (i := 1) hHeld ?_ | fail
      first | (refine held_t (i := 2) hHeld ?_; apply Exists.intro; refine ⟨fun wq hq => ?_, ?_⟩; (focus ((try dsimp only at hq); go_simp; (first | done | with_reducible rfl | fail)))) | refine held_s (i := 2) hHeld ?_ | fail
      try simp only [Act.put, List.setIfInBounds_toArray, List.set_cons_zero, List.set_cons_succ]
      first | (refine held_t (i := 3) hHeld ?_; apply Exists.intro; refine ⟨fun wq hq => ?_, ?_⟩; (focus ((try dsimp only at hq); go_simp; (first | done | with_reducible rfl | fail)))) | refine held_s (i := 3) hHeld ?_ | fail
      first | (refine held_t (i := 4) hHeld ?_; apply Exists.intro; refine ⟨fun wq hq => ?_, ?_⟩; (focus ((try dsimp only at hq); go_simp; (first | done | with_reducible rfl | fail)))) | refine held_s (i := 4) hHeld ?_ | fail
      first | (refine held_t (i := 5) hHeld ?_; apply Exists.intro; refine ⟨fun wq hq => ?_, ?_⟩; (focus ((try dsimp only at hq); go_simp; (first | done | with_reducible rfl | fail)))) | refine held_s (i := 5) hHeld ?_ | fail
      try simp only [Act.put, List.setIfInBounds_toArray, List.set_cons_zero, List.set_cons_succ]
      first | (refine held_t (i := 6) hHeld ?_; apply Exists.intro; refine ⟨fun wq hq => ?_, ?_⟩; (focus ((try dsimp only at hq); go_simp; (first | done | with_reducible rfl | fail)))) | refine held_s (i := 6) hHeld ?_ | fail
      first | (refine held_t (i := 7) hHeld ?_; apply Exists.intro; refine ⟨fun wq hq => ?_, ?_⟩; (focus ((try dsimp only at hq); go_simp; (first | done | with_reducible rfl | fail)))) | refine held_s (i := 7) hHeld ?_ | fail
      first | (refine held_t (i := 8) hHeld ?_; apply Exists.intro; refine ⟨fun wq hq => ?_, ?_⟩; (focus ((try dsimp only at hq); go_simp; (first | done | with_reducible rfl | fail)))) | refine held_s (i := 8) hHeld ?_ | fail
      try simp only [Act.put, List.setIfInBounds_toArray, List.set_cons_zero, List.set_cons_succ]
      first | (refine held_t (i := 9) hHeld ?_; apply Exists.intro; refine ⟨fun wq hq => ?_, ?_⟩; (focus ((try dsimp only at hq); go_simp; (first | done | with_reducible rfl | fail)))) | refine held_s (i := 9) hHeld ?_ | fail
      first | (refine held_t (i := 10) hHeld ?_; apply Exists.intro; refine ⟨fun wq hq => ?_, ?_⟩; (focus ((try dsimp only at hq); go_simp; (first | done | with_reducible rfl | fail)))) | refine held_s (i := 10) hHeld ?_ | fail
      try simp only [Act.put, List.setIfInBounds_toArray, List.set_cons_zero, List.set_cons_succ]
      obtain ⟨wd, hwd⟩ : ∃ wd, w6.drew = wd := ⟨_, rfl⟩
      have HPd := Lib.hid (show PairB W V wd F F2 p (.pointer (some ⟨bq, 0, none⟩)) 8 R 8 S from by rw [← hwd]; exact HP.out.1.ext (Below.refl _ _).drew)
      rw [hwd] at hHeld ⊢
      clear hwd
      have C := Both_at HPd.out.1 HP.out.2 HVT.out.1 HVT.out.2
      rw [HBB.out] at C
      refine held_c 11 fun K hK => ?_
      go_simp
      (go_at_call 42; refine C.mono ?_; rintro e w7 ⟨F7, R7, rfl, i7, s7, t7, in7⟩; have HP7 := Lib.hid (And.intro (HPd.out.left i7 t7 in7) s7); clear i7 s7 t7 in7)
      refine hK.out _ _ (HK.out _ HP7.out.1.bel) (fun hHeld => ?_)
      clear hK K
      try simp only [Act.put, List.setIfInBounds_toArray, List.set_cons_zero, List.set_cons_succ]
      clear C
      first | (refine held_t (i := 12) hHeld ?_; apply Exists.intro; refine ⟨fun wq hq => ?_, ?_⟩; (focus ((try dsimp only at hq); go_simp; (first | done | with_reducible rfl | fail)))) | refine held_s (i := 12) hHeld ?_ | fail
      first | (refine held_t (i := 13) hHeld ?_; apply Exists.intro; refine ⟨fun wq hq => ?_, ?_⟩; (focus ((try dsimp only at hq); go_simp; (first | done | with_reducible rfl | fail)))) | refine held_s (i := 13) hHeld ?_ | fail
      first | (refine held_t (i := 14) hHeld ?_; apply Exists.intro; refine ⟨fun wq hq => ?_, ?_⟩; (focus ((try dsimp only at hq); go_simp; (first | done | with_reducible rfl | fail)))) | refine held_s (i := 14) hHeld ?_ | fail
      try simp only [Act.put, List.setIfInBounds_toArray, List.set_cons_zero, List.set_cons_succ]
      first | (refine held_t (i := 15) hHeld ?_; apply Exists.intro; refine ⟨fun wq hq => ?_, ?_⟩; (focus ((try dsimp only at hq); go_simp; (first | done | with_reducible rfl | fail)))) | refine held_s (i := 15) hHeld ?_ | fail
      first | (refine held_t (i := 16) hHeld ?_; apply Exists.intro; refine ⟨fun wq hq => ?_, ?_⟩; (focus ((try dsimp only at hq); go_simp; (first | done | with_reducible rfl | fail)))) | refine held_s (i := 16) hHeld ?_ | fail
      first | (refine held_t (i := 17) hHeld ?_; apply Exists.intro; refine ⟨fun wq hq => ?_, ?_⟩; (focus ((try dsimp only at hq); go_simp; (first | done | with_reducible rfl | fail)))) | refine held_s (i := 17) hHeld ?_ | fail
      try simp only [Act.put, List.setIfInBounds_toArray, List.set_cons_zero, List.set_cons_succ]
      first | (refine held_t (i := 18) hHeld ?_; apply Exists.intro; refine ⟨fun wq hq => ?_, ?_⟩; (focus ((try dsimp only at hq); go_simp; (first | done | with_reducible rfl | fail)))) | refine held_s (i := 18) hHeld ?_ | fail
      try simp only [Act.put, List.setIfInBounds_toArray, List.set_cons_zero, List.set_cons_succ]
      refine wpAnyH_done (by kernel_rfl) ?_ _
      clear hHeld HPd
      go_wp2_with fail
      refine wp_region_held_drew (S := fun wq => (wq.cell? ⟨b, off + i * 8, none⟩ = some (.int .i64 k) ∧ wq.cell? ⟨b, off + i * 8 + 1, none⟩ = some (.int .i64 n) ∧ wq.cell? ⟨b, off + i * 8 + 2, none⟩ = some (.string s) ∧ wq.cell? ⟨b, off + i * 8 + 3, none⟩ = some (.slice a mx c) ∧ wq.cell? ⟨b, off + i * 8 + 4, none⟩ = some (.int .i64 k') ∧ wq.cell? ⟨b, off + i * 8 + 4 + 1, none⟩ = some (.int .i64 n') ∧ wq.cell? ⟨b, off + i * 8 + 4 + 2, none⟩ = some (.string s') ∧ wq.cell? ⟨b, off + i * 8 + 4 + 3, none⟩ = some (.slice a' m' c')) ∧ Below W.heap.size W wq) (by kernel_rfl) (HK.out _ HP7.out.1.bel.drew) (fun hHeld => ?_)
      first | (refine held_t (i := 0) hHeld ?_; apply Exists.intro; refine ⟨fun wq hq => ?_, ?_⟩; (focus ((try dsimp only at hq); go_simp; (first | done | with_reducible rfl | fail)))) | refine held_s (i := 0) hHeld ?_ | fail
      first | (refine held_t (i := 1) hHeld ?_; apply Exists.intro; refine ⟨fun wq hq => ?_, ?_⟩; (focus ((try dsimp only at hq); go_simp; (first | done | with_reducible rfl | fail)))) | refine held_s (i := 1) hHeld ?_ | fail
      first | (refine held_t (i := 2) hHeld ?_; apply Exists.intro; refine ⟨fun wq hq => ?_, ?_⟩; (focus ((try dsimp only at hq); go_simp; (first | done | with_reducible rfl | fail)))) | refine held_s (i := 2) hHeld ?_ | fail
      try simp only [Act.put, List.setIfInBounds_toArray, List.set_cons_zero, List.set_cons_succ]
      first | (refine held_t (i := 3) hHeld ?_; apply Exists.intro; refine ⟨fun wq hq => ?_, ?_⟩; (focus ((try dsimp only at hq); go_simp; (first | done | with_reducible rfl | fail)))) | refine held_s (i := 3) hHeld ?_ | fail
      first | (refine held_t (i := 4) hHeld ?_; apply Exists.intro; refine ⟨fun wq hq => ?_, ?_⟩; (focus ((try dsimp only at hq); go_simp; (first | done | with_reducible rfl | fail)))) | refine held_s (i := 4) hHeld ?_ | fail
      first | (refine held_t (i := 5) hHeld ?_; apply Exists.intro; refine ⟨fun wq hq => ?_, ?_⟩; (focus ((try dsimp only at hq); go_simp; (first | done | with_reducible rfl | fail)))) | refine held_s (i := 5) hHeld ?_ | fail
      try simp only [Act.put, List.setIfInBounds_toArray, List.set_cons_zero, List.set_cons_succ]
      first | (refine held_t (i := 7) hHeld ?_; apply Exists.intro; refine ⟨fun wq hq => ?_, ?_⟩; (focus ((try dsimp only at hq); go_simp; (first | done | with_reducible rfl | fail)))) | refine held_s (i := 7) hHeld ?_ | fail
      first | (refine held_t (i := 8) hHeld ?_; apply Exists.intro; refine ⟨fun wq hq => ?_, ?_⟩; (focus ((try dsimp only at hq); go_simp; (first | done | with_reducible rfl | fail)))) | refine held_s (i := 8) hHeld ?_ | fail
      first | (refine held_t (i := 9) hHeld ?_; apply Exists.intro; refine ⟨fun wq hq => ?_, ?_⟩; (focus ((try dsimp only at hq); go_simp; (first | done | with_reducible rfl | fail)))) | refine held_s (i := 9) hHeld ?_ | fail
      try simp only [Act.put, List.setIfInBounds_toArray, List.set_cons_zero, List.set_cons_succ]
      first | (refine held_t (i := 10) hHeld ?_; apply Exists.intro; refine ⟨fun wq hq => ?_, ?_⟩; (focus ((try dsimp only at hq); go_simp; (first | done | with_reducible rfl | fail)))) | refine held_s (i := 10) hHeld ?_ | fail
      first | (refine held_t (i := 11) hHeld ?_; apply Exists.intro; refine ⟨fun wq hq => ?_, ?_⟩; (focus ((try dsimp only at hq); go_simp; (first | done | with_reducible rfl | fail)))) | refine held_s (i := 11) hHeld ?_ | fail
      try simp only [Act.put, List.setIfInBounds_toArray, List.set_cons_zero, List.set_cons_succ]
      obtain ⟨wd, hwd⟩ : ∃ wd, w7.drew = wd := ⟨_, rfl⟩
      have HPd := Lib.hid (show PairB W V wd F7 F2 p (.pointer (some ⟨bq, 0, none⟩)) 8 R7 8 S from by rw [← hwd]; exact HP7.out.1.ext (Below.refl _ _).drew)
      rw [hwd] at hHeld ⊢
      clear hwd
      refine held_c 6 fun K hK => ?_
      go_simp
      (go_at_call 48; refine (own12_at x (awayB (F7 ++ F2)) _ _ HPd.out.oldD (TmV.ext HPd.out.bel _ _ HTX.out.1)).mono ?_; rintro e u1 ⟨vv1, rfl, hv1, b1⟩; have HV1 := Lib.hid (And.intro hv1 b1); clear hv1)
      refine hK.out _ _ (HK.out _ (HPd.out.bel.trans (HV1.out.2.mono HPd.out.bel.size))) (fun hHeld => ?_)
      clear hK K
      try simp only [Act.put, List.setIfInBounds_toArray, List.set_cons_zero, List.set_cons_succ]
      clear b1
      have HPe := Lib.hid (HPd.out.ext HV1.out.2)
      refine held_c 12 fun K hK => ?_
      go_simp
      (go_at_call 48; refine (own12_at y (awayB (F7 ++ F2)) _ _ HPe.out.oldD (TmV.ext HPe.out.bel _ _ HTX.out.2)).mono ?_; rintro e u2 ⟨vv2, rfl, hv2, b1⟩; have HV2 := Lib.hid (And.intro hv2 b1); clear hv2)
      refine hK.out _ _ (HK.out _ (HPe.out.bel.trans (HV2.out.2.mono HPe.out.bel.size))) (fun hHeld => ?_)
      clear hK K
      try simp only [Act.put, List.setIfInBounds_toArray, List.set_cons_zero, List.set_cons_succ]
      clear b1
      have HPf := Lib.hid (HPe.out.ext HV2.out.2).rebase
      have C := RBoth_at HPf.out.2.1 (Sync.refl S) (TmV.later (D := awayB (F7 ++ F2)) HV2.out.2 HV1.out.1) HV2.out.1
      rw [HBB.out] at C
      refine held_c 13 fun K hK => ?_
      go_simp
      (go_at_call 47; refine C.mono ?_; rintro e w8 ⟨F8, S8, rfl, i8, s8, t8, in8⟩; have HP8 := Lib.hid (And.intro (HPf.out.right i8 t8 in8) s8); clear i8 s8 t8 in8)
      refine hK.out _ _ (HK.out _ HP8.out.1.bel) (fun hHeld => ?_)
      clear hK K
      try simp only [Act.put, List.setIfInBounds_toArray, List.set_cons_zero, List.set_cons_succ]
      clear C
      first | (refine held_t (i := 14) hHeld ?_; apply Exists.intro; refine ⟨fun wq hq => ?_, ?_⟩; (focus ((try dsimp only at hq); go_simp; (first | done | with_reducible rfl | fail)))) | refine held_s (i := 14) hHeld ?_ | fail
      first | (refine held_t (i := 15) hHeld ?_; apply Exists.intro; refine ⟨fun wq hq => ?_, ?_⟩; (focus ((try dsimp only at hq); go_simp; (first | done | with_reducible rfl | fail)))) | refine held_s (i := 15) hHeld ?_ | fail
      first | (refine held_t (i := 16) hHeld ?_; apply Exists.intro; refine ⟨fun wq hq => ?_, ?_⟩; (focus ((try dsimp only at hq); go_simp; (first | done | with_reducible rfl | fail)))) | refine held_s (i := 16) hHeld ?_ | fail
      try simp only [Act.put, List.setIfInBounds_toArray, List.set_cons_zero, List.set_cons_succ]
      first | (refine held_t (i := 17) hHeld ?_; apply Exists.intro; refine ⟨fun wq hq => ?_, ?_⟩; (focus ((try dsimp only at hq); go_simp; (first | done | with_reducible rfl | fail)))) | refine held_s (i := 17) hHeld ?_ | fail
      first | (refine held_t (i := 18) hHeld ?_; apply Exists.intro; refine ⟨fun wq hq => ?_, ?_⟩; (focus ((try dsimp only at hq); go_simp; (first | done | with_reducible rfl | fail)))) | refine held_s (i := 18) hHeld ?_ | fail
      try simp only [Act.put, List.setIfInBounds_toArray, List.set_cons_zero, List.set_cons_succ]
      first | (refine held_t (i := 19) hHeld ?_; apply Exists.intro; refine ⟨fun wq hq => ?_, ?_⟩; (focus ((try dsimp only at hq); go_simp; (first | done | with_reducible rfl | fail)))) | refine held_s (i := 19) hHeld ?_ | fail
      first | (refine held_t (i := 20) hHeld ?_; apply Exists.intro; refine ⟨fun wq hq => ?_, ?_⟩; (focus ((try dsimp only at hq); go_simp; (first | done | with_reducible rfl | fail)))) | refine held_s (i := 20) hHeld ?_ | fail
      try simp only [Act.put, List.setIfInBounds_toArray, List.set_cons_zero, List.set_cons_succ]
      refine wpAnyH_done (by kernel_rfl) ?_ _
      clear hHeld HPd HPe HPf HV1 HV2
      have HSY := Lib.hid (Sync.trans HP7.out.2 HP8.out.2.symm)
      have hP8 := HP8.out.1
      generalize seenB F7 F2 u2 = V8 at *
      have HP9 := Lib.hid hP8
      clear hP8 HP8 HP7 HP HVT HM6 HBB
      obtain ⟨ok, cost, err, set⟩ := B
      have hz1 : (ok != ok) = false := by simp
      have hz2 : ((cost : Int) != (cost : Int)) = false := by simp
      have hz3 : (err != err) = false := by simp
      obtain ⟨CB, hCB⟩ : ∃ CB, couldB x y = CB := ⟨_, rfl⟩
      have HCB := Lib.hid hCB
      have hz4 : (CB != CB) = false := by simp
      clear hCB
      go_wp2_with fail
      refine wp_region_held_drew (S := fun wq => (wq.cell? ⟨b, off + i * 8, none⟩ = some (.int .i64 k) ∧ wq.cell? ⟨b, off + i * 8 + 1, none⟩ = some (.int .i64 n) ∧ wq.cell? ⟨b, off + i * 8 + 2, none⟩ = some (.string s) ∧ wq.cell? ⟨b, off + i * 8 + 3, none⟩ = some (.slice a mx c) ∧ wq.cell? ⟨b, off + i * 8 + 4, none⟩ = some (.int .i64 k') ∧ wq.cell? ⟨b, off + i * 8 + 4 + 1, none⟩ = some (.int .i64 n') ∧ wq.cell? ⟨b, off + i * 8 + 4 + 2, none⟩ = some (.string s') ∧ wq.cell? ⟨b, off + i * 8 + 4 + 3, none⟩ = some (.slice a' m' c')) ∧ Below w8.heap.size w8 wq) (by kernel_rfl) ⟨(HK.out _ HP9.out.bel.drew).1, (Below.refl _ _).drew⟩ (fun hHeld => ?_)
      first | (refine held_t (i := 0) hHeld ?_; apply Exists.intro; refine ⟨fun wq hq => ?_, ?_⟩; (focus ((try dsimp only at hq); go_simp; (first | done | with_reducible rfl | fail)))) | refine held_s (i := 0) hHeld ?_ | fail
      first | (refine held_t (i := 1) hHeld ?_; apply Exists.intro; refine ⟨fun wq hq => ?_, ?_⟩; (focus ((try dsimp only at hq); go_simp; (first | done | with_reducible rfl | fail)))) | refine held_s (i := 1) hHeld ?_ | fail
      first | (refine held_t (i := 2) hHeld ?_; apply Exists.intro; refine ⟨fun wq hq => ?_, ?_⟩; (focus ((try dsimp only at hq); go_simp; (first | done | with_reducible rfl | fail)))) | refine held_s (i := 2) hHeld ?_ | fail
      try simp only [Act.put, List.setIfInBounds_toArray, List.set_cons_zero, List.set_cons_succ]
      first | (refine held_t (i := 3) hHeld ?_; apply Exists.intro; refine ⟨fun wq hq => ?_, ?_⟩; (focus ((try dsimp only at hq); go_simp; (first | done | with_reducible rfl | fail)))) | refine held_s (i := 3) hHeld ?_ | fail
      first | (refine held_t (i := 4) hHeld ?_; apply Exists.intro; refine ⟨fun wq hq => ?_, ?_⟩; (focus ((try dsimp only at hq); go_simp; (first | done | with_reducible rfl | fail)))) | refine held_s (i := 4) hHeld ?_ | fail
      first | (refine held_t (i := 5) hHeld ?_; apply Exists.intro; refine ⟨fun wq hq => ?_, ?_⟩; (focus ((try dsimp only at hq); go_simp; (first | done | with_reducible rfl | fail)))) | refine held_s (i := 5) hHeld ?_ | fail
      try simp only [Act.put, List.setIfInBounds_toArray, List.set_cons_zero, List.set_cons_succ]
      first | (refine held_t (i := 6) hHeld ?_; apply Exists.intro; refine ⟨fun wq hq => ?_, ?_⟩; (focus ((try dsimp only at hq); go_simp; (first | done | with_reducible rfl | fail)))) | refine held_s (i := 6) hHeld ?_ | fail
      first | (refine held_t (i := 7) hHeld ?_; apply Exists.intro; refine ⟨fun wq hq => ?_, ?_⟩; (focus ((try dsimp only at hq); go_simp; (first | done | with_reducible rfl | fail)))) | refine held_s (i := 7) hHeld ?_ | fail
      first | (refine held_t (i := 8) hHeld ?_; apply Exists.intro; refine ⟨fun wq hq => ?_, ?_⟩; (focus ((try dsimp only at hq); go_simp; (first | done | with_reducible rfl | fail)))) | refine held_s (i := 8) hHeld ?_ | fail
      try simp only [Act.put, List.setIfInBounds_toArray, List.set_cons_zero, List.set_cons_succ]
      first | (refine held_t (i := 9) hHeld ?_; apply Exists.intro; refine ⟨fun wq hq => ?_, ?_⟩; (focus ((try dsimp only at hq); go_simp; (first | done | with_reducible rfl | fail)))) | refine held_s (i := 9) hHeld ?_ | fail
      first | (refine held_t (i := 10) hHeld ?_; apply Exists.intro; refine ⟨fun wq hq => ?_, ?_⟩; (focus ((try dsimp only at hq); go_simp; (first | done | with_reducible rfl | fail)))) | refine held_s (i := 10) hHeld ?_ | fail
      first | (refine held_t (i := 11) hHeld ?_; apply Exists.intro; refine ⟨fun wq hq => ?_, ?_⟩; (focus ((try dsimp only at hq); go_simp; (first | done | with_reducible rfl | fail)))) | refine held_s (i := 11) hHeld ?_ | fail
      try simp only [Act.put, List.setIfInBounds_toArray, List.set_cons_zero, List.set_cons_succ]
      first | (refine held_t (i := 12) hHeld ?_; apply Exists.intro; refine ⟨fun wq hq => ?_, ?_⟩; (focus ((try dsimp only at hq); go_simp; (first | done | with_reducible rfl | fail)))) | refine held_s (i := 12) hHeld ?_ | fail
      first | (refine held_t (i := 13) hHeld ?_; apply Exists.intro; refine ⟨fun wq hq => ?_, ?_⟩; (focus ((try dsimp only at hq); go_simp; (first | done | with_reducible rfl | fail)))) | refine held_s (i := 13) hHeld ?_ | fail
      first | (refine held_t (i := 14) hHeld ?_; apply Exists.intro; refine ⟨fun wq hq => ?_, ?_⟩; (focus ((try dsimp only at hq); go_simp; (first | done | with_reducible rfl | fail)))) | refine held_s (i := 14) hHeld ?_ | fail
      try simp only [Act.put, List.setIfInBounds_toArray, List.set_cons_zero, List.set_cons_succ]
      first | (refine held_t (i := 15) hHeld ?_; apply Exists.intro; refine ⟨fun wq hq => ?_, ?_⟩; (focus ((try dsimp only at hq); go_simp; (first | done | with_reducible rfl | fail)))) | refine held_s (i := 15) hHeld ?_ | fail
      try simp only [Act.put, List.setIfInBounds_toArray, List.set_cons_zero, List.set_cons_succ]
      refine held_c 16 fun K hK => ?_
      go_simp
      (go_at_call 49; refine (alike12_at (HP9.out.ext hHeld.2).1 (HP9.out.ext hHeld.2).2.1 HSY.out).mono ?_; rintro e u3 ⟨rfl, h6⟩)
      refine hK.out _ _ (⟨(HK.out _ (HP9.out.ext (Ext.trans' hHeld.2 h6)).bel).1, Ext.trans' hHeld.2 h6⟩) (fun hHeld => ?_)
      clear hK K
      try simp only [Act.put, List.setIfInBounds_toArray, List.set_cons_zero, List.set_cons_succ]
      first | (refine held_t (i := 17) hHeld ?_; apply Exists.intro; refine ⟨fun wq hq => ?_, ?_⟩; (focus ((try dsimp only at hq); go_simp; (first | done | with_reducible rfl | fail)))) | refine held_s (i := 17) hHeld ?_ | fail
      first | (refine held_t (i := 18) hHeld ?_; apply Exists.intro; refine ⟨fun wq hq => ?_, ?_⟩; (focus ((try dsimp only at hq); go_simp; (first | done | with_reducible rfl | fail)))) | refine held_s (i := 18) hHeld ?_ | fail
      first | (refine held_t (i := 19) hHeld ?_; apply Exists.intro; refine ⟨fun wq hq => ?_, ?_⟩; (focus ((try dsimp only at hq); go_simp; (first | done | with_reducible rfl | fail)))) | refine held_s (i := 19) hHeld ?_ | fail
      try simp only [Act.put, List.setIfInBounds_toArray, List.set_cons_zero, List.set_cons_succ]
      first | (refine held_t (i := 20) hHeld ?_; apply Exists.intro; refine ⟨fun wq hq => ?_, ?_⟩; (focus ((try dsimp only at hq); go_simp; (first | done | with_reducible rfl | fail)))) | refine held_s (i := 20) hHeld ?_ | fail
      first | (refine held_t (i := 21) hHeld ?_; apply Exists.intro; refine ⟨fun wq hq => ?_, ?_⟩; (focus ((try dsimp only at hq); go_simp; (first | done | with_reducible rfl | fail)))) | refine held_s (i := 21) hHeld ?_ | fail
      first | (refine held_t (i := 22) hHeld ?_; apply Exists.intro; refine ⟨fun wq hq => ?_, ?_⟩; (focus ((try dsimp only at hq); go_simp; (first | done | with_reducible rfl | fail)))) | refine held_s (i := 22) hHeld ?_ | fail
      try simp only [Act.put, List.setIfInBounds_toArray, List.set_cons_zero, List.set_cons_succ]
      first | (refine held_t (i := 23) hHeld ?_; apply Exists.intro; refine ⟨fun wq hq => ?_, ?_⟩; (focus ((try dsimp only at hq); go_simp; (first | done | with_reducible rfl | fail)))) | refine held_s (i := 23) hHeld ?_ | fail
      first | (refine held_t (i := 24) hHeld ?_; apply Exists.intro; refine ⟨fun wq hq => ?_, ?_⟩; (focus ((try dsimp only at hq); go_simp; (first | done | with_reducible rfl | fail)))) | refine held_s (i := 24) hHeld ?_ | fail
      first | (refine held_t (i := 25) hHeld ?_; apply Exists.intro; refine ⟨fun wq hq => ?_, ?_⟩; (focus ((try dsimp only at hq); go_simp; (first | done | with_reducible rfl | fail)))) | refine held_s (i := 25) hHeld ?_ | fail
      try simp only [Act.put, List.setIfInBounds_toArray, List.set_cons_zero, List.set_cons_succ]
      first | (refine held_t (i := 26) hHeld ?_; apply Exists.intro; refine ⟨fun wq hq => ?_, ?_⟩; (focus ((try dsimp only at hq); go_simp; (first | done | with_reducible rfl | fail)))) | refine held_s (i := 26) hHeld ?_ | fail
      first | (refine held_t (i := 27) hHeld ?_; apply Exists.intro; refine ⟨fun wq hq => ?_, ?_⟩; (focus ((try dsimp only at hq); go_simp; (first | done | with_reducible rfl | fail)))) | refine held_s (i := 27) hHeld ?_ | fail
      first | (refine held_t (i := 28) hHeld ?_; apply Exists.intro; refine ⟨fun wq hq => ?_, ?_⟩; (focus ((try dsimp only at hq); go_simp; (first | done | with_reducible rfl | fail)))) | refine held_s (i := 28) hHeld ?_ | fail
      try simp only [Act.put, List.setIfInBounds_toArray, List.set_cons_zero, List.set_cons_succ]
      first | (refine held_t (i := 29) hHeld ?_; apply Exists.intro; refine ⟨fun wq hq => ?_, ?_⟩; (focus ((try dsimp only at hq); go_simp; (first | done | with_reducible rfl | fail)))) | refine held_s (i := 29) hHeld ?_ | fail
      try simp only [Act.put, List.setIfInBounds_toArray, List.set_cons_zero, List.set_cons_succ]
      first | (refine held_t (i := 31) hHeld ?_; apply Exists.intro; refine ⟨fun wq hq => ?_, ?_⟩; (focus ((try dsimp only at hq); go_simp; (first | done | with_reducible rfl | fail)))) | refine held_s (i := 31) hHeld ?_ | fail
      first | (refine held_t (i := 32) hHeld ?_; apply Exists.intro; refine ⟨fun wq hq => ?_, ?_⟩; (focus ((try dsimp only at hq); go_simp; (first | done | with_reducible rfl | fail)))) | refine held_s (i := 32) hHeld ?_ | fail
      first | (refine held_t (i := 33) hHeld ?_; apply Exists.intro; refine ⟨fun wq hq => ?_, ?_⟩; (focus ((try dsimp only at hq); go_simp; (first | done | with_reducible rfl | fail)))) | refine held_s (i := 33) hHeld ?_ | fail
      try simp only [Act.put, List.setIfInBounds_toArray, List.set_cons_zero, List.set_cons_succ]
      first | (refine held_t (i := 34) hHeld ?_; apply Exists.intro; refine ⟨fun wq hq => ?_, ?_⟩; (focus ((try dsimp only at hq); go_simp; (first | done | with_reducible rfl | fail)))) | refine held_s (i := 34) hHeld ?_ | fail
      first | (refine held_t (i := 35) hHeld ?_; apply Exists.intro; refine ⟨fun wq hq => ?_, ?_⟩; (focus ((try dsimp only at hq); go_simp; (first | done | with_reducible rfl | fail)))) | refine held_s (i := 35) hHeld ?_ | fail
      try simp only [Act.put, List.setIfInBounds_toArray, List.set_cons_zero, List.set_cons_succ]
      first | (refine held_t (i := 37) hHeld ?_; apply Exists.intro; refine ⟨fun wq hq => ?_, ?_⟩; (focus ((try dsimp only at hq); go_simp; (first | done | with_reducible rfl | fail)))) | refine held_s (i := 37) hHeld ?_ | fail
      first | (refine held_t (i := 38) hHeld ?_; apply Exists.intro; refine ⟨fun wq hq => ?_, ?_⟩; (focus ((try dsimp only at hq); go_simp; (first | done | with_reducible rfl | fail)))) | refine held_s (i := 38) hHeld ?_ | fail
      first | (refine held_t (i := 39) hHeld ?_; apply Exists.intro; refine ⟨fun wq hq => ?_, ?_⟩; (focus ((try dsimp only at hq); go_simp; (first | done | with_reducible rfl | fail)))) | refine held_s (i := 39) hHeld ?_ | fail
      try simp only [Act.put, List.setIfInBounds_toArray, List.set_cons_zero, List.set_cons_succ]
      first | (refine held_t (i := 40) hHeld ?_; apply Exists.intro; refine ⟨fun wq hq => ?_, ?_⟩; (focus ((try dsimp only at hq); go_simp; (first | done | with_reducible rfl | fail)))) | refine held_s (i := 40) hHeld ?_ | fail
      first | (refine held_t (i := 41) hHeld ?_; apply Exists.intro; refine ⟨fun wq hq => ?_, ?_⟩; (focus ((try dsimp only at hq); go_simp; (first | done | with_reducible rfl | fail)))) | refine held_s (i := 41) hHeld ?_ | fail
      try simp only [Act.put, List.setIfInBounds_toArray, List.set_cons_zero, List.set_cons_succ]
      refine held_c 30 fun K hK => ?_
      go_simp
      (go_at_call 44; refine (Could_at x y _ _ _ (TmV.ext (HP9.out.ext hHeld.2).bel _ _ HTX.out.1) (TmV.ext (HP9.out.ext hHeld.2).bel _ _ HTX.out.2)).mono ?_; rintro e u4 ⟨rfl, h6⟩; rw [HCB.out])
      refine hK.out _ _ (⟨(HK.out _ (HP9.out.ext (Ext.trans' hHeld.2 h6)).bel).1, Ext.trans' hHeld.2 h6⟩) (fun hHeld => ?_)
      clear hK K
      try simp only [Act.put, List.setIfInBounds_toArray, List.set_cons_zero, List.set_cons_succ]
      refine held_c 36 fun K hK => ?_
      go_simp
      (go_at_call 48; refine (own12_at x (fun _ => false) _ _ (fun _ _ => rfl) (TmV.ext (HP9.out.ext hHeld.2).bel _ _ HTX.out.1)).mono ?_; rintro e u5 ⟨vv, rfl, hvv, h6⟩; have HO1 := Lib.hid (And.intro hvv.bare (Below.refl u5.heap.size u5)); clear hvv)
      refine hK.out _ _ (⟨(HK.out _ (HP9.out.ext (Ext.trans' hHeld.2 h6)).bel).1, Ext.trans' hHeld.2 h6⟩) (fun hHeld => ?_)
      clear hK K
      try simp only [Act.put, List.setIfInBounds_toArray, List.set_cons_zero, List.set_cons_succ]
      refine held_c 42 fun K hK => ?_
      go_simp
      (go_at_call 48; refine (own12_at y (fun _ => false) _ _ (fun _ _ => rfl) (TmV.ext (HP9.out.ext hHeld.2).bel _ _ HTX.out.2)).mono ?_; rintro e u6 ⟨vv, rfl, hvv, h6⟩; have HO2 := Lib.hid (And.intro hvv.bare (Below.refl u6.heap.size u6)); have HO12 := Lib.hid h6; clear hvv)
      refine hK.out _ _ (⟨(HK.out _ (HP9.out.ext (Ext.trans' hHeld.2 h6)).bel).1, Ext.trans' hHeld.2 h6⟩) (fun hHeld => ?_)
      clear hK K
      try simp only [Act.put, List.setIfInBounds_toArray, List.set_cons_zero, List.set_cons_succ]
      refine held_c 43 fun K hK => ?_
      go_simp
      (go_at_call 50; refine (RCould_at x y _ _ _ (TmV.ext HO12.out _ _ HO1.out.1) HO2.out.1).mono ?_; rintro e u7 ⟨rfl, h6⟩; rw [HCB.out])
      refine hK.out _ _ (⟨(HK.out _ (HP9.out.ext (Ext.trans' hHeld.2 h6)).bel).1, Ext.trans' hHeld.2 h6⟩) (fun hHeld => ?_)
      clear hK K
      try simp only [Act.put, List.setIfInBounds_toArray, List.set_cons_zero, List.set_cons_succ]
      first | (refine held_t (i := 44) hHeld ?_; apply Exists.intro; refine ⟨fun wq hq => ?_, ?_⟩; (focus ((try dsimp only at hq); go_simp; (first | done | with_reducible rfl | fail)))) | refine held_s (i := 44) hHeld ?_ | fail
      first | (refine held_t (i := 45) hHeld ?_; apply Exists.intro; refine ⟨fun wq hq => ?_, ?_⟩; (focus ((try dsimp only at hq); go_simp; (first | done | with_reducible rfl | fail)))) | refine held_s (i := 45) hHeld ?_ | fail
      try simp only [Act.put, List.setIfInBounds_toArray, List.set_cons_zero, List.set_cons_succ]
      have HFIN := Lib.hid (HP9.out.ext hHeld.2)
      clear hHeld
      refine wpAnyH_done (by kernel_rfl) ?_ _
      go_wp2
      go_roundw
      case rel => exact ⟨i + 1, by omega, by go_num, Lib.hid ⟨_, _, _, _, _, HFIN.out, HSY.out⟩⟩
      case measure => simp [intOf]; omega
    · have HB := Lib.hid HM.out.bel
      have him2 : i = m := by omega
      subst him2
      go_wp2
      go_ret
      exact ⟨rfl, HB.out⟩
end Go.Proofs.Ytbbbgijlbcmpbaa
