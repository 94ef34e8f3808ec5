import Derived.Test.YtchbbaehdcmcfaaHdtzz
import Derived.Test.YtchbbaehdcmcfaaHdtan
import Derived.Test.YtchbbaehdcmcfaaHdtad
import Derived.Test.YtchbbaehdcmcfaaHdtae
import Derived.Test.YtchbbaehdcmcfaaHdtab
import Derived.Test.YtchbbaehdcmcfaaRows
set_option linter.unusedVariables false
set_option linter.unusedSimpArgs false
/- Package unify: Could, walked. -/
namespace Go.Proofs.Ytchbbaehdcmcfaa
open Go.RowKit Go.Maps
set_option linter.unusedVariables false
set_option maxHeartbeats 8000000 in
set_option maxRecDepth 100000 in
theorem Could_at (x y : Tm) (w : World) (vx vy : Value) (hvx : TmV w x vx) (hvy : TmV w y vy) : Calls Try.prog 54 #[vx, vy] w fun e w' => e = .returned (.bool (couldB x y)) ∧ Below w.heap.size w w' := by
  have hmm := @run_makeMap Try.prog
  obtain ⟨k, n, s, a, m, c, rfl⟩ := hvx.full
  obtain ⟨k', n', s', a', m', c', rfl⟩ := hvy.full
  obtain ⟨w1, e1, B1, z1, X1⟩ := box_new w #[.int .i64 k, .int .i64 n, .string s, .slice a m c] 31
  obtain ⟨w2, e2, B2, z2, X2⟩ := box_new w1 #[.int .i64 k', .int .i64 n', .string s', .slice a' m' c'] 31
  have X1 := X1.ext B2
  have B12 := Ext.trans' B1 B2
  rw [z1] at X2 z2
  obtain ⟨x0, x1, x2, x3, _⟩ := X1.four
  obtain ⟨y0, y1, y2, y3, _⟩ := X2.four
  have HE := Lib.hid (And.intro e1 e2)
  have HB2 := Lib.hid (And.intro B12 (And.intro X1 (And.intro X2 z2)))
  have HV := Lib.hid (And.intro hvx hvy)
  have C := Good_at x w2 _ (TmV.ext B12 _ _ hvx)
  have HGY := Lib.hid (fun (wq : World) (hb : Below w.heap.size w wq) => Good_at y wq _ (TmV.ext hb _ _ hvy))
  clear B1 B2 z1 e1 e2 B12 X1 X2 hvx hvy z2
  cases hgx : goodT x
  · have hr : couldB x y = false := by unfold couldB; rw [hgx]; rfl
    rw [hr]
    rw [hgx] at C
    clear hr hgx hmm
    go_enter Try.func54, Try.ntmps54
    go_upto_region 1 with fail
    (try rw [HE.out.1, HE.out.2])
    (go_wp2_with fail; go_fit (C); rintro e w3 ⟨rfl, b3⟩)
    have HB3 := Lib.hid (Ext.trans' HB2.out.1 b3)
    clear b3 C
    go_wp2
    go_ret
    exact ⟨rfl, HB3.out⟩
  · rw [hgx] at C
    cases hgy : goodT y
    · have hr : couldB x y = false := by unfold couldB; rw [hgx, hgy]; rfl
      rw [hr]
      rw [hgy] at HGY
      clear hr hgx hgy hmm
      go_enter Try.func54, Try.ntmps54
      go_upto_region 1 with fail
      (try rw [HE.out.1, HE.out.2])
      (go_wp2_with fail; go_fit (C); rintro e w3 ⟨rfl, b3⟩)
      have HB3 := Lib.hid (Ext.trans' HB2.out.1 b3)
      obtain ⟨y0, y1, y2, y3, _⟩ := (HB2.out.2.2.1.ext b3).four
      clear b3 C
      have C := HGY.out w3 HB3.out
      (go_wp2_with fail; go_fit (C); rintro e w4 ⟨rfl, b4⟩)
      have HB4 := Lib.hid (Ext.trans' HB3.out b4)
      clear b4 C
      go_wp2
      go_ret
      exact ⟨rfl, HB4.out⟩
    · rw [hgy] at HGY
      obtain ⟨Lx, hlx⟩ : ∃ L, numV x = L := ⟨_, rfl⟩
      obtain ⟨Ly, hly⟩ : ∃ L, numV y = L := ⟨_, rfl⟩
      have hLx := numV_le x
      have hLy := numV_le y
      rw [hlx] at hLx
      rw [hly] at hLy
      have hr : couldB x y = (bothB (Lx + Ly) [] (renT 0 x) (renT Lx y)).ok := by unfold couldB; rw [hgx, hgy, hlx, hly]; rfl
      rw [hr]
      have hvx2 : (varsT x []).length = Lx := by rw [← hlx]; unfold numV; rw [hgx, if_pos rfl]
      have hvy2 : (varsT y []).length = Ly := by rw [← hly]; unfold numV; rw [hgy, if_pos rfl]
      have HL := Lib.hid (And.intro hvx2 (And.intro hvy2 (And.intro (good_parts hgx).2.2 (good_parts hgy).2.2)))
      obtain ⟨BR, hbr⟩ : ∃ B, bothB (Lx + Ly) [] (renT 0 x) (renT Lx y) = B := ⟨_, rfl⟩
      have HBR := Lib.hid hbr
      rw [hbr]
      clear hr hgx hgy hlx hly hvx2 hvy2 hbr
      go_enter Try.func54, Try.ntmps54
      go_upto_region 1 with fail
      (try rw [HE.out.1, HE.out.2])
      (go_wp2_with fail; go_fit (C); rintro e w3 ⟨rfl, b3⟩)
      have HB3 := Lib.hid (Ext.trans' HB2.out.1 b3)
      have HX3 := Lib.hid (And.intro (HB2.out.2.1.ext b3) (HB2.out.2.2.1.ext b3))
      clear b3 C x0 x1 x2 x3 y0 y1 y2 y3
      obtain ⟨y0, y1, y2, y3, _⟩ := HX3.out.2.four
      have C := HGY.out w3 HB3.out
      (go_wp2_with fail; go_fit (C); rintro e w4 ⟨rfl, b4⟩)
      have HB4 := Lib.hid (Ext.trans' HB3.out b4)
      have HX4 := Lib.hid (And.intro (HX3.out.1.ext b4) (HX3.out.2.ext b4))
      clear b4 C y0 y1 y2 y3
      have C := New_at (V := w) ((Stays.refl w).later HB4.out)
      (go_wp2_with fail; go_fit (C); rintro e w5 ⟨p, F, rfl, i5, b5, f5⟩)
      have hz4 : w.heap.size + 2 ≤ w4.heap.size := HX4.out.2.lt
      have H5 := Lib.hid (show CB w p 0 [.int .i64 k, .int .i64 n, .string s, .slice a m c] [.int .i64 k', .int .i64 n', .string s', .slice a' m' c'] [] F w5 from ⟨i5, fun k hk => by have := f5 k hk; omega, Ext.trans' HB4.out b5, HX4.out.1.ext b5, HX4.out.2.ext b5, fun q hq => by cases hq⟩)
      have hz5 : w.heap.size + 2 ≤ w5.heap.size := Nat.le_trans hz4 b5.size
      clear i5 b5 f5 C hz4
      have HCC := Lib.hid (fun (wq : World) (hx : Box wq w.heap.size [.int .i64 k, .int .i64 n, .string s, .slice a m c]) (hy : Box wq (w.heap.size + 1) [.int .i64 k', .int .i64 n', .string s', .slice a' m' c']) => (show (wq.cell? ⟨w.heap.size, 0, none⟩ = some (.int .i64 k) ∧ wq.cell? ⟨w.heap.size, 1, none⟩ = some (.int .i64 n) ∧ wq.cell? ⟨w.heap.size, 2, none⟩ = some (.string s) ∧ wq.cell? ⟨w.heap.size, 3, none⟩ = some (.slice a m c)) ∧ (wq.cell? ⟨w.heap.size + 1, 0, none⟩ = some (.int .i64 k') ∧ wq.cell? ⟨w.heap.size + 1, 1, none⟩ = some (.int .i64 n') ∧ wq.cell? ⟨w.heap.size + 1, 2, none⟩ = some (.string s') ∧ wq.cell? ⟨w.heap.size + 1, 3, none⟩ = some (.slice a' m' c')) from by
        obtain ⟨p0, p1, p2, p3, _⟩ := hx.four
        obtain ⟨q0, q1, q2, q3, _⟩ := hy.four
        exact ⟨⟨p0, p1, p2, p3⟩, q0, q1, q2, q3⟩))
      have HCB := Lib.hid (fun (wq : World) (N : Nat) (ms : List (Nat × Nat)) (G : List Nat) (h : CB w p N [.int .i64 k, .int .i64 n, .string s, .slice a m c] [.int .i64 k', .int .i64 n', .string s', .slice a' m' c'] ms G wq) => HCC.out wq h.2.2.2.1 h.2.2.2.2.1)
      go_upto_region 4 with fail
      refine wp_region_held_drew (S := fun wq => (wq.cell? ⟨w.heap.size, 0, none⟩ = some (.int .i64 k) ∧ wq.cell? ⟨w.heap.size, 1, none⟩ = some (.int .i64 n) ∧ wq.cell? ⟨w.heap.size, 2, none⟩ = some (.string s) ∧ wq.cell? ⟨w.heap.size, 3, none⟩ = some (.slice a m c)) ∧ (wq.cell? ⟨w.heap.size + 1, 0, none⟩ = some (.int .i64 k') ∧ wq.cell? ⟨w.heap.size + 1, 1, none⟩ = some (.int .i64 n') ∧ wq.cell? ⟨w.heap.size + 1, 2, none⟩ = some (.string s') ∧ wq.cell? ⟨w.heap.size + 1, 3, none⟩ = some (.slice a' m' c'))) (by kernel_rfl) (HCB.out _ _ _ _ (H5.out.ext (Below.refl _ _).drew)) (fun hHeld => ?_)
      first | (refine held_t (i := 0) hHeld ?_; constructor; constructor; intro wq hq; focus ((try dsimp only at hq); go_simp; first | done | with_reducible rfl | fail)) | refine held_s (i := 0) hHeld ?_ | fail
      first | (refine held_t (i := 1) hHeld ?_; constructor; constructor; intro wq hq; focus ((try dsimp only at hq); go_simp; first | done | with_reducible rfl | fail)) | refine held_s (i := 1) hHeld ?_ | fail
      first | (refine held_t (i := 2) hHeld ?_; constructor; constructor; intro wq hq; focus ((try dsimp only at hq); go_simp; first | done | with_reducible rfl | fail)) | refine held_s (i := 2) hHeld ?_ | fail
      first | (refine held_t (i := 5) hHeld ?_; constructor; constructor; intro wq hq; focus ((try dsimp only at hq); go_simp; first | done | with_reducible rfl | fail)) | refine held_s (i := 5) hHeld ?_ | fail
      first | (refine held_t (i := 6) hHeld ?_; constructor; constructor; intro wq hq; focus ((try dsimp only at hq); go_simp; first | done | with_reducible rfl | fail)) | refine held_s (i := 6) hHeld ?_ | fail
      try simp only [Act.put, lay4]
      obtain ⟨wd, hwd⟩ : ∃ wd, w5.drew = wd := ⟨_, rfl⟩
      have HD := Lib.hid (show CB w p 0 [.int .i64 k, .int .i64 n, .string s, .slice a m c] [.int .i64 k', .int .i64 n', .string s', .slice a' m' c'] [] F wd from by rw [← hwd]; exact H5.out.ext (Below.refl _ _).drew)
      have hzd : w.heap.size + 2 ≤ wd.heap.size := by rw [← hwd]; exact hz5
      rw [hwd] at hHeld ⊢
      clear hwd
      refine wpAnyH_ready (rs := [3, 7]) (by kernel_rfl) (by simp) ?_
      refine AllReadyH.cons (by simp only [ops3]; rfl) (fun K hK => ?_) (AllReadyH.cons (by simp only [ops3]; rfl) (fun K hK => ?_) AllReadyH.nil)
      · have HA0 := Lib.hid (HD.out.map 0 hzd)
        go_simp
        skip
        refine hK.out _ _ (HCB.out _ _ _ _ HA0.out) (fun hHeld => ?_)
        clear hK K
        try simp only [Act.put, lay4]
        obtain ⟨wa, ewa⟩ : ∃ q, wd.alloc (.map #[] 0) = q := ⟨_, rfl⟩
        have HA := HA0
        rw [ewa] at HA hHeld ⊢
        have hza : w.heap.size + 2 ≤ wa.heap.size := by rw [← ewa]; exact Nat.le_trans hzd (bel1' wd _).size
        have hswa : wd.heap.size < wa.heap.size := by rw [← ewa]; simp
        have hbwa : Below wd.heap.size wd wa := by rw [← ewa]; exact bel1' wd _
        clear ewa HA0
        refine wpAnyH_ready (rs := [4, 7]) (by kernel_rfl) (by simp) ?_
        refine AllReadyH.cons (by simp only [ops3]; rfl) (fun K hK => ?_) (AllReadyH.cons (by simp only [ops3]; rfl) (fun K hK => ?_) AllReadyH.nil)
        · have CH6 := HA.out.apart (fun q hq => by simp at hq <;> (try (subst hq; simp; omega))) HV.out.1 HL.out.2.2.1 (K := Lx) (by rw [HL.out.1]; omega) (by omega)
          go_simp
          (go_at_call 87; refine CH6.mono ?_; rintro e w6 ⟨F6, r6, rfl, c_, t_, tt_, in_⟩; have H6 := Lib.hid c_; have TH6 := Lib.hid (And.intro t_ (And.intro tt_ in_)); clear c_ t_ tt_ in_)
          refine hK.out _ _ (HCB.out _ _ _ _ H6.out) (fun hHeld => ?_)
          clear hK K
          try simp only [Act.put, lay4]
          have hz6 : w.heap.size + 2 ≤ w6.heap.size := Nat.le_trans hza TH6.out.2.1.size
          clear CH6
          have HB0 := Lib.hid (H6.out.map Lx hz6)
          refine held_c 7 fun K hK => ?_
          go_simp
          skip
          refine hK.out _ _ (HCB.out _ _ _ _ HB0.out) (fun hHeld => ?_)
          clear hK K
          try simp only [Act.put, lay4]
          obtain ⟨wb, ewb⟩ : ∃ q, w6.alloc (.map #[] 0) = q := ⟨_, rfl⟩
          have HB := HB0
          rw [ewb] at HB hHeld ⊢
          have hzb : w.heap.size + 2 ≤ wb.heap.size := by rw [← ewb]; exact Nat.le_trans hz6 (bel1' w6 _).size
          have hswb : w6.heap.size < wb.heap.size := by rw [← ewb]; simp
          have hbwb : Below w6.heap.size w6 wb := by rw [← ewb]; exact bel1' w6 _
          clear ewb HB0
          have CH8 := HB.out.apart (fun q hq => by simp at hq <;> (try (subst hq; simp; omega))) HV.out.2 HL.out.2.2.2 (K := (Lx + Ly)) (by rw [HL.out.2.1]) (by omega)
          refine held_c 8 fun K hK => ?_
          go_simp
          (go_at_call 87; refine CH8.mono ?_; rintro e w8 ⟨F8, r8, rfl, c_, t_, tt_, in_⟩; have H8 := Lib.hid c_; have TH8 := Lib.hid (And.intro t_ (And.intro tt_ in_)); clear c_ t_ tt_ in_)
          refine hK.out _ _ (HCB.out _ _ _ _ H8.out) (fun hHeld => ?_)
          clear hK K
          try simp only [Act.put, lay4]
          have hz8 : w.heap.size + 2 ≤ w8.heap.size := Nat.le_trans hzb TH8.out.2.1.size
          clear CH8
          have tx := apart_later TH6.out.1 hbwb (Or.inr (Nat.le_refl _)) TH8.out.2.1 TH8.out.2.2
          have ty := TmV.stay (Stays.less (D' := awayB F8) fun q hq => by obtain ⟨_, h2⟩ := newU_false.1 hq; simpa [awayB] using h2) _ _ TH8.out.1
          have C9 := H8.out.both tx ty
          rw [show bothB (Lx + Ly) [] (renT ((0 : Nat) : Int) x) (renT (Lx : Int) y) = BR from HBR.out] at C9
          clear tx ty
          refine held_c 9 fun K hK => ?_
          go_simp
          (go_at_call 86; refine C9.mono ?_; rintro e w9 ⟨rfl, b9, p9, q9⟩; have HB9 := Lib.hid b9; clear b9)
          refine hK.out _ _ (HCC.out _ p9 q9) (fun hHeld => ?_)
          clear hK K
          try simp only [Act.put, lay4]
          clear p9 q9 C9
          first | (refine held_t (i := 10) hHeld ?_; constructor; constructor; intro wq hq; focus ((try dsimp only at hq); go_simp; first | done | with_reducible rfl | fail)) | refine held_s (i := 10) hHeld ?_ | fail
          first | (refine held_t (i := 11) hHeld ?_; constructor; constructor; intro wq hq; focus ((try dsimp only at hq); go_simp; first | done | with_reducible rfl | fail)) | refine held_s (i := 11) hHeld ?_ | fail
          first | (refine held_t (i := 12) hHeld ?_; constructor; constructor; intro wq hq; focus ((try dsimp only at hq); go_simp; first | done | with_reducible rfl | fail)) | refine held_s (i := 12) hHeld ?_ | fail
          first | (refine held_t (i := 13) hHeld ?_; constructor; constructor; intro wq hq; focus ((try dsimp only at hq); go_simp; first | done | with_reducible rfl | fail)) | refine held_s (i := 13) hHeld ?_ | fail
          first | (refine held_t (i := 14) hHeld ?_; constructor; constructor; intro wq hq; focus ((try dsimp only at hq); go_simp; first | done | with_reducible rfl | fail)) | refine held_s (i := 14) hHeld ?_ | fail
          first | (refine held_t (i := 15) hHeld ?_; constructor; constructor; intro wq hq; focus ((try dsimp only at hq); go_simp; first | done | with_reducible rfl | fail)) | refine held_s (i := 15) hHeld ?_ | fail
          first | (refine held_t (i := 16) hHeld ?_; constructor; constructor; intro wq hq; focus ((try dsimp only at hq); go_simp; first | done | with_reducible rfl | fail)) | refine held_s (i := 16) hHeld ?_ | fail
          try simp only [Act.put, lay4]
          refine wpAnyH_done (by kernel_rfl) ?_ _
          clear hHeld
          go_wp2
          go_ret
          exact ⟨rfl, HB9.out⟩
        · have HB0 := Lib.hid (HA.out.map Lx hza)
          go_simp
          skip
          refine hK.out _ _ (HCB.out _ _ _ _ HB0.out) (fun hHeld => ?_)
          clear hK K
          try simp only [Act.put, lay4]
          obtain ⟨wb, ewb⟩ : ∃ q, wa.alloc (.map #[] 0) = q := ⟨_, rfl⟩
          have HB := HB0
          rw [ewb] at HB hHeld ⊢
          have hzb : w.heap.size + 2 ≤ wb.heap.size := by rw [← ewb]; exact Nat.le_trans hza (bel1' wa _).size
          have hswb : wa.heap.size < wb.heap.size := by rw [← ewb]; simp
          have hbwb : Below wa.heap.size wa wb := by rw [← ewb]; exact bel1' wa _
          clear ewb HB0
          have CH6 := (CB.swap HB.out).apart (fun q hq => by simp at hq <;> (try (subst hq; simp; omega))) HV.out.1 HL.out.2.2.1 (K := Lx) (by rw [HL.out.1]; omega) (by omega)
          refine held_c 4 fun K hK => ?_
          go_simp
          (go_at_call 87; refine CH6.mono ?_; rintro e w6 ⟨F6, r6, rfl, c_, t_, tt_, in_⟩; have H6 := Lib.hid c_; have TH6 := Lib.hid (And.intro t_ (And.intro tt_ in_)); clear c_ t_ tt_ in_)
          refine hK.out _ _ (HCB.out _ _ _ _ H6.out) (fun hHeld => ?_)
          clear hK K
          try simp only [Act.put, lay4]
          have hz6 : w.heap.size + 2 ≤ w6.heap.size := Nat.le_trans hzb TH6.out.2.1.size
          clear CH6
          have CH8 := H6.out.apart (fun q hq => by simp at hq <;> (try (subst hq; simp; omega))) HV.out.2 HL.out.2.2.2 (K := (Lx + Ly)) (by rw [HL.out.2.1]) (by omega)
          refine held_c 8 fun K hK => ?_
          go_simp
          (go_at_call 87; refine CH8.mono ?_; rintro e w8 ⟨F8, r8, rfl, c_, t_, tt_, in_⟩; have H8 := Lib.hid c_; have TH8 := Lib.hid (And.intro t_ (And.intro tt_ in_)); clear c_ t_ tt_ in_)
          refine hK.out _ _ (HCB.out _ _ _ _ H8.out) (fun hHeld => ?_)
          clear hK K
          try simp only [Act.put, lay4]
          have hz8 : w.heap.size + 2 ≤ w8.heap.size := Nat.le_trans hz6 TH8.out.2.1.size
          clear CH8
          have tx := apart_later TH6.out.1 (Below.refl _ _) (Or.inl hswb) TH8.out.2.1 TH8.out.2.2
          have ty := TmV.stay (Stays.less (D' := awayB F8) fun q hq => by obtain ⟨_, h2⟩ := newU_false.1 hq; simpa [awayB] using h2) _ _ TH8.out.1
          have C9 := H8.out.both tx ty
          rw [show bothB (Lx + Ly) [] (renT ((0 : Nat) : Int) x) (renT (Lx : Int) y) = BR from HBR.out] at C9
          clear tx ty
          refine held_c 9 fun K hK => ?_
          go_simp
          (go_at_call 86; refine C9.mono ?_; rintro e w9 ⟨rfl, b9, p9, q9⟩; have HB9 := Lib.hid b9; clear b9)
          refine hK.out _ _ (HCC.out _ p9 q9) (fun hHeld => ?_)
          clear hK K
          try simp only [Act.put, lay4]
          clear p9 q9 C9
          first | (refine held_t (i := 10) hHeld ?_; constructor; constructor; intro wq hq; focus ((try dsimp only at hq); go_simp; first | done | with_reducible rfl | fail)) | refine held_s (i := 10) hHeld ?_ | fail
          first | (refine held_t (i := 11) hHeld ?_; constructor; constructor; intro wq hq; focus ((try dsimp only at hq); go_simp; first | done | with_reducible rfl | fail)) | refine held_s (i := 11) hHeld ?_ | fail
          first | (refine held_t (i := 12) hHeld ?_; constructor; constructor; intro wq hq; focus ((try dsimp only at hq); go_simp; first | done | with_reducible rfl | fail)) | refine held_s (i := 12) hHeld ?_ | fail
          first | (refine held_t (i := 13) hHeld ?_; constructor; constructor; intro wq hq; focus ((try dsimp only at hq); go_simp; first | done | with_reducible rfl | fail)) | refine held_s (i := 13) hHeld ?_ | fail
          first | (refine held_t (i := 14) hHeld ?_; constructor; constructor; intro wq hq; focus ((try dsimp only at hq); go_simp; first | done | with_reducible rfl | fail)) | refine held_s (i := 14) hHeld ?_ | fail
          first | (refine held_t (i := 15) hHeld ?_; constructor; constructor; intro wq hq; focus ((try dsimp only at hq); go_simp; first | done | with_reducible rfl | fail)) | refine held_s (i := 15) hHeld ?_ | fail
          first | (refine held_t (i := 16) hHeld ?_; constructor; constructor; intro wq hq; focus ((try dsimp only at hq); go_simp; first | done | with_reducible rfl | fail)) | refine held_s (i := 16) hHeld ?_ | fail
          try simp only [Act.put, lay4]
          refine wpAnyH_done (by kernel_rfl) ?_ _
          clear hHeld
          go_wp2
          go_ret
          exact ⟨rfl, HB9.out⟩
      · have HA0 := Lib.hid (HD.out.map Lx hzd)
        go_simp
        skip
        refine hK.out _ _ (HCB.out _ _ _ _ HA0.out) (fun hHeld => ?_)
        clear hK K
        try simp only [Act.put, lay4]
        obtain ⟨wa, ewa⟩ : ∃ q, wd.alloc (.map #[] 0) = q := ⟨_, rfl⟩
        have HA := HA0
        rw [ewa] at HA hHeld ⊢
        have hza : w.heap.size + 2 ≤ wa.heap.size := by rw [← ewa]; exact Nat.le_trans hzd (bel1' wd _).size
        have hswa : wd.heap.size < wa.heap.size := by rw [← ewa]; simp
        have hbwa : Below wd.heap.size wd wa := by rw [← ewa]; exact bel1' wd _
        clear ewa HA0
        have HB0 := Lib.hid (HA.out.map 0 hza)
        refine held_c 3 fun K hK => ?_
        go_simp
        skip
        refine hK.out _ _ (HCB.out _ _ _ _ HB0.out) (fun hHeld => ?_)
        clear hK K
        try simp only [Act.put, lay4]
        obtain ⟨wb, ewb⟩ : ∃ q, wa.alloc (.map #[] 0) = q := ⟨_, rfl⟩
        have HB := HB0
        rw [ewb] at HB hHeld ⊢
        have hzb : w.heap.size + 2 ≤ wb.heap.size := by rw [← ewb]; exact Nat.le_trans hza (bel1' wa _).size
        have hswb : wa.heap.size < wb.heap.size := by rw [← ewb]; simp
        have hbwb : Below wa.heap.size wa wb := by rw [← ewb]; exact bel1' wa _
        clear ewb HB0
        have CH6 := HB.out.apart (fun q hq => by simp at hq <;> (try (subst hq; simp; omega))) HV.out.1 HL.out.2.2.1 (K := Lx) (by rw [HL.out.1]; omega) (by omega)
        refine held_c 4 fun K hK => ?_
        go_simp
        (go_at_call 87; refine CH6.mono ?_; rintro e w6 ⟨F6, r6, rfl, c_, t_, tt_, in_⟩; have H6 := Lib.hid c_; have TH6 := Lib.hid (And.intro t_ (And.intro tt_ in_)); clear c_ t_ tt_ in_)
        refine hK.out _ _ (HCB.out _ _ _ _ H6.out) (fun hHeld => ?_)
        clear hK K
        try simp only [Act.put, lay4]
        have hz6 : w.heap.size + 2 ≤ w6.heap.size := Nat.le_trans hzb TH6.out.2.1.size
        clear CH6
        have CH8 := H6.out.apart (fun q hq => by simp at hq <;> (try (subst hq; simp; omega))) HV.out.2 HL.out.2.2.2 (K := (Lx + Ly)) (by rw [HL.out.2.1]) (by omega)
        refine held_c 8 fun K hK => ?_
        go_simp
        (go_at_call 87; refine CH8.mono ?_; rintro e w8 ⟨F8, r8, rfl, c_, t_, tt_, in_⟩; have H8 := Lib.hid c_; have TH8 := Lib.hid (And.intro t_ (And.intro tt_ in_)); clear c_ t_ tt_ in_)
        refine hK.out _ _ (HCB.out _ _ _ _ H8.out) (fun hHeld => ?_)
        clear hK K
        try simp only [Act.put, lay4]
        have hz8 : w.heap.size + 2 ≤ w8.heap.size := Nat.le_trans hz6 TH8.out.2.1.size
        clear CH8
        have tx := apart_later TH6.out.1 (Below.refl _ _) (Or.inl (by omega)) TH8.out.2.1 TH8.out.2.2
        have ty := TmV.stay (Stays.less (D' := awayB F8) fun q hq => by obtain ⟨_, h2⟩ := newU_false.1 hq; simpa [awayB] using h2) _ _ TH8.out.1
        have C9 := H8.out.both tx ty
        rw [show bothB (Lx + Ly) [] (renT ((0 : Nat) : Int) x) (renT (Lx : Int) y) = BR from HBR.out] at C9
        clear tx ty
        refine held_c 9 fun K hK => ?_
        go_simp
        (go_at_call 86; refine C9.mono ?_; rintro e w9 ⟨rfl, b9, p9, q9⟩; have HB9 := Lib.hid b9; clear b9)
        refine hK.out _ _ (HCC.out _ p9 q9) (fun hHeld => ?_)
        clear hK K
        try simp only [Act.put, lay4]
        clear p9 q9 C9
        first | (refine held_t (i := 10) hHeld ?_; constructor; constructor; intro wq hq; focus ((try dsimp only at hq); go_simp; first | done | with_reducible rfl | fail)) | refine held_s (i := 10) hHeld ?_ | fail
        first | (refine held_t (i := 11) hHeld ?_; constructor; constructor; intro wq hq; focus ((try dsimp only at hq); go_simp; first | done | with_reducible rfl | fail)) | refine held_s (i := 11) hHeld ?_ | fail
        first | (refine held_t (i := 12) hHeld ?_; constructor; constructor; intro wq hq; focus ((try dsimp only at hq); go_simp; first | done | with_reducible rfl | fail)) | refine held_s (i := 12) hHeld ?_ | fail
        first | (refine held_t (i := 13) hHeld ?_; constructor; constructor; intro wq hq; focus ((try dsimp only at hq); go_simp; first | done | with_reducible rfl | fail)) | refine held_s (i := 13) hHeld ?_ | fail
        first | (refine held_t (i := 14) hHeld ?_; constructor; constructor; intro wq hq; focus ((try dsimp only at hq); go_simp; first | done | with_reducible rfl | fail)) | refine held_s (i := 14) hHeld ?_ | fail
        first | (refine held_t (i := 15) hHeld ?_; constructor; constructor; intro wq hq; focus ((try dsimp only at hq); go_simp; first | done | with_reducible rfl | fail)) | refine held_s (i := 15) hHeld ?_ | fail
        first | (refine held_t (i := 16) hHeld ?_; constructor; constructor; intro wq hq; focus ((try dsimp only at hq); go_simp; first | done | with_reducible rfl | fail)) | refine held_s (i := 16) hHeld ?_ | fail
        try simp only [Act.put, lay4]
        refine wpAnyH_done (by kernel_rfl) ?_ _
        clear hHeld
        go_wp2
        go_ret
        exact ⟨rfl, HB9.out⟩
end Go.Proofs.Ytchbbaehdcmcfaa
/- Stage 16's laws: IndexSafe. -/
namespace Go.Proofs.Ytchbbaehdcmcfaa
open Go.RowKit
set_option linter.unusedVariables false
theorem numV_le16 (x : Tm) : numV x ≤ 2000 := by
 unfold numV
 split
 ·rename_i h
  have h1 := (vars_len x []).1
  have := (good_parts h).1
  simp at h1
  omega
 ·simp
theorem could_may {x y : Tm} (h : couldB x y = true) : mayK (keyT x) (keyT y) = true := by
 unfold couldB at h
 rw [Bool.and_eq_true, Bool.and_eq_true] at h
 obtain ⟨⟨hx, hy⟩, hb⟩ := h
 have n1 := numV_le16 x
 have n2 := numV_le16 y
 unfold bothB at hb
 split at hb
 ·rename_i hf
  rw [Bool.and_eq_true] at hf
  have f1 := fitsB_true.1 hf.1
  have f2 := fitsB_true.1 hf.2
  unfold endB at hb
  split at hb
  ·cases hb
  ·have p := uni_post (N := numV x + numV y) 2000 [] _ _ 0 (OkS.nil (by omega)) ⟨(good_parts f1.1).2.2, f1.2⟩ ⟨(good_parts f2.1).2.2, f2.2⟩ (by omega) (by omega)
   have hm := (p.made hb).1
   unfold renT at hm
   rw [sub_sub, sub_sub] at hm
   exact key_may hx hy hm
 ·cases hb
set_option maxHeartbeats 8000000 in
set_option maxRecDepth 100000 in
theorem indexSafe_at {W : World} {vx vy : Value} {x y : Tm} (hx : TmV W x vx) (hy : TmV W y vy) : Calls Try.prog 9 #[vx, vy] W fun e w' => IsBool W true e w' := by
 obtain ⟨kx, nx, sx, ax, mx, cx, rfl⟩ := hx.full
 obtain ⟨ky, ny, sy, ay, my, cy, rfl⟩ := hy.full
 obtain ⟨w1, e1, B1, z1, X1⟩ := box_new W #[.int .i64 kx, .int .i64 nx, .string sx, .slice ax mx cx] 31
 obtain ⟨w2, e2, B2, z2, X2⟩ := box_new w1 #[.int .i64 ky, .int .i64 ny, .string sy, .slice ay my cy] 31
 have B12 := Ext.trans' B1 B2
 have X1 := X1.ext B2
 rw [z1] at X2
 have HE := Lib.hid (And.intro e1 e2)
 have HB2 := Lib.hid (And.intro B12 (And.intro X1 X2))
 have HXY := Lib.hid (And.intro hx hy)
 have DX := Lib.hid (fun (w1 : World) (hb : Below W.heap.size W w1) => deep16_at _ x (Nat.le_refl _) 30 (by unfold I64; omega) w1 _ (TmV.ext hb _ _ hx))
 have DY := Lib.hid (fun (w1 : World) (hb : Below W.heap.size W w1) => deep16_at _ y (Nat.le_refl _) 30 (by unfold I64; omega) w1 _ (TmV.ext hb _ _ hy))
 clear hx hy B1 B2 z1 z2 e1 e2 B12 X1 X2
 go_enter Try.func9, Try.ntmps9
 go_upto_region 1 with fail
 (try rw [HE.out.1, HE.out.2])
 (go_wp2_with fail; go_fit (awake16_at _); rintro e w3 ⟨rfl, b3⟩)
 have HB3 := Lib.hid (Ext.trans' HB2.out.1 b3)
 have HX3 := Lib.hid (And.intro (HB2.out.2.1.ext b3) (HB2.out.2.2.ext b3))
 clear b3
 obtain ⟨x0, x1, x2, x3, _⟩ := HX3.out.1.four
 have C := DX.out w3 HB3.out
 cases hdx : deepT x 30
 rotate_left
 ·rw [hdx] at C
  (go_wp2_with fail; go_fit (C); rintro e w4 ⟨rfl, b4⟩)
  have HB4 := Lib.hid (Ext.trans' HB3.out b4)
  clear b4 hdx C
  go_wp2
  go_ret
  exact ⟨rfl, HB4.out⟩
 rw [hdx] at C
 (go_wp2_with fail; go_fit (C); rintro e w4 ⟨rfl, b4⟩)
 have HB4 := Lib.hid (Ext.trans' HB3.out b4)
 have HX4 := Lib.hid (And.intro (HX3.out.1.ext b4) (HX3.out.2.ext b4))
 clear b4 hdx C x0 x1 x2 x3
 obtain ⟨x0, x1, x2, x3, _⟩ := HX4.out.2.four
 have C := DY.out w4 HB4.out
 cases hdy : deepT y 30
 rotate_left
 ·rw [hdy] at C
  (go_wp2_with fail; go_fit (C); rintro e w5 ⟨rfl, b5⟩)
  have HB5 := Lib.hid (Ext.trans' HB4.out b5)
  clear b5 hdy C
  go_wp2
  go_ret
  exact ⟨rfl, HB5.out⟩
 rw [hdy] at C
 (go_wp2_with fail; go_fit (C); rintro e w5 ⟨rfl, b5⟩)
 have HB5 := Lib.hid (Ext.trans' HB4.out b5)
 have HX5 := Lib.hid (And.intro (HX4.out.1.ext b5) (HX4.out.2.ext b5))
 clear b5 hdy C x0 x1 x2 x3
 have hCell : ∀ wq, Below w5.heap.size w5 wq → ((wq.cell? ⟨W.heap.size, 0, none⟩ = some (.int .i64 kx) ∧ wq.cell? ⟨W.heap.size, 1, none⟩ = some (.int .i64 nx) ∧ wq.cell? ⟨W.heap.size, 2, none⟩ = some (.string sx) ∧ wq.cell? ⟨W.heap.size, 3, none⟩ = some (.slice ax mx cx)) ∧ (wq.cell? ⟨W.heap.size + 1, 0, none⟩ = some (.int .i64 ky) ∧ wq.cell? ⟨W.heap.size + 1, 1, none⟩ = some (.int .i64 ny) ∧ wq.cell? ⟨W.heap.size + 1, 2, none⟩ = some (.string sy) ∧ wq.cell? ⟨W.heap.size + 1, 3, none⟩ = some (.slice ay my cy))) := fun wq hb => by
  obtain ⟨x0, x1, x2, x3, _⟩ := (HX5.out.1.ext hb).four
  obtain ⟨y0, y1, y2, y3, _⟩ := (HX5.out.2.ext hb).four
  exact ⟨⟨x0, x1, x2, x3⟩, y0, y1, y2, y3⟩
 have HC := Lib.hid hCell
 have HT := Lib.hid (fun (wq : World) (hb : Below w5.heap.size w5 wq) => And.intro (TmV.ext (Ext.trans' HB5.out hb) _ _ HXY.out.1) (TmV.ext (Ext.trans' HB5.out hb) _ _ HXY.out.2))
 have hq : ∀ wq : World, (Op.equalIn 10000 91 (ixV (keyT x)) (ixV (keyT x))).run Try.prog wq = .ok true wq := fun wq => by
  have := rxEq (keyT x) (keyT x) wq
  rw [sameKey_self] at this
  exact this
 obtain ⟨⟨kk, nn, ss, rr⟩, hK⟩ : ∃ q, keyT x = q := ⟨_, rfl⟩
 have HQ := Lib.hid (show ∀ wq : World, (Op.equalIn 10000 91 (.agg #[.int .i64 kk, .int .i64 nn, .string ss, .int .i64 rr]) (.agg #[.int .i64 kk, .int .i64 nn, .string ss, .int .i64 rr])).run Try.prog wq = .ok true wq from fun wq => by
  have := hq wq
  rw [hK] at this
  exact this)
 have HK := Lib.hid hK
 clear hCell hq hK
 go_upto_region 5 with fail
 refine wp_region_held_drew (S := fun wq => (wq.cell? ⟨W.heap.size, 0, none⟩ = some (.int .i64 kx) ∧ wq.cell? ⟨W.heap.size, 1, none⟩ = some (.int .i64 nx) ∧ wq.cell? ⟨W.heap.size, 2, none⟩ = some (.string sx) ∧ wq.cell? ⟨W.heap.size, 3, none⟩ = some (.slice ax mx cx)) ∧ (wq.cell? ⟨W.heap.size + 1, 0, none⟩ = some (.int .i64 ky) ∧ wq.cell? ⟨W.heap.size + 1, 1, none⟩ = some (.int .i64 ny) ∧ wq.cell? ⟨W.heap.size + 1, 2, none⟩ = some (.string sy) ∧ wq.cell? ⟨W.heap.size + 1, 3, none⟩ = some (.slice ay my cy))) (by kernel_rfl) (HC.out _ (Below.refl _ _).drew) (fun hHeld => ?_)
 obtain ⟨wd, ewd⟩ : ∃ wd, w5.drew = wd := ⟨_, rfl⟩
 have HBd := Lib.hid (show Below w5.heap.size w5 wd from by rw [← ewd]; exact (Below.refl _ _).drew)
 rw [ewd] at hHeld ⊢
 clear ewd
 first | (refine held_t (i := 0) hHeld ?_; constructor; constructor; intro wq hq; focus ((try dsimp only at hq); go_simp; first | done | with_reducible rfl | fail)) | refine held_s (i := 0) hHeld ?_ | fail
 first | (refine held_t (i := 3) hHeld ?_; constructor; constructor; intro wq hq; focus ((try dsimp only at hq); go_simp; first | done | with_reducible rfl | fail)) | refine held_s (i := 3) hHeld ?_ | fail
 try simp only [Act.put, lay4]
 refine held_c 1 fun K hK => ?_
 go_simp
 (go_at_call 41; refine (ixOf_at x _ _ (HT.out _ HBd.out).1).mono ?_; rintro e w6 ⟨rfl, b6⟩; have HB6 := Lib.hid (Ext.trans' HBd.out b6); rw [HK.out]; clear b6)
 refine hK.out _ _ (HC.out _ HB6.out) (fun hHeld => ?_)
 clear hK K
 try simp only [Act.put, lay4]
 refine held_c 2 fun K hK => ?_
 go_simp
 (go_at_call 49; refine (ixKey_at ⟨kk, nn, ss, rr⟩ _).mono ?_; rintro e w7 ⟨rfl, b7⟩; have HB7 := Lib.hid (Ext.trans' HB6.out b7); clear b7)
 refine hK.out _ _ (HC.out _ HB7.out) (fun hHeld => ?_)
 clear hK K
 try simp only [Act.put, lay4]
 refine held_c 4 fun K hK => ?_
 go_simp
 (go_at_call 53; refine (own16_at x (fun _ => false) _ _ (fun _ _ => rfl) (HT.out _ HB7.out).1).mono ?_; rintro e w8 ⟨v8, rfl, h8, b8⟩; have HB8 := Lib.hid (Ext.trans' HB7.out b8); have H8 := Lib.hid h8.bare; clear b8 h8)
 refine hK.out _ _ (HC.out _ HB8.out) (fun hHeld => ?_)
 clear hK K
 try simp only [Act.put, lay4]
 refine held_c 5 fun K hK => ?_
 go_simp
 (go_at_call 52; refine (rxKeyOf_at x _ _ H8.out).mono ?_; rintro e w9 ⟨rfl, b9⟩; have HB9 := Lib.hid (Ext.trans' HB8.out b9); have hq := HQ.out; rw [HK.out]; clear b9)
 refine hK.out _ _ (HC.out _ HB9.out) (fun hHeld => ?_)
 clear hK K
 try simp only [Act.put, lay4]
 first | (refine held_t (i := 6) hHeld ?_; constructor; constructor; intro wq hq; focus ((try dsimp only at hq); go_simp; first | done | with_reducible rfl | fail)) | refine held_s (i := 6) hHeld ?_ | fail
 try simp only [Act.put, lay4]
 refine wpAnyH_done (by kernel_rfl) ?_ _
 clear hHeld
 try clear hq
 go_upto_region 7 with fail
 refine wp_region_held_drew (S := fun wq => (wq.cell? ⟨W.heap.size, 0, none⟩ = some (.int .i64 kx) ∧ wq.cell? ⟨W.heap.size, 1, none⟩ = some (.int .i64 nx) ∧ wq.cell? ⟨W.heap.size, 2, none⟩ = some (.string sx) ∧ wq.cell? ⟨W.heap.size, 3, none⟩ = some (.slice ax mx cx)) ∧ (wq.cell? ⟨W.heap.size + 1, 0, none⟩ = some (.int .i64 ky) ∧ wq.cell? ⟨W.heap.size + 1, 1, none⟩ = some (.int .i64 ny) ∧ wq.cell? ⟨W.heap.size + 1, 2, none⟩ = some (.string sy) ∧ wq.cell? ⟨W.heap.size + 1, 3, none⟩ = some (.slice ay my cy))) (by kernel_rfl) (HC.out _ HB9.out.drew) (fun hHeld => ?_)
 obtain ⟨wd2, ewd⟩ : ∃ wd, w9.drew = wd := ⟨_, rfl⟩
 have HBe := Lib.hid (show Below w5.heap.size w5 wd2 from by rw [← ewd]; exact HB9.out.drew)
 rw [ewd] at hHeld ⊢
 clear ewd
 first | (refine held_t (i := 0) hHeld ?_; constructor; constructor; intro wq hq; focus ((try dsimp only at hq); go_simp; first | done | with_reducible rfl | fail)) | refine held_s (i := 0) hHeld ?_ | fail
 first | (refine held_t (i := 1) hHeld ?_; constructor; constructor; intro wq hq; focus ((try dsimp only at hq); go_simp; first | done | with_reducible rfl | fail)) | refine held_s (i := 1) hHeld ?_ | fail
 try simp only [Act.put, lay4]
 have CC := Lib.hid (Could_at x y wd2 _ _ (HT.out _ HBe.out).1 (HT.out _ HBe.out).2)
 cases hcb : couldB x y
 ·rw [hcb] at CC
  refine held_c 2 fun K hK => ?_
  go_simp
  (go_at_call 54; refine CC.out.mono ?_; rintro e w10 ⟨rfl, b10⟩; have HB10 := Lib.hid (Ext.trans' HBe.out b10); clear b10)
  refine hK.out _ _ (HC.out _ HB10.out) (fun hHeld => ?_)
  clear hK K
  try simp only [Act.put, lay4]
  first | (refine held_t (i := 3) hHeld ?_; constructor; constructor; intro wq hq; focus ((try dsimp only at hq); go_simp; first | done | with_reducible rfl | fail)) | refine held_s (i := 3) hHeld ?_ | fail
  first | (refine held_t (i := 4) hHeld ?_; constructor; constructor; intro wq hq; focus ((try dsimp only at hq); go_simp; first | done | with_reducible rfl | fail)) | refine held_s (i := 4) hHeld ?_ | fail
  first | (refine held_t (i := 5) hHeld ?_; constructor; constructor; intro wq hq; focus ((try dsimp only at hq); go_simp; first | done | with_reducible rfl | fail)) | refine held_s (i := 5) hHeld ?_ | fail
  first | (refine held_t (i := 6) hHeld ?_; constructor; constructor; intro wq hq; focus ((try dsimp only at hq); go_simp; first | done | with_reducible rfl | fail)) | refine held_s (i := 6) hHeld ?_ | fail
  first | (refine held_t (i := 7) hHeld ?_; constructor; constructor; intro wq hq; focus ((try dsimp only at hq); go_simp; first | done | with_reducible rfl | fail)) | refine held_s (i := 7) hHeld ?_ | fail
  first | (refine held_t (i := 8) hHeld ?_; constructor; constructor; intro wq hq; focus ((try dsimp only at hq); go_simp; first | done | with_reducible rfl | fail)) | refine held_s (i := 8) hHeld ?_ | fail
  first | (refine held_t (i := 9) hHeld ?_; constructor; constructor; intro wq hq; focus ((try dsimp only at hq); go_simp; first | done | with_reducible rfl | fail)) | refine held_s (i := 9) hHeld ?_ | fail
  first | (refine held_t (i := 10) hHeld ?_; constructor; constructor; intro wq hq; focus ((try dsimp only at hq); go_simp; first | done | with_reducible rfl | fail)) | refine held_s (i := 10) hHeld ?_ | fail
  first | (refine held_t (i := 11) hHeld ?_; constructor; constructor; intro wq hq; focus ((try dsimp only at hq); go_simp; first | done | with_reducible rfl | fail)) | refine held_s (i := 11) hHeld ?_ | fail
  try simp only [Act.put, lay4]
  refine wpAnyH_done (by kernel_rfl) ?_ _
  clear hHeld
  go_wp2
  go_ret
  exact ⟨rfl, Ext.trans' HB5.out HB10.out⟩
 ·rw [hcb] at CC
  have hmay := could_may hcb
  rw [HK.out] at hmay
  refine held_c 2 fun K hK => ?_
  go_simp
  (go_at_call 54; refine CC.out.mono ?_; rintro e w10 ⟨rfl, b10⟩; have HB10 := Lib.hid (Ext.trans' HBe.out b10); clear b10)
  refine hK.out _ _ (HC.out _ HB10.out) (fun hHeld => ?_)
  clear hK K
  try simp only [Act.put, lay4]
  first | (refine held_t (i := 3) hHeld ?_; constructor; constructor; intro wq hq; focus ((try dsimp only at hq); go_simp; first | done | with_reducible rfl | fail)) | refine held_s (i := 3) hHeld ?_ | fail
  first | (refine held_t (i := 4) hHeld ?_; constructor; constructor; intro wq hq; focus ((try dsimp only at hq); go_simp; first | done | with_reducible rfl | fail)) | refine held_s (i := 4) hHeld ?_ | fail
  first | (refine held_t (i := 5) hHeld ?_; constructor; constructor; intro wq hq; focus ((try dsimp only at hq); go_simp; first | done | with_reducible rfl | fail)) | refine held_s (i := 5) hHeld ?_ | fail
  first | (refine held_t (i := 7) hHeld ?_; constructor; constructor; intro wq hq; focus ((try dsimp only at hq); go_simp; first | done | with_reducible rfl | fail)) | refine held_s (i := 7) hHeld ?_ | fail
  try simp only [Act.put, lay4]
  refine held_c 6 fun K hK => ?_
  go_simp
  (go_at_call 41; refine (ixOf_at x _ _ (HT.out _ HB10.out).1).mono ?_; rintro e w11 ⟨rfl, b11⟩; have HB11 := Lib.hid (Ext.trans' HB10.out b11); rw [HK.out]; clear b11)
  refine hK.out _ _ (HC.out _ HB11.out) (fun hHeld => ?_)
  clear hK K
  try simp only [Act.put, lay4]
  refine held_c 8 fun K hK => ?_
  go_simp
  (go_at_call 41; refine (ixOf_at y _ _ (HT.out _ HB11.out).2).mono ?_; rintro e w12 ⟨rfl, b12⟩; have HB12 := Lib.hid (Ext.trans' HB11.out b12); clear b12)
  refine hK.out _ _ (HC.out _ HB12.out) (fun hHeld => ?_)
  clear hK K
  try simp only [Act.put, lay4]
  refine held_c 9 fun K hK => ?_
  go_simp
  (go_at_call 47; refine (ixMay_at ⟨kk, nn, ss, rr⟩ (keyT y) _).mono ?_; rintro e w13 ⟨rfl, b13⟩; have HB13 := Lib.hid (Ext.trans' HB12.out b13); rw [hmay]; clear b13)
  refine hK.out _ _ (HC.out _ HB13.out) (fun hHeld => ?_)
  clear hK K
  try simp only [Act.put, lay4]
  first | (refine held_t (i := 10) hHeld ?_; constructor; constructor; intro wq hq; focus ((try dsimp only at hq); go_simp; first | done | with_reducible rfl | fail)) | refine held_s (i := 10) hHeld ?_ | fail
  first | (refine held_t (i := 11) hHeld ?_; constructor; constructor; intro wq hq; focus ((try dsimp only at hq); go_simp; first | done | with_reducible rfl | fail)) | refine held_s (i := 11) hHeld ?_ | fail
  try simp only [Act.put, lay4]
  refine wpAnyH_done (by kernel_rfl) ?_ _
  clear hHeld
  go_wp2
  go_ret
  exact ⟨rfl, Ext.trans' HB5.out HB13.out⟩
end Go.Proofs.Ytchbbaehdcmcfaa
/- IndexSafe: a head that could be made alike with a call is picked for it: for every input the law answers true. No condition. -/
namespace Go.Proofs.Ytchbbaehdcmcfaa
open Go.RowKit
namespace indexSafe
open Go.ChangeShapes Go.WideShapes Go.ChangeAt Go.RowKit
theorem own : ownKnob Try.prog.godebug = none := by kernel_rfl
theorem laidOut : laidOutB Try.prog = true := by kernel_rfl
set_option linter.unusedVariables false
set_option maxRecDepth 100000 in
theorem lifted (os : Os) (started : os.Started) (H : Type) (enc : TypeId × Value → H) :
  ReturnsInHanded {} Try.checked os 9 .any (Rows.indexSafeSpec.pre6 enc Try.prog Try.f9 Rows.indexSafeRow.domain false) (Rows.indexSafeSpec.post enc Try.prog Try.f9 false true false false) := by
 refine returnsInHanded_of_change_sized (C := Try.checked) own started (by kernel_rfl) Try.func9
  (ChangeSpec.witness6 (enc := enc) (C := Try.checked) false ⟨#[], #[.agg #[.int .i64 0,.int .i64 0,.string ⟨#[]⟩,.slice none 0 0], .agg #[.int .i64 0,.int .i64 0,.string ⟨#[]⟩,.slice none 0 0]], []⟩ 8 (by kernel_rfl) (by kernel_rfl) (by kernel_rfl) (by kernel_rfl)) ?_
 intro W base args ds gs before hval0 hW hcnd hsz0 _
 have hval : ∀ (j : Nat) t v, Try.f9.params[j]? = some t → args[j]? = some v → Value.okWide Try.prog W .any base t v := hval0
 have hW' := hW
 obtain ⟨p, q, hA0, hV, rfl, hfz, hnd⟩ := hW
 have hA : DataW.TrodAll enc Try.prog W 0 (fun _ => true) true Try.f9.params.toList args.toList ds p := hA0
 have hsz : (DataW.weightsEach Try.prog (Try.f9.params.toList ++ []) (ds ++ gs)).all (· ≤ reachBytes) = true := hsz0
 rw [Try.params9] at hA hval hsz
 obtain ⟨v0, vs0, d0, ds0, p0, q0, hargs, rfl, rfl, h0, r0⟩ := trodAll_cons hA
 obtain ⟨v1, vs1, d1, ds1, p1, q1, rfl, rfl, rfl, h1, r1⟩ := trodAll_cons r0
 obtain ⟨rfl, rfl, rfl⟩ := trodAll_nil r1
 obtain rfl : args = #[v0, v1] := by cases args; simp_all
 obtain ⟨rfl, rfl⟩ := trodVars_none hV
 clear hA0 hval0 hsz0
 have k0 := h0
 have lt0 := lt_of_trod h0
 have k1 := h1
 have lt1 := lt_of_trod h1
 obtain ⟨a0, w0⟩ := term_of_trod h0 (hval 0 31 v0 rfl rfl) (weights_ok hsz (j := 0) (t := 31) (d := d0) rfl rfl)
 obtain ⟨a1, w1⟩ := term_of_trod h1 (hval 1 31 v1 rfl rfl) (weights_ok hsz (j := 1) (t := 31) (d := d1) rfl rfl)
 refine (indexSafe_at w0 w1).mono fun e W' ⟨he, bel⟩ => ?_
 subst he
 exact ⟨_, rfl, _, _, _, [], _, [], hW', trodAll_mk1 (shut_bool Try.underlying4 _), (trodAll_cons_mk (Below.trod laidOut (by kernel_rfl) (of_decide_eq_true (by kernel_rfl)) k0 bel lt0) (trodAll_cons_mk (Below.trod laidOut (by kernel_rfl) (of_decide_eq_true (by kernel_rfl)) k1 bel lt1) trodAll_mk0)), rfl, bel.frame _, fun h => by cases h⟩
theorem proved : Rows.IndexSafeSaid :=
 OpenClaim.holds_of_wide 9 Try.f9 rfl rfl rfl rfl rfl rfl rfl ⟨rfl, rfl, rfl, rfl, rfl⟩ rfl rfl rfl rfl rfl (by kernel_rfl) Try.func9 (by kernel_rfl)
  (of_decide_eq_true (by kernel_rfl)) (by unfold Func.isWrapper; first | (rw [if_pos (by decide +kernel)]; kernel_rfl) | (rw [if_neg (by decide +kernel)]; exact ⟨rfl, rfl⟩))
  (fun os started H enc _ => lifted os started H enc)
#print axioms proved
end indexSafe
end Go.Proofs.Ytchbbaehdcmcfaa
