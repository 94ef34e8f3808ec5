import Derived.Test.YtjhoekhfikcanaaHqdao
import Derived.Test.YtjhoekhfikcanaaHqdap
import Derived.Test.YtjhoekhfikcanaaHqdac
import Derived.Test.YtjhoekhfikcanaaRows
set_option linter.unusedVariables false
set_option linter.unusedSimpArgs false
/- Stage 12's laws: UnifyMakes. -/
namespace Go.Proofs.Ytjhoekhfikcanaa
open Go.RowKit
set_option linter.unusedVariables false

theorem IsB.old {W V w : World} {F : List Nat} {p : Value} {N : Nat} {R : List (Int × Tm)} (hF : ∀ k ∈ F, W.heap.size ≤ k) (hb : Below W.heap.size W w) : Stays W (hide (awayB F) w) := by
  refine ⟨by rw [hide_size]; exact hb.size, fun a v hv => ?_⟩
  have hl := World.block_lt_of_cell? _ _ hv
  have n1 : ¬ a.block ∈ F := fun hm => by have := hF _ hm; omega
  rw [hide_cell _ _ _ (by simp [awayB, n1])]
  exact cell_later hb hv
/-- What the two Boths of the law answer. -/
theorem makes_cases (x y : Tm) : ((bothB 8 [] x y).ok = false ∧ (bothB 8 [] y x).ok = false ∧ (bothB 8 [] x y).err = 1 ∧ (bothB 8 [] y x).err = 1) ∨
    (fitsB 8 x = true ∧ fitsB 8 y = true ∧ (bothB 8 [] x y).err = 12 ∧ (bothB 8 [] x y).ok = false) ∨
    (fitsB 8 x = true ∧ fitsB 8 y = true ∧ (bothB 8 [] x y).err = 0 ∧ (bothB 8 [] y x).err = 12 ∧ (bothB 8 [] y x).ok = false) ∨
    (fitsB 8 x = true ∧ fitsB 8 y = true ∧ (bothB 8 [] x y).err = 0 ∧ (bothB 8 [] y x).err = 0 ∧ (bothB 8 [] x y).ok = false ∧ (bothB 8 [] y x).ok = false ∧ (bothB 8 [] x y).set = [] ∧ (bothB 8 [] y x).set = []) ∨
    (fitsB 8 x = true ∧ fitsB 8 y = true ∧ (bothB 8 [] x y).err = 0 ∧ (bothB 8 [] y x).err = 0 ∧ (bothB 8 [] x y).ok = true ∧ (bothB 8 [] y x).ok = true ∧
      subT (fullB (bothB 8 [] x y).set) x = subT (fullB (bothB 8 [] x y).set) y ∧ renT 0 (subT (fullB (bothB 8 [] x y).set) x) = renT 0 (subT (fullB (bothB 8 [] y x).set) x) ∧ goodT (subT (fullB (bothB 8 [] x y).set) x) = goodT (subT (fullB (bothB 8 [] y x).set) x)) := by
  unfold bothB
  cases hx : fitsB 8 x
  · left; exact ⟨rfl, by simp, rfl, by simp⟩
  cases hy : fitsB 8 y
  · left; exact ⟨rfl, rfl, rfl, rfl⟩
  right
  rw [if_pos (by rfl), if_pos (by rfl)]
  have hs := uni_swap (N := 8) (by omega) (fits_in hx) (fits_in hy)
  unfold endB
  by_cases h1 : 2000 < (uniT 2000 [] x y 0).cost
  · left
    rw [if_pos h1]
    exact ⟨rfl, rfl, rfl, rfl⟩
  right
  rw [if_neg h1]
  by_cases h2 : 2000 < (uniT 2000 [] y x 0).cost
  · left
    rw [if_pos h2]
    exact ⟨rfl, rfl, rfl, rfl, rfl⟩
  right
  rw [if_neg h2]
  obtain ⟨g1, g2⟩ := hs (by omega) (by omega)
  cases hb : (uniT 2000 [] x y 0).ok
  · left
    rw [hb] at g1
    rw [← g1]
    exact ⟨rfl, rfl, rfl, rfl, rfl, rfl, rfl, rfl⟩
  · right
    rw [hb] at g1
    rw [← g1]
    obtain ⟨g3, g4, g5⟩ := g2 hb
    exact ⟨rfl, rfl, rfl, rfl, rfl, rfl, g3, g4, g5⟩
theorem sync_nil {R : List (Int × Tm)} (h : Sync R []) : R.length = 0 := h.len
set_option maxHeartbeats 16000000 in
set_option maxRecDepth 100000 in
theorem unifyMakes_at {W : World} {vx vy : Value} {x y : Tm} (hx : TmV W x vx) (hy : TmV W y vy) :
    Calls Try.prog 8 #[vx, vy] W fun e w' => e = .returned (.bool true) ∧ Below W.heap.size W w' := by
  obtain ⟨kx, nx, sx, ax, mx, cx, rfl⟩ := hx.full
  obtain ⟨ky, ny, sy, ay, my, cy, rfl⟩ := hy.full
  obtain ⟨w1, e1, B1, z1, X1⟩ := box_new W #[.int .i64 kx, .int .i64 nx, .string sx, .slice ax mx cx] 31
  obtain ⟨w2, e2, B2, z2, X2⟩ := box_new w1 #[.int .i64 ky, .int .i64 ny, .string sy, .slice ay my cy] 31
  have B12 := Ext.trans' B1 B2
  have X1 := X1.ext B2
  rw [z1] at X2
  have HE := Lib.hid (And.intro e1 e2)
  have HB2 := Lib.hid (And.intro B12 (And.intro X1 X2))
  have HXY := Lib.hid (And.intro hx hy)
  have DX := Lib.hid (fun (w1 : World) (hb : Below W.heap.size W w1) => deep12_at _ x (Nat.le_refl _) 30 (by unfold I64; omega) w1 _ (TmV.ext hb _ _ hx))
  have DY := Lib.hid (fun (w1 : World) (hb : Below W.heap.size W w1) => deep12_at _ y (Nat.le_refl _) 30 (by unfold I64; omega) w1 _ (TmV.ext hb _ _ hy))
  clear hx hy B1 B2 z1 z2 e1 e2 B12 X1 X2
  go_enter Try.func8, Try.ntmps8
  go_upto_region 1 with fail
  (try rw [HE.out.1, HE.out.2])
  (go_wp2_with fail; go_fit (uawake_at _); rintro e w3 ⟨rfl, b3⟩)
  have HB3 := Lib.hid (Ext.trans' HB2.out.1 b3)
  have HX3 := Lib.hid (And.intro (HB2.out.2.1.ext b3) (HB2.out.2.2.ext b3))
  clear b3
  obtain ⟨x0, x1, x2, x3, _⟩ := HX3.out.1.four
  have C := DX.out w3 HB3.out
  cases hdx : deepT x 30
  rotate_left
  · rw [hdx] at C
    (go_wp2_with fail; go_fit (C); rintro e w4 ⟨rfl, b4⟩)
    have HB4 := Lib.hid (Ext.trans' HB3.out b4)
    clear b4 hdx C
    go_wp2
    go_ret
    exact ⟨rfl, HB4.out⟩
  rw [hdx] at C
  (go_wp2_with fail; go_fit (C); rintro e w4 ⟨rfl, b4⟩)
  have HB4 := Lib.hid (Ext.trans' HB3.out b4)
  have HX4 := Lib.hid (And.intro (HX3.out.1.ext b4) (HX3.out.2.ext b4))
  clear b4 hdx C x0 x1 x2 x3
  obtain ⟨x0, x1, x2, x3, _⟩ := HX4.out.2.four
  have C := DY.out w4 HB4.out
  cases hdy : deepT y 30
  rotate_left
  · rw [hdy] at C
    (go_wp2_with fail; go_fit (C); rintro e w5 ⟨rfl, b5⟩)
    have HB5 := Lib.hid (Ext.trans' HB4.out b5)
    clear b5 hdy C
    go_wp2
    go_ret
    exact ⟨rfl, HB5.out⟩
  rw [hdy] at C
  (go_wp2_with fail; go_fit (C); rintro e w5 ⟨rfl, b5⟩)
  have HB5 := Lib.hid (Ext.trans' HB4.out b5)
  have HX5 := Lib.hid (And.intro (HX4.out.1.ext b5) (HX4.out.2.ext b5))
  clear b5 hdy C x0 x1 x2 x3
  (go_wp2_with fail; go_fit (both12_at (V := w5) (Stays.refl w5) 8 (by omega)); rintro e w6 ⟨p, q, rfl, h6⟩)
  obtain ⟨F, Fq, hI, hIq, hF, _, _, hB⟩ := h6
  obtain ⟨bq, rfl⟩ : ∃ bq, q = .pointer (some ⟨bq, 0, none⟩) := by obtain ⟨bt, _, _, _, _, _, _, rfl, _⟩ := hIq.open; exact ⟨bt, rfl⟩
  have hst : Stays w5 (hide (awayB F) w6) := IsB.old (V := w5) (p := p) (N := 8) (R := []) hF hB
  have hI6 := hI.rebase
  have HV := Lib.hid (show TmV (hide (awayB F) w6) x (.agg #[.int .i64 kx, .int .i64 nx, .string sx, .slice ax mx cx]) ∧ TmV (hide (awayB F) w6) y (.agg #[.int .i64 ky, .int .i64 ny, .string sy, .slice ay my cy]) from ⟨TmV.stay hst _ _ (TmV.ext HB5.out _ _ HXY.out.1), TmV.stay hst _ _ (TmV.ext HB5.out _ _ HXY.out.2)⟩)
  have HVC := Lib.hid (show (∀ j u, [Value.int .i64 kx, .int .i64 nx, .string sx, .slice ax mx cx][j]? = some u → (hide (awayB F) w6).cell? ⟨W.heap.size, j, none⟩ = some u) ∧ (∀ j u, [Value.int .i64 ky, .int .i64 ny, .string sy, .slice ay my cy][j]? = some u → (hide (awayB F) w6).cell? ⟨W.heap.size + 1, j, none⟩ = some u) from ⟨fun j u hj => hst.2 _ _ (HX5.out.1.cells j u hj), fun j u hj => hst.2 _ _ (HX5.out.2.cells j u hj)⟩)
  have HB6 := Lib.hid (HB5.out.trans (hB.mono HB5.out.size))
  have HLT := Lib.hid (And.intro hI.lt hF)
  have hsV : Stays (hide (awayB F) w6) w6 := Stays.unhide _ _
  clear hst hI hIq hF hB HX3 HX4 HB2 HB3 HB4 DX DY
  generalize hide (awayB F) w6 = V at *
  have HI6 := Lib.hid hI6
  clear hI6
  (go_wp2_with fail; go_fit (both12_at (V := V) hsV 8 (by omega)); rintro e w7 ⟨p2, q2, rfl, h7⟩)
  obtain ⟨F3, Fq2, hI2, hIq2, hF3, _, _, hB7⟩ := h7
  obtain ⟨bq2, rfl⟩ : ∃ bq, q2 = .pointer (some ⟨bq, 0, none⟩) := by obtain ⟨bt, _, _, _, _, _, _, rfl, _⟩ := hIq2.open; exact ⟨bt, rfl⟩
  have HA := Lib.hid (show IsB V F w7 p 8 [] ∧ IsB V F3 w7 p2 8 [] ∧ (∀ k ∈ F, ¬ k ∈ F3) ∧ (∀ k ∈ F, W.heap.size ≤ k) ∧ (∀ k ∈ F3, W.heap.size ≤ k) ∧ Below W.heap.size W w7 from
    ⟨HI6.out.ext hB7, hI2, fun k hk hm => by have := HLT.out.1 k hk; have := hF3 k hm; omega, fun k hk => Nat.le_trans HB5.out.size (HLT.out.2 k hk), fun k hk => Nat.le_trans HB6.out.size (hF3 k hk), HB6.out.trans (hB7.mono HB6.out.size)⟩)
  clear hsV hI2 hIq2 hF3 hB7
  obtain ⟨b1, hb1⟩ : ∃ b, bothB 8 [] x y = b := ⟨_, rfl⟩
  obtain ⟨b2, hb2⟩ : ∃ b, bothB 8 [] y x = b := ⟨_, rfl⟩
  have hcs := makes_cases x y
  rw [hb1, hb2] at hcs
  have C := Both_at HA.out.1 (S := []) trivial HV.out.1 HV.out.2
  rw [hb1] at C
  have HBB := Lib.hid hb2
  have HCS := Lib.hid hcs
  clear hb1 hb2 hcs
  have x0 := HA.out.1.see.1.2 _ _ (HVC.out.1 0 _ rfl)
  have x1 := HA.out.1.see.1.2 _ _ (HVC.out.1 1 _ rfl)
  have x2 := HA.out.1.see.1.2 _ _ (HVC.out.1 2 _ rfl)
  have x3 := HA.out.1.see.1.2 _ _ (HVC.out.1 3 _ rfl)
  have y0 := HA.out.1.see.1.2 _ _ (HVC.out.2 0 _ rfl)
  have y1 := HA.out.1.see.1.2 _ _ (HVC.out.2 1 _ rfl)
  have y2 := HA.out.1.see.1.2 _ _ (HVC.out.2 2 _ rfl)
  have y3 := HA.out.1.see.1.2 _ _ (HVC.out.2 3 _ rfl)
  (go_wp2_with fail; go_fit (C); rintro e w8 ⟨F8, R8, rfl, i8, s8, t8, in8⟩)
  have H8 := Lib.hid (show IsB V F8 w8 p 8 R8 ∧ Sync R8 b1.set ∧ IsB V F3 w8 p2 8 [] ∧ (∀ k ∈ F8, ¬ k ∈ F3) ∧ (∀ k ∈ F8, W.heap.size ≤ k) ∧ Below W.heap.size W w8 from
    ⟨i8, s8, HA.out.2.1.touch t8 HA.out.2.2.1 HA.out.1.see.2, fun k hk hm => (in8 k hk).elim (fun h => HA.out.2.2.1 k h hm) (fun h => by have := HA.out.2.1.lt k hm; omega), fun k hk => (in8 k hk).elim (HA.out.2.2.2.1 k) (fun h => Nat.le_trans HA.out.2.2.2.2.2.size h), Touch.own HA.out.2.2.2.2.2 t8 HA.out.2.2.2.1⟩)
  clear i8 s8 t8 in8 C x0 x1 x2 x3 y0 y1 y2 y3
  have C := Both_at H8.out.2.2.1 (S := []) trivial HV.out.2 HV.out.1
  rw [HBB.out] at C
  have x0 := H8.out.1.see.1.2 _ _ (HVC.out.1 0 _ rfl)
  have x1 := H8.out.1.see.1.2 _ _ (HVC.out.1 1 _ rfl)
  have x2 := H8.out.1.see.1.2 _ _ (HVC.out.1 2 _ rfl)
  have x3 := H8.out.1.see.1.2 _ _ (HVC.out.1 3 _ rfl)
  have y0 := H8.out.1.see.1.2 _ _ (HVC.out.2 0 _ rfl)
  have y1 := H8.out.1.see.1.2 _ _ (HVC.out.2 1 _ rfl)
  have y2 := H8.out.1.see.1.2 _ _ (HVC.out.2 2 _ rfl)
  have y3 := H8.out.1.see.1.2 _ _ (HVC.out.2 3 _ rfl)
  (go_wp2_with fail; go_fit (C); rintro e w9 ⟨F9, R9, rfl, i9, s9, t9, in9⟩)
  have H9 := Lib.hid (show IsB V F8 w9 p 8 R8 ∧ Sync R8 b1.set ∧ IsB V F9 w9 p2 8 R9 ∧ Sync R9 b2.set ∧ Below W.heap.size W w9 from
    ⟨H8.out.1.touch t9 (fun k hk hm => H8.out.2.2.2.1 k hm hk) H8.out.2.2.1.see.2, H8.out.2.1, i9, s9, Touch.own H8.out.2.2.2.2.2 t9 HA.out.2.2.2.2.1⟩)
  clear i9 s9 t9 in9 C x0 x1 x2 x3 y0 y1 y2 y3
  obtain ⟨ok1, cost1, err1, set1⟩ := b1
  obtain ⟨ok2, cost2, err2, set2⟩ := b2
  have hcs := HCS.out
  simp only at hcs
  clear HCS
  rcases hcs with ⟨rfl, rfl, rfl, rfl⟩ | ⟨hfx, hfy, rfl, rfl⟩ | ⟨hfx, hfy, rfl, rfl, rfl⟩ | ⟨hfx, hfy, rfl, rfl, rfl, rfl, rfl, rfl⟩ | ⟨hfx, hfy, rfl, rfl, rfl, rfl, hsame, hren, hgood⟩
  · go_wp2
    go_ret
    exact ⟨rfl, H9.out.2.2.2.2⟩
  · clear hfx hfy
    go_wp2
    go_ret
    exact ⟨rfl, H9.out.2.2.2.2⟩
  · clear hfx hfy
    cases ok1
    · go_wp2
      go_ret
      exact ⟨rfl, H9.out.2.2.2.2⟩
    · go_wp2
      go_ret
      exact ⟨rfl, H9.out.2.2.2.2⟩
  · clear hfx hfy
    have C := Mark_at H9.out.1
    rw [sync_nil H9.out.2.1] at C
    (go_wp2_with fail; go_fit (C); rintro e w10 ⟨rfl, rfl⟩)
    have C2 := Mark_at H9.out.2.2.1
    rw [sync_nil H9.out.2.2.2.1] at C2
    clear C
    (go_wp2_with fail; go_fit (C2); rintro e w10 ⟨rfl, rfl⟩)
    go_wp2
    go_ret
    exact ⟨rfl, H9.out.2.2.2.2⟩
  · obtain ⟨T, U, ec, q1, q2, q3, q4⟩ : ∃ (T U : Tm) (ec : Int), wholeB 8 R8 x = (T, ec) ∧ wholeB 8 R8 y = (T, ec) ∧ wholeB 8 R9 x = (U, ec) ∧ (ec = 12 ∨ (ec = 0 ∧ goodT T = true ∧ goodT U = true ∧ renT 0 T = renT 0 U)) := by
      unfold wholeB
      rw [hfx, hfy, if_pos rfl, if_pos rfl, if_pos rfl, H9.out.2.1.full, H9.out.2.2.2.1.full, ← hsame, ← hgood]
      cases hG : goodT (subT (fullB set1) x)
      · exact ⟨_, _, _, rfl, rfl, rfl, Or.inl rfl⟩
      · exact ⟨_, _, _, rfl, rfl, rfl, Or.inr ⟨rfl, hG, by rw [← hgood]; exact hG, hren⟩⟩
    have HQ := Lib.hid (And.intro q2 (And.intro q3 q4))
    have C := Whole_at H9.out.1 HV.out.1
    rw [q1] at C
    clear q1 q2 q3 q4 hfx hfy hsame hren hgood
    have x0 := H9.out.1.see.1.2 _ _ (HVC.out.1 0 _ rfl)
    have x1 := H9.out.1.see.1.2 _ _ (HVC.out.1 1 _ rfl)
    have x2 := H9.out.1.see.1.2 _ _ (HVC.out.1 2 _ rfl)
    have x3 := H9.out.1.see.1.2 _ _ (HVC.out.1 3 _ rfl)
    (go_wp2_with fail; go_fit (C); rintro e w10 ⟨r, rfl, hr, b10⟩)
    obtain ⟨k10, n10, s10, a10, m10, c10, rfl, f1, f2, f3, f4⟩ := four_of hr
    obtain ⟨w11, e11, b11, z11, x11⟩ := box_new w10 #[.int .i64 k10, .int .i64 n10, .string s10, .slice a10 m10 c10] 31
    have HB11 := Lib.hid (Ext.trans' b10 b11)
    have HX11 := Lib.hid (And.intro x11 (TmV.ext b11 _ _ hr.bare))
    have HE11 := Lib.hid e11
    clear f1 f2 f3 f4 hr b10 b11 z11 x11 e11 C x0 x1 x2 x3
    have C := Whole_at (H9.out.1.ext HB11.out) HV.out.2
    rw [HQ.out.1] at C
    have y0 := (H9.out.1.ext HB11.out).see.1.2 _ _ (HVC.out.2 0 _ rfl)
    have y1 := (H9.out.1.ext HB11.out).see.1.2 _ _ (HVC.out.2 1 _ rfl)
    have y2 := (H9.out.1.ext HB11.out).see.1.2 _ _ (HVC.out.2 2 _ rfl)
    have y3 := (H9.out.1.ext HB11.out).see.1.2 _ _ (HVC.out.2 3 _ rfl)
    go_upto_region 16 with fail
    (try rw [HE11.out])
    (go_wp2_with fail; go_fit (C); rintro e w12 ⟨r, rfl, hr, b12⟩)
    obtain ⟨k12, n12, s12, a12, m12, c12, rfl, f1, f2, f3, f4⟩ := four_of hr
    obtain ⟨w13, e13, b13, z13, x13⟩ := box_new w12 #[.int .i64 k12, .int .i64 n12, .string s12, .slice a12 m12 c12] 31
    have hb13 := Ext.trans' b12 b13
    have HB13 := Lib.hid (Ext.trans' HB11.out hb13)
    have HX13 := Lib.hid (And.intro (And.intro (HX11.out.1.ext hb13) (TmV.ext hb13 _ _ HX11.out.2)) (And.intro x13 (TmV.ext b13 _ _ hr.bare)))
    have HE13 := Lib.hid e13
    clear f1 f2 f3 f4 hr b12 b13 hb13 z13 x13 e13 C y0 y1 y2 y3
    have C := Whole_at (H9.out.2.2.1.ext HB13.out) HV.out.1
    rw [HQ.out.2.1] at C
    have x0 := (H9.out.1.ext HB13.out).see.1.2 _ _ (HVC.out.1 0 _ rfl)
    have x1 := (H9.out.1.ext HB13.out).see.1.2 _ _ (HVC.out.1 1 _ rfl)
    have x2 := (H9.out.1.ext HB13.out).see.1.2 _ _ (HVC.out.1 2 _ rfl)
    have x3 := (H9.out.1.ext HB13.out).see.1.2 _ _ (HVC.out.1 3 _ rfl)
    go_upto_region 17 with fail
    (try rw [HE13.out])
    (go_wp2_with fail; go_fit (C); rintro e w14 ⟨r, rfl, hr, b14⟩)
    obtain ⟨k14, n14, s14, a14, m14, c14, rfl, f1, f2, f3, f4⟩ := four_of hr
    obtain ⟨w15, e15, b15, z15, x15⟩ := box_new w14 #[.int .i64 k14, .int .i64 n14, .string s14, .slice a14 m14 c14] 31
    have hb15 := Ext.trans' b14 b15
    have HB15 := Lib.hid (H9.out.2.2.2.2.trans ((Ext.trans' HB13.out hb15).mono H9.out.2.2.2.2.size))
    have HX15 := Lib.hid (And.intro (And.intro (HX13.out.1.1.ext hb15) (TmV.ext hb15 _ _ HX13.out.1.2)) (And.intro (And.intro (HX13.out.2.1.ext hb15) (TmV.ext hb15 _ _ HX13.out.2.2)) (And.intro x15 (TmV.ext b15 _ _ hr.bare))))
    have HE15 := Lib.hid e15
    clear f1 f2 f3 f4 hr b14 b15 hb15 z15 x15 e15 C x0 x1 x2 x3
    go_upto_region 18 with fail
    (try rw [HE15.out])
    have hq := HQ.out.2.2
    rcases hq with rfl | ⟨rfl, hgT, hgU, hren⟩
    · go_quiet (fail)
      go_wp2
      go_ret
      exact ⟨rfl, belN HB15.out nq⟩
    · have HG := Lib.hid (And.intro hgT (And.intro hgU hren))
      clear hgT hgU hren
      obtain ⟨x0, x1, x2, x3, _⟩ := HX15.out.1.1.four
      obtain ⟨y0, y1, y2, y3, _⟩ := HX15.out.2.1.1.four
      obtain ⟨v0, v1, v2, v3, _⟩ := HX15.out.2.2.1.four
      refine wp_region_held_drew (S := fun w' => (w'.cell? ⟨w10.heap.size, 0, none⟩ = some (.int .i64 k10) ∧ w'.cell? ⟨w10.heap.size, 1, none⟩ = some (.int .i64 n10) ∧ w'.cell? ⟨w10.heap.size, 2, none⟩ = some (.string s10) ∧ w'.cell? ⟨w10.heap.size, 3, none⟩ = some (.slice a10 m10 c10) ∧ w'.cell? ⟨w12.heap.size, 0, none⟩ = some (.int .i64 k12) ∧ w'.cell? ⟨w12.heap.size, 1, none⟩ = some (.int .i64 n12) ∧ w'.cell? ⟨w12.heap.size, 2, none⟩ = some (.string s12) ∧ w'.cell? ⟨w12.heap.size, 3, none⟩ = some (.slice a12 m12 c12) ∧ w'.cell? ⟨w14.heap.size, 0, none⟩ = some (.int .i64 k14) ∧ w'.cell? ⟨w14.heap.size, 1, none⟩ = some (.int .i64 n14) ∧ w'.cell? ⟨w14.heap.size, 2, none⟩ = some (.string s14) ∧ w'.cell? ⟨w14.heap.size, 3, none⟩ = some (.slice a14 m14 c14)) ∧ Below w15.heap.size w15 w') (by kernel_rfl) ⟨⟨x0, x1, x2, x3, y0, y1, y2, y3, v0, v1, v2, v3⟩, (Below.refl _ _).drew⟩ (fun hHeld => ?_)
      first | (refine held_t (i := 0) hHeld ?_; apply Exists.intro; refine ⟨fun wq hq => ?_, ?_⟩; (focus ((try dsimp only at hq); go_simp; (first | done | with_reducible rfl | fail)))) | refine held_s (i := 0) hHeld ?_ | fail
      first | (refine held_t (i := 1) hHeld ?_; apply Exists.intro; refine ⟨fun wq hq => ?_, ?_⟩; (focus ((try dsimp only at hq); go_simp; (first | done | with_reducible rfl | fail)))) | refine held_s (i := 1) hHeld ?_ | fail
      try simp only [Act.put, List.setIfInBounds_toArray, List.set_cons_zero, List.set_cons_succ]
      first | (refine held_t (i := 2) hHeld ?_; apply Exists.intro; refine ⟨fun wq hq => ?_, ?_⟩; (focus ((try dsimp only at hq); go_simp; (first | done | with_reducible rfl | fail)))) | refine held_s (i := 2) hHeld ?_ | fail
      first | (refine held_t (i := 3) hHeld ?_; apply Exists.intro; refine ⟨fun wq hq => ?_, ?_⟩; (focus ((try dsimp only at hq); go_simp; (first | done | with_reducible rfl | fail)))) | refine held_s (i := 3) hHeld ?_ | fail
      try simp only [Act.put, List.setIfInBounds_toArray, List.set_cons_zero, List.set_cons_succ]
      first | (refine held_t (i := 4) hHeld ?_; apply Exists.intro; refine ⟨fun wq hq => ?_, ?_⟩; (focus ((try dsimp only at hq); go_simp; (first | done | with_reducible rfl | fail)))) | refine held_s (i := 4) hHeld ?_ | fail
      first | (refine held_t (i := 5) hHeld ?_; apply Exists.intro; refine ⟨fun wq hq => ?_, ?_⟩; (focus ((try dsimp only at hq); go_simp; (first | done | with_reducible rfl | fail)))) | refine held_s (i := 5) hHeld ?_ | fail
      try simp only [Act.put, List.setIfInBounds_toArray, List.set_cons_zero, List.set_cons_succ]
      first | (refine held_t (i := 6) hHeld ?_; apply Exists.intro; refine ⟨fun wq hq => ?_, ?_⟩; (focus ((try dsimp only at hq); go_simp; (first | done | with_reducible rfl | fail)))) | refine held_s (i := 6) hHeld ?_ | fail
      first | (refine held_t (i := 7) hHeld ?_; apply Exists.intro; refine ⟨fun wq hq => ?_, ?_⟩; (focus ((try dsimp only at hq); go_simp; (first | done | with_reducible rfl | fail)))) | refine held_s (i := 7) hHeld ?_ | fail
      try simp only [Act.put, List.setIfInBounds_toArray, List.set_cons_zero, List.set_cons_succ]
      first | (refine held_t (i := 8) hHeld ?_; apply Exists.intro; refine ⟨fun wq hq => ?_, ?_⟩; (focus ((try dsimp only at hq); go_simp; (first | done | with_reducible rfl | fail)))) | refine held_s (i := 8) hHeld ?_ | fail
      first | (refine held_t (i := 9) hHeld ?_; apply Exists.intro; refine ⟨fun wq hq => ?_, ?_⟩; (focus ((try dsimp only at hq); go_simp; (first | done | with_reducible rfl | fail)))) | refine held_s (i := 9) hHeld ?_ | fail
      try simp only [Act.put, List.setIfInBounds_toArray, List.set_cons_zero, List.set_cons_succ]
      first | (refine held_t (i := 10) hHeld ?_; apply Exists.intro; refine ⟨fun wq hq => ?_, ?_⟩; (focus ((try dsimp only at hq); go_simp; (first | done | with_reducible rfl | fail)))) | refine held_s (i := 10) hHeld ?_ | fail
      first | (refine held_t (i := 11) hHeld ?_; apply Exists.intro; refine ⟨fun wq hq => ?_, ?_⟩; (focus ((try dsimp only at hq); go_simp; (first | done | with_reducible rfl | fail)))) | refine held_s (i := 11) hHeld ?_ | fail
      try simp only [Act.put, List.setIfInBounds_toArray, List.set_cons_zero, List.set_cons_succ]
      first | (refine held_t (i := 12) hHeld ?_; apply Exists.intro; refine ⟨fun wq hq => ?_, ?_⟩; (focus ((try dsimp only at hq); go_simp; (first | done | with_reducible rfl | fail)))) | refine held_s (i := 12) hHeld ?_ | fail
      first | (refine held_t (i := 13) hHeld ?_; apply Exists.intro; refine ⟨fun wq hq => ?_, ?_⟩; (focus ((try dsimp only at hq); go_simp; (first | done | with_reducible rfl | fail)))) | refine held_s (i := 13) hHeld ?_ | fail
      try simp only [Act.put, List.setIfInBounds_toArray, List.set_cons_zero, List.set_cons_succ]
      first | (refine held_t (i := 14) hHeld ?_; apply Exists.intro; refine ⟨fun wq hq => ?_, ?_⟩; (focus ((try dsimp only at hq); go_simp; (first | done | with_reducible rfl | fail)))) | refine held_s (i := 14) hHeld ?_ | fail
      first | (refine held_t (i := 15) hHeld ?_; apply Exists.intro; refine ⟨fun wq hq => ?_, ?_⟩; (focus ((try dsimp only at hq); go_simp; (first | done | with_reducible rfl | fail)))) | refine held_s (i := 15) hHeld ?_ | fail
      try simp only [Act.put, List.setIfInBounds_toArray, List.set_cons_zero, List.set_cons_succ]
      first | (refine held_t (i := 16) hHeld ?_; apply Exists.intro; refine ⟨fun wq hq => ?_, ?_⟩; (focus ((try dsimp only at hq); go_simp; (first | done | with_reducible rfl | fail)))) | refine held_s (i := 16) hHeld ?_ | fail
      first | (refine held_t (i := 17) hHeld ?_; apply Exists.intro; refine ⟨fun wq hq => ?_, ?_⟩; (focus ((try dsimp only at hq); go_simp; (first | done | with_reducible rfl | fail)))) | refine held_s (i := 17) hHeld ?_ | fail
      try simp only [Act.put, List.setIfInBounds_toArray, List.set_cons_zero, List.set_cons_succ]
      first | (refine held_t (i := 18) hHeld ?_; apply Exists.intro; refine ⟨fun wq hq => ?_, ?_⟩; (focus ((try dsimp only at hq); go_simp; (first | done | with_reducible rfl | fail)))) | refine held_s (i := 18) hHeld ?_ | fail
      first | (refine held_t (i := 19) hHeld ?_; apply Exists.intro; refine ⟨fun wq hq => ?_, ?_⟩; (focus ((try dsimp only at hq); go_simp; (first | done | with_reducible rfl | fail)))) | refine held_s (i := 19) hHeld ?_ | fail
      try simp only [Act.put, List.setIfInBounds_toArray, List.set_cons_zero, List.set_cons_succ]
      refine held_c 20 fun K hK => ?_
      go_simp
      (go_at_call 19; refine (Same_at (TmV.ext hHeld.2 _ _ HX15.out.1.2) (TmV.ext hHeld.2 _ _ HX15.out.2.1.2)).mono ?_; rintro e w6 ⟨rfl, h6⟩; rw [HG.out.1, same_self])
      refine hK.out _ _ (⟨⟨cell_later h6 hHeld.1.1, cell_later h6 hHeld.1.2.1, cell_later h6 hHeld.1.2.2.1, cell_later h6 hHeld.1.2.2.2.1, cell_later h6 hHeld.1.2.2.2.2.1, cell_later h6 hHeld.1.2.2.2.2.2.1, cell_later h6 hHeld.1.2.2.2.2.2.2.1, cell_later h6 hHeld.1.2.2.2.2.2.2.2.1, cell_later h6 hHeld.1.2.2.2.2.2.2.2.2.1, cell_later h6 hHeld.1.2.2.2.2.2.2.2.2.2.1, cell_later h6 hHeld.1.2.2.2.2.2.2.2.2.2.2.1, cell_later h6 hHeld.1.2.2.2.2.2.2.2.2.2.2.2⟩, Ext.trans' hHeld.2 h6⟩) (fun hHeld => ?_)
      clear hK K
      try simp only [Act.put, List.setIfInBounds_toArray, List.set_cons_zero, List.set_cons_succ]
      first | (refine held_t (i := 21) hHeld ?_; apply Exists.intro; refine ⟨fun wq hq => ?_, ?_⟩; (focus ((try dsimp only at hq); go_simp; (first | done | with_reducible rfl | fail)))) | refine held_s (i := 21) hHeld ?_ | fail
      first | (refine held_t (i := 22) hHeld ?_; apply Exists.intro; refine ⟨fun wq hq => ?_, ?_⟩; (focus ((try dsimp only at hq); go_simp; (first | done | with_reducible rfl | fail)))) | refine held_s (i := 22) hHeld ?_ | fail
      try simp only [Act.put, List.setIfInBounds_toArray, List.set_cons_zero, List.set_cons_succ]
      first | (refine held_t (i := 23) hHeld ?_; apply Exists.intro; refine ⟨fun wq hq => ?_, ?_⟩; (focus ((try dsimp only at hq); go_simp; (first | done | with_reducible rfl | fail)))) | refine held_s (i := 23) hHeld ?_ | fail
      first | (refine held_t (i := 25) hHeld ?_; apply Exists.intro; refine ⟨fun wq hq => ?_, ?_⟩; (focus ((try dsimp only at hq); go_simp; (first | done | with_reducible rfl | fail)))) | refine held_s (i := 25) hHeld ?_ | fail
      try simp only [Act.put, List.setIfInBounds_toArray, List.set_cons_zero, List.set_cons_succ]
      refine held_c 24 fun K hK => ?_
      go_simp
      (go_at_call 42; refine (own12_at T (fun _ => false) _ _ (fun _ _ => rfl) (TmV.ext hHeld.2 _ _ HX15.out.1.2)).mono ?_; rintro e w24 ⟨v24, rfl, hv24, h6⟩; have HV24 := Lib.hid hv24.bare; clear hv24)
      refine hK.out _ _ (⟨⟨cell_later h6 hHeld.1.1, cell_later h6 hHeld.1.2.1, cell_later h6 hHeld.1.2.2.1, cell_later h6 hHeld.1.2.2.2.1, cell_later h6 hHeld.1.2.2.2.2.1, cell_later h6 hHeld.1.2.2.2.2.2.1, cell_later h6 hHeld.1.2.2.2.2.2.2.1, cell_later h6 hHeld.1.2.2.2.2.2.2.2.1, cell_later h6 hHeld.1.2.2.2.2.2.2.2.2.1, cell_later h6 hHeld.1.2.2.2.2.2.2.2.2.2.1, cell_later h6 hHeld.1.2.2.2.2.2.2.2.2.2.2.1, cell_later h6 hHeld.1.2.2.2.2.2.2.2.2.2.2.2⟩, Ext.trans' hHeld.2 h6⟩) (fun hHeld => ?_)
      clear hK K
      try simp only [Act.put, List.setIfInBounds_toArray, List.set_cons_zero, List.set_cons_succ]
      refine held_c 26 fun K hK => ?_
      go_simp
      (go_at_call 42; refine (own12_at U (fun _ => false) _ _ (fun _ _ => rfl) (TmV.ext hHeld.2 _ _ HX15.out.2.2.2)).mono ?_; rintro e w26 ⟨v26, rfl, hv26, h6⟩; have HV26 := Lib.hid (And.intro (TmV.ext h6 _ _ HV24.out) hv26.bare); clear hv26)
      refine hK.out _ _ (⟨⟨cell_later h6 hHeld.1.1, cell_later h6 hHeld.1.2.1, cell_later h6 hHeld.1.2.2.1, cell_later h6 hHeld.1.2.2.2.1, cell_later h6 hHeld.1.2.2.2.2.1, cell_later h6 hHeld.1.2.2.2.2.2.1, cell_later h6 hHeld.1.2.2.2.2.2.2.1, cell_later h6 hHeld.1.2.2.2.2.2.2.2.1, cell_later h6 hHeld.1.2.2.2.2.2.2.2.2.1, cell_later h6 hHeld.1.2.2.2.2.2.2.2.2.2.1, cell_later h6 hHeld.1.2.2.2.2.2.2.2.2.2.2.1, cell_later h6 hHeld.1.2.2.2.2.2.2.2.2.2.2.2⟩, Ext.trans' hHeld.2 h6⟩) (fun hHeld => ?_)
      clear hK K
      try simp only [Act.put, List.setIfInBounds_toArray, List.set_cons_zero, List.set_cons_succ]
      refine held_c 27 fun K hK => ?_
      go_simp
      (go_at_call 45; refine (Alike_yes T U HG.out.1 HG.out.2.1 HG.out.2.2 _ _ _ HV26.out.1 HV26.out.2).mono ?_; rintro e w28 ⟨rfl, h6⟩)
      refine hK.out _ _ (⟨⟨cell_later h6 hHeld.1.1, cell_later h6 hHeld.1.2.1, cell_later h6 hHeld.1.2.2.1, cell_later h6 hHeld.1.2.2.2.1, cell_later h6 hHeld.1.2.2.2.2.1, cell_later h6 hHeld.1.2.2.2.2.2.1, cell_later h6 hHeld.1.2.2.2.2.2.2.1, cell_later h6 hHeld.1.2.2.2.2.2.2.2.1, cell_later h6 hHeld.1.2.2.2.2.2.2.2.2.1, cell_later h6 hHeld.1.2.2.2.2.2.2.2.2.2.1, cell_later h6 hHeld.1.2.2.2.2.2.2.2.2.2.2.1, cell_later h6 hHeld.1.2.2.2.2.2.2.2.2.2.2.2⟩, Ext.trans' hHeld.2 h6⟩) (fun hHeld => ?_)
      clear hK K
      try simp only [Act.put, List.setIfInBounds_toArray, List.set_cons_zero, List.set_cons_succ]
      first | (refine held_t (i := 28) hHeld ?_; apply Exists.intro; refine ⟨fun wq hq => ?_, ?_⟩; (focus ((try dsimp only at hq); go_simp; (first | done | with_reducible rfl | fail)))) | refine held_s (i := 28) hHeld ?_ | fail
      first | (refine held_t (i := 29) hHeld ?_; apply Exists.intro; refine ⟨fun wq hq => ?_, ?_⟩; (focus ((try dsimp only at hq); go_simp; (first | done | with_reducible rfl | fail)))) | refine held_s (i := 29) hHeld ?_ | fail
      try simp only [Act.put, List.setIfInBounds_toArray, List.set_cons_zero, List.set_cons_succ]
      first | (refine held_t (i := 30) hHeld ?_; apply Exists.intro; refine ⟨fun wq hq => ?_, ?_⟩; (focus ((try dsimp only at hq); go_simp; (first | done | with_reducible rfl | fail)))) | refine held_s (i := 30) hHeld ?_ | fail
      try simp only [Act.put, List.setIfInBounds_toArray, List.set_cons_zero, List.set_cons_succ]
      have HEND := Lib.hid (HB15.out.trans (hHeld.2.mono HB15.out.size))
      clear hHeld
      refine wpAnyH_done (by kernel_rfl) ?_ _
      go_wp2
      go_ret
      exact ⟨rfl, HEND.out⟩
end Go.Proofs.Ytjhoekhfikcanaa
/- UnifyMakes: what was made alike is alike, all the way in; what could not be leaves all as it was; the other way round it is the same, but for names: for every input the law answers true. No condition. -/
namespace Go.Proofs.Ytjhoekhfikcanaa
open Go.RowKit
namespace unifyMakes
open Go.ChangeShapes Go.WideShapes Go.ChangeAt Go.RowKit
theorem own : ownKnob Try.prog.godebug = none := by kernel_rfl
theorem laidOut : laidOutB Try.prog = true := by kernel_rfl
set_option linter.unusedVariables false
set_option maxRecDepth 100000 in
theorem lifted (os : Os) (started : os.Started) (H : Type) (enc : TypeId × Value → H) :
    ReturnsInHanded {} Try.checked os 8 .any (Rows.unifyMakesSpec.pre6 enc Try.prog Try.f8 Rows.unifyMakesRow.domain false) (Rows.unifyMakesSpec.post enc Try.prog Try.f8 false true false false) := by
  refine returnsInHanded_of_change_sized (C := Try.checked) own started (by kernel_rfl) Try.func8
    (ChangeSpec.witness6 (enc := enc) (C := Try.checked) false ⟨#[], #[.agg #[.int .i64 0,.int .i64 0,.string ⟨#[]⟩,.slice none 0 0], .agg #[.int .i64 0,.int .i64 0,.string ⟨#[]⟩,.slice none 0 0]], []⟩ 8 (by kernel_rfl) (by kernel_rfl) (by kernel_rfl) (by kernel_rfl)) ?_
  intro W base args ds gs before hval0 hW hcnd hsz0 _
  have hval : ∀ (j : Nat) t v, Try.f8.params[j]? = some t → args[j]? = some v → Value.okWide Try.prog W .any base t v := hval0
  have hW' := hW
  obtain ⟨p, q, hA0, hV, rfl, hfz, hnd⟩ := hW
  have hA : DataW.TrodAll enc Try.prog W 0 (fun _ => true) true Try.f8.params.toList args.toList ds p := hA0
  have hsz : (DataW.weightsEach Try.prog (Try.f8.params.toList ++ []) (ds ++ gs)).all (· ≤ reachBytes) = true := hsz0
  rw [Try.params8] at hA hval hsz
  obtain ⟨v0, vs0, d0, ds0, p0, q0, hargs, rfl, rfl, h0, r0⟩ := trodAll_cons hA
  obtain ⟨v1, vs1, d1, ds1, p1, q1, rfl, rfl, rfl, h1, r1⟩ := trodAll_cons r0
  obtain ⟨rfl, rfl, rfl⟩ := trodAll_nil r1
  obtain rfl : args = #[v0, v1] := by cases args; simp_all
  obtain ⟨rfl, rfl⟩ := trodVars_none hV
  clear hA0 hval0 hsz0
  have k0 := h0
  have lt0 := lt_of_trod h0
  have k1 := h1
  have lt1 := lt_of_trod h1
  obtain ⟨a0, w0⟩ := term_of_trod h0 (hval 0 31 v0 rfl rfl) (weights_ok hsz (j := 0) (t := 31) (d := d0) rfl rfl)
  obtain ⟨a1, w1⟩ := term_of_trod h1 (hval 1 31 v1 rfl rfl) (weights_ok hsz (j := 1) (t := 31) (d := d1) rfl rfl)
  refine (unifyMakes_at w0 w1).mono fun e W' ⟨he, bel⟩ => ?_
  subst he
  exact ⟨_, rfl, _, _, _, [], _, [], hW', trodAll_mk1 (shut_bool Try.underlying4 _), (trodAll_cons_mk (Below.trod laidOut (by kernel_rfl) (of_decide_eq_true (by kernel_rfl)) k0 bel lt0) (trodAll_cons_mk (Below.trod laidOut (by kernel_rfl) (of_decide_eq_true (by kernel_rfl)) k1 bel lt1) trodAll_mk0)), rfl, bel.frame _, fun h => by cases h⟩
theorem proved : Rows.UnifyMakesSaid :=
  OpenClaim.holds_of_wide 8 Try.f8 rfl rfl rfl rfl rfl rfl rfl ⟨rfl, rfl, rfl, rfl, rfl⟩ rfl rfl rfl rfl rfl (by kernel_rfl) Try.func8 (by kernel_rfl)
    (of_decide_eq_true (by kernel_rfl)) (by unfold Func.isWrapper; first | (rw [if_pos (by decide +kernel)]; kernel_rfl) | (rw [if_neg (by decide +kernel)]; exact ⟨rfl, rfl⟩))
    (fun os started H enc _ => lifted os started H enc)
#print axioms proved
end unifyMakes

end Go.Proofs.Ytjhoekhfikcanaa
