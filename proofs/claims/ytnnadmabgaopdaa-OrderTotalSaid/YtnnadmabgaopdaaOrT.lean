/- OrderTotal walked. -/
import Derived.Test.YtnnadmabgaopdaaOrA
import Derived.Test.YtnnadmabgaopdaaDeep10
namespace Go.Proofs.Ytnnadmabgaopdaa
open Go.RowKit
set_option linter.unusedVariables false

abbrev w3b (W : World) (k n : Int) (s : ByteArray) (u : Value) (k' n' : Int) (s' : ByteArray) (u' : Value) (k2 n2 : Int) (s2 : ByteArray) (u2 : Value) : World :=
  ((W.alloc (box4 k n s u 25)).alloc (box4 k' n' s' u' 25)).alloc (box4 k2 n2 s2 u2 25)
theorem cells3 (W : World) (k n : Int) (s : ByteArray) (u : Value) (k' n' : Int) (s' : ByteArray) (u' : Value) (k2 n2 : Int) (s2 : ByteArray) (u2 : Value) (wr : World)
    (hb : Below (w3b W k n s u k' n' s' u' k2 n2 s2 u2).heap.size (w3b W k n s u k' n' s' u' k2 n2 s2 u2) wr) :
    (wr.cell? ⟨W.heap.size, 0, none⟩ = some (.int .i64 k) ∧ wr.cell? ⟨W.heap.size, 1, none⟩ = some (.int .i64 n) ∧ wr.cell? ⟨W.heap.size, 2, none⟩ = some (.string s) ∧ wr.cell? ⟨W.heap.size, 3, none⟩ = some u) ∧
    (wr.cell? ⟨W.heap.size + 1, 0, none⟩ = some (.int .i64 k') ∧ wr.cell? ⟨W.heap.size + 1, 1, none⟩ = some (.int .i64 n') ∧ wr.cell? ⟨W.heap.size + 1, 2, none⟩ = some (.string s') ∧ wr.cell? ⟨W.heap.size + 1, 3, none⟩ = some u') ∧
    (wr.cell? ⟨W.heap.size + 1 + 1, 0, none⟩ = some (.int .i64 k2) ∧ wr.cell? ⟨W.heap.size + 1 + 1, 1, none⟩ = some (.int .i64 n2) ∧ wr.cell? ⟨W.heap.size + 1 + 1, 2, none⟩ = some (.string s2) ∧ wr.cell? ⟨W.heap.size + 1 + 1, 3, none⟩ = some u2) := by
  have h2 := Ext.trans' (bel1' ((W.alloc (box4 k n s u 25)).alloc (box4 k' n' s' u' 25)) (box4 k2 n2 s2 u2 25)) hb
  have h1 := Ext.trans' (bel1' (W.alloc (box4 k n s u 25)) (box4 k' n' s' u' 25)) h2
  have a := box_cells W _ _ _ _ _ h1
  have b := box_cells (W.alloc (box4 k n s u 25)) _ _ _ _ _ h2
  have c := box_cells ((W.alloc (box4 k n s u 25)).alloc (box4 k' n' s' u' 25)) _ _ _ _ _ hb
  simp only [World.size_alloc] at b c
  exact ⟨a, b, c⟩
/-- What the law asks of three good ones. -/
theorem total_facts {x y z : Tm} (hx : goodT x = true) (hy : goodT y = true) (hz : goodT z = true) :
    cmpG y x = - cmpG x y ∧ (goodT x && goodT y && sameT x y) = decide (cmpG x y = 0) ∧ cmpG x x = 0 ∧ Tr (cmpG x y) (cmpG y z) (cmpG x z) ∧ (cmpG x y = -1 ∨ cmpG x y = 0 ∨ cmpG x y = 1) := by
  have e : ∀ {a b : Tm}, goodT a = true → goodT b = true → cmpG a b = cmpT a b := fun ha hb => cmpG_ok (by rw [ha, hb]; rfl)
  rw [e hx hy, e hy hx, e hx hx, e hy hz, e hx hz, hx, hy]
  refine ⟨back_terms x y, ?_, cmp_self x, tr_terms x y z, cmp_range x y⟩
  rw [Bool.true_and, Bool.true_and, Bool.eq_iff_iff, same_iff, decide_eq_true_iff, zero_terms x y (good_parts hx).2.2 (good_parts hy).2.2]
set_option maxHeartbeats 16000000 in
set_option maxRecDepth 100000 in
theorem total_walk {W : World} {v0 v1 v2 : Value} {x y z : Tm} (hx : TmV W x v0) (hy : TmV W y v1) (hz : TmV W z v2) : Calls Try.prog 5 #[v0, v1, v2] W fun e w' => IsBool W true e w' := by
  obtain ⟨k, n, s, u, rfl⟩ := hx.four
  obtain ⟨k', n', s', u', rfl⟩ := hy.four
  obtain ⟨k2, n2, s2, u2, rfl⟩ := hz.four
  have hw : Below W.heap.size W (w3b W k n s u k' n' s' u' k2 n2 s2 u2) := ((bel1' W _).alloc (by simp) _).alloc (by simp; omega) _
  have HC := Lib.hid (cells3 W k n s u k' n' s' u' k2 n2 s2 u2)
  have HW := Lib.hid hw
  have i40 : I64 40 := by unfold I64; omega
  have DX := Lib.hid (fun (w : World) (hb : Below W.heap.size W w) => deep10_at _ x (Nat.le_refl _) 40 i40 w _ (TmV.ext hb _ _ hx))
  have DY := Lib.hid (fun (w : World) (hb : Below W.heap.size W w) => deep10_at _ y (Nat.le_refl _) 40 i40 w _ (TmV.ext hb _ _ hy))
  have DZ := Lib.hid (fun (w : World) (hb : Below W.heap.size W w) => deep10_at _ z (Nat.le_refl _) 40 i40 w _ (TmV.ext hb _ _ hz))
  have GX := Lib.hid (fun (w : World) (hb : Below W.heap.size W w) => Good_at x w _ (TmV.ext hb _ _ hx))
  have GY := Lib.hid (fun (w : World) (hb : Below W.heap.size W w) => Good_at y w _ (TmV.ext hb _ _ hy))
  have GZ := Lib.hid (fun (w : World) (hb : Below W.heap.size W w) => Good_at z w _ (TmV.ext hb _ _ hz))
  have CXY := Lib.hid (fun (w : World) (hb : Below W.heap.size W w) => Cmp_at (TmV.ext hb _ _ hx) (TmV.ext hb _ _ hy))
  have CYZ := Lib.hid (fun (w : World) (hb : Below W.heap.size W w) => Cmp_at (TmV.ext hb _ _ hy) (TmV.ext hb _ _ hz))
  have CXZ := Lib.hid (fun (w : World) (hb : Below W.heap.size W w) => Cmp_at (TmV.ext hb _ _ hx) (TmV.ext hb _ _ hz))
  have CYX := Lib.hid (fun (w : World) (hb : Below W.heap.size W w) => Cmp_at (TmV.ext hb _ _ hy) (TmV.ext hb _ _ hx))
  have CXX := Lib.hid (fun (w : World) (hb : Below W.heap.size W w) => Cmp_at (TmV.ext hb _ _ hx) (TmV.ext hb _ _ hx))
  have SXY := Lib.hid (fun (w : World) (hb : Below W.heap.size W w) => Same_at (TmV.ext hb _ _ hx) (TmV.ext hb _ _ hy))
  have HF := Lib.hid (fun (a : goodT x = true) (b : goodT y = true) (c : goodT z = true) => total_facts a b c)
  generalize deepT x 40 = dx at DX
  generalize deepT y 40 = dy at DY
  generalize deepT z 40 = dz at DZ
  generalize (goodT x && goodT y && sameT x y) = sxy at SXY HF
  generalize goodT x = gx at GX HF
  generalize goodT y = gy at GY HF
  generalize goodT z = gz at GZ HF
  generalize cmpG x y = p at CXY HF
  generalize cmpG y z = q at CYZ HF
  generalize cmpG x z = r at CXZ HF
  generalize cmpG y x = p' at CYX HF
  generalize cmpG x x = p0 at CXX HF
  clear hx hy hz hw i40
  go_enter Try.func5, Try.ntmps5
  (go_wp2_with fail; go_fit (oawake_at _); rintro e w1 ⟨rfl, b1⟩)
  have H1 := Lib.hid (Ext.trans' HW.out b1)
  have B1 := Lib.hid b1
  obtain ⟨⟨c0, c1, c2, c3⟩, ⟨d0, d1, d2, d3⟩, e0, e1, e2, e3⟩ := HC.out _ b1
  clear b1
  (go_wp2_with fail; go_fit (DX.out _ H1.out); rintro e w2 ⟨rfl, b2⟩)
  have H2 := Lib.hid (Ext.trans' H1.out b2)
  have B2 := Lib.hid (Ext.trans' B1.out b2)
  obtain ⟨⟨c0, c1, c2, c3⟩, ⟨d0, d1, d2, d3⟩, e0, e1, e2, e3⟩ := HC.out _ B2.out
  clear b2 H1 B1
  cases dx
  rotate_left
  · go_wp2
    go_ret
    exact ⟨rfl, H2.out⟩
  (go_wp2_with fail; go_fit (DY.out _ H2.out); rintro e w3 ⟨rfl, b3⟩)
  have H3 := Lib.hid (Ext.trans' H2.out b3)
  have B3 := Lib.hid (Ext.trans' B2.out b3)
  obtain ⟨⟨c0, c1, c2, c3⟩, ⟨d0, d1, d2, d3⟩, e0, e1, e2, e3⟩ := HC.out _ B3.out
  clear b3 H2 B2
  cases dy
  rotate_left
  · go_wp2
    go_ret
    exact ⟨rfl, H3.out⟩
  (go_wp2_with fail; go_fit (DZ.out _ H3.out); rintro e w4 ⟨rfl, b4⟩)
  have H4 := Lib.hid (Ext.trans' H3.out b4)
  have B4 := Lib.hid (Ext.trans' B3.out b4)
  obtain ⟨⟨c0, c1, c2, c3⟩, ⟨d0, d1, d2, d3⟩, e0, e1, e2, e3⟩ := HC.out _ B4.out
  clear b4 H3 B3
  cases dz
  rotate_left
  · go_wp2
    go_ret
    exact ⟨rfl, H4.out⟩
  (go_wp2_with fail; go_fit (GX.out _ H4.out); rintro e w5 ⟨rfl, b5⟩)
  have H5 := Lib.hid (Ext.trans' H4.out b5)
  have B5 := Lib.hid (Ext.trans' B4.out b5)
  obtain ⟨⟨c0, c1, c2, c3⟩, ⟨d0, d1, d2, d3⟩, e0, e1, e2, e3⟩ := HC.out _ B5.out
  clear b5 H4 B4
  cases gx
  · go_wp2
    go_ret
    exact ⟨rfl, H5.out⟩
  (go_wp2_with fail; go_fit (GY.out _ H5.out); rintro e w6 ⟨rfl, b6⟩)
  have H6 := Lib.hid (Ext.trans' H5.out b6)
  have B6 := Lib.hid (Ext.trans' B5.out b6)
  obtain ⟨⟨c0, c1, c2, c3⟩, ⟨d0, d1, d2, d3⟩, e0, e1, e2, e3⟩ := HC.out _ B6.out
  clear b6 H5 B5
  cases gy
  · go_wp2
    go_ret
    exact ⟨rfl, H6.out⟩
  (go_wp2_with fail; go_fit (GZ.out _ H6.out); rintro e w7 ⟨rfl, b7⟩)
  have H7 := Lib.hid (Ext.trans' H6.out b7)
  have B7 := Lib.hid (Ext.trans' B6.out b7)
  obtain ⟨⟨c0, c1, c2, c3⟩, ⟨d0, d1, d2, d3⟩, e0, e1, e2, e3⟩ := HC.out _ B7.out
  clear b7 H6 B6
  cases gz
  · go_wp2
    go_ret
    exact ⟨rfl, H7.out⟩
  have HG := Lib.hid (HF.out (by first | rfl | trivial) (by first | rfl | trivial) (by first | rfl | trivial))
  clear DX DY DZ GX GY GZ HF
  go_wp2_with fail
  (refine wp_region_class (fun w' => ((w'.cell? ⟨W.heap.size, 0, none⟩ = some (.int .i64 k) ∧ w'.cell? ⟨W.heap.size, 1, none⟩ = some (.int .i64 n) ∧ w'.cell? ⟨W.heap.size, 2, none⟩ = some (.string s) ∧ w'.cell? ⟨W.heap.size, 3, none⟩ = some u) ∧ (w'.cell? ⟨W.heap.size + 1, 0, none⟩ = some (.int .i64 k') ∧ w'.cell? ⟨W.heap.size + 1, 1, none⟩ = some (.int .i64 n') ∧ w'.cell? ⟨W.heap.size + 1, 2, none⟩ = some (.string s') ∧ w'.cell? ⟨W.heap.size + 1, 3, none⟩ = some u') ∧ (w'.cell? ⟨W.heap.size + 1 + 1, 0, none⟩ = some (.int .i64 k2) ∧ w'.cell? ⟨W.heap.size + 1 + 1, 1, none⟩ = some (.int .i64 n2) ∧ w'.cell? ⟨W.heap.size + 1 + 1, 2, none⟩ = some (.string s2) ∧ w'.cell? ⟨W.heap.size + 1 + 1, 3, none⟩ = some u2)) ∧ Below w7.heap.size w7 w') (by kernel_rfl) (by kernel_rfl) (⟨⟨⟨c0, c1, c2, c3⟩, ⟨d0, d1, d2, d3⟩, e0, e1, e2, e3⟩, (Below.refl _ _).drew⟩) ?_; (repeat (first | go_big_quiet_skip | (go_big_quiet_want; refine quiet_of ?_; apply Exists.intro; refine ⟨fun wq hq => ?_, ?_⟩; (focus ((try dsimp only at hq); go_simp; (first | done | with_reducible rfl | (first | (go_at_call_of 12 (#[Value.agg #[.int .i64 k, .int .i64 n, .string s, u], Value.agg #[.int .i64 k', .int .i64 n', .string s', u']]); refine (CXY.out wq (Ext.trans' H7.out hq.2)).mono ?_; rintro e w6 ⟨rfl, h6⟩; exact ⟨rfl, HC.out _ (Ext.trans' B7.out (Below.trans hq.2 (h6.mono hq.2.size))), Below.trans hq.2 (h6.mono hq.2.size)⟩) | (go_at_call_of 12 (#[Value.agg #[.int .i64 k', .int .i64 n', .string s', u'], Value.agg #[.int .i64 k2, .int .i64 n2, .string s2, u2]]); refine (CYZ.out wq (Ext.trans' H7.out hq.2)).mono ?_; rintro e w6 ⟨rfl, h6⟩; exact ⟨rfl, HC.out _ (Ext.trans' B7.out (Below.trans hq.2 (h6.mono hq.2.size))), Below.trans hq.2 (h6.mono hq.2.size)⟩) | (go_at_call_of 12 (#[Value.agg #[.int .i64 k, .int .i64 n, .string s, u], Value.agg #[.int .i64 k2, .int .i64 n2, .string s2, u2]]); refine (CXZ.out wq (Ext.trans' H7.out hq.2)).mono ?_; rintro e w6 ⟨rfl, h6⟩; exact ⟨rfl, HC.out _ (Ext.trans' B7.out (Below.trans hq.2 (h6.mono hq.2.size))), Below.trans hq.2 (h6.mono hq.2.size)⟩) | fail) | fail))); try simp only [Act.put, List.setIfInBounds_toArray, List.set_cons_zero, List.set_cons_succ]; go_big_quiet_on) | fail)); refine wpQuiet_nil ?_; intro wz hz)
  have H8 := Lib.hid (Ext.trans' H7.out hz.2)
  have B8 := Lib.hid (Ext.trans' B7.out hz.2)
  obtain ⟨⟨c0, c1, c2, c3⟩, ⟨d0, d1, d2, d3⟩, e0, e1, e2, e3⟩ := HC.out _ B8.out
  clear hz H7 B7 CXY CYZ CXZ
  obtain ⟨hp', hs', h00, htr, hrg⟩ := HG.out
  have hneg : IntKind.i64.wrap (-p) = p' := by rw [IntKind.wrap_i64]; omega
  have HTR := Lib.hid htr
  have HP := Lib.hid (show p' = -p ∧ sxy = decide (p = 0) ∧ p0 = 0 from ⟨hp', hs', h00⟩)
  clear hp' hs' h00 htr hrg HG
  (go_wp2_with fail; go_fit (CYX.out _ H8.out); rintro e w9 ⟨rfl, b9⟩)
  have H9 := Lib.hid (Ext.trans' H8.out b9)
  have B9 := Lib.hid (Ext.trans' B8.out b9)
  obtain ⟨⟨c0, c1, c2, c3⟩, ⟨d0, d1, d2, d3⟩, e0, e1, e2, e3⟩ := HC.out _ B9.out
  clear b9 H8 B8
  (go_wp2_with fail; go_fit (SXY.out _ H9.out); rintro e wa ⟨rfl, ba⟩)
  have Ha := Lib.hid (Ext.trans' H9.out ba)
  have Ba := Lib.hid (Ext.trans' B9.out ba)
  obtain ⟨⟨c0, c1, c2, c3⟩, ⟨d0, d1, d2, d3⟩, e0, e1, e2, e3⟩ := HC.out _ Ba.out
  have hse : ((p == 0) == sxy) = true := by rw [HP.out.2.1, show (p == 0) = decide (p = 0) by rw [Bool.eq_iff_iff]; simp]; simp
  have h00 : (p0 == 0) = true := by rw [HP.out.2.2]; rfl
  clear ba H9 B9
  rcases Int.lt_trichotomy p 0 with hp | hp | hp
  · have g1 : ¬ 0 < p := by omega
    have g2 : ¬ 0 ≤ p := by omega
    by_cases hq : 0 < q
    · (go_wp2_with fail; go_fit (CXX.out _ Ha.out); rintro e wb ⟨rfl, bb⟩)
      have Hb := Lib.hid (Ext.trans' Ha.out bb)
      clear bb
      go_wp2
      go_ret
      exact ⟨rfl, Hb.out⟩
    · have t1 := HTR.out (by omega) (by omega)
      have g3 : r ≤ 0 := t1.1
      have g4 : r < 0 := by
        have := t1.2
        omega
      clear t1
      (go_wp2_with fail; go_fit (CXX.out _ Ha.out); rintro e wb ⟨rfl, bb⟩)
      have Hb := Lib.hid (Ext.trans' Ha.out bb)
      clear bb
      go_wp2
      go_ret
      exact ⟨rfl, Hb.out⟩
  · have g1 : ¬ 0 < p := by omega
    have g2 : 0 ≤ p := by omega
    clear hp
    by_cases hq : 0 < q
    · (go_wp2_with fail; go_fit (CXX.out _ Ha.out); rintro e wb ⟨rfl, bb⟩)
      have Hb := Lib.hid (Ext.trans' Ha.out bb)
      clear bb
      go_wp2
      go_ret
      exact ⟨rfl, Hb.out⟩
    · have g3 : r ≤ 0 := (HTR.out (by omega) (by omega)).1
      (go_wp2_with fail; go_fit (CXX.out _ Ha.out); rintro e wb ⟨rfl, bb⟩)
      have Hb := Lib.hid (Ext.trans' Ha.out bb)
      clear bb
      go_wp2
      go_ret
      exact ⟨rfl, Hb.out⟩
  · have g2 : 0 ≤ p := by omega
    (go_wp2_with fail; go_fit (CXX.out _ Ha.out); rintro e wb ⟨rfl, bb⟩)
    have Hb := Lib.hid (Ext.trans' Ha.out bb)
    clear bb
    go_wp2
    go_ret
    exact ⟨rfl, Hb.out⟩
end Go.Proofs.Ytnnadmabgaopdaa
