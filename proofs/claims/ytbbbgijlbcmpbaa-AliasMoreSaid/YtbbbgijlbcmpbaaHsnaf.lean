import Derived.Test.YtbbbgijlbcmpbaaHsnae
import Derived.Test.YtbbbgijlbcmpbaaHsnaa
import Derived.Test.YtbbbgijlbcmpbaaRows
set_option linter.unusedVariables false
set_option linter.unusedSimpArgs false
/- Stage 13's laws: AliasMore. -/
namespace Go.Proofs.Ytbbbgijlbcmpbaa
open Go.RowKit
set_option linter.unusedVariables false

abbrev w3c (W : World) (k n : Int) (s : ByteArray) (u : Value) (k' n' : Int) (s' : ByteArray) (u' : Value) (k2 n2 : Int) (s2 : ByteArray) (u2 : Value) : World :=
  ((W.alloc (box4 k n s u 31)).alloc (box4 k' n' s' u' 31)).alloc (box4 k2 n2 s2 u2 31)
theorem cells3c (W : World) (k n : Int) (s : ByteArray) (u : Value) (k' n' : Int) (s' : ByteArray) (u' : Value) (k2 n2 : Int) (s2 : ByteArray) (u2 : Value) (wr : World)
    (hb : Below (w3c W k n s u k' n' s' u' k2 n2 s2 u2).heap.size (w3c W k n s u k' n' s' u' k2 n2 s2 u2) wr) :
    (wr.cell? ⟨W.heap.size, 0, none⟩ = some (.int .i64 k) ∧ wr.cell? ⟨W.heap.size, 1, none⟩ = some (.int .i64 n) ∧ wr.cell? ⟨W.heap.size, 2, none⟩ = some (.string s) ∧ wr.cell? ⟨W.heap.size, 3, none⟩ = some u) ∧
    (wr.cell? ⟨W.heap.size + 1, 0, none⟩ = some (.int .i64 k') ∧ wr.cell? ⟨W.heap.size + 1, 1, none⟩ = some (.int .i64 n') ∧ wr.cell? ⟨W.heap.size + 1, 2, none⟩ = some (.string s') ∧ wr.cell? ⟨W.heap.size + 1, 3, none⟩ = some u') ∧
    (wr.cell? ⟨W.heap.size + 1 + 1, 0, none⟩ = some (.int .i64 k2) ∧ wr.cell? ⟨W.heap.size + 1 + 1, 1, none⟩ = some (.int .i64 n2) ∧ wr.cell? ⟨W.heap.size + 1 + 1, 2, none⟩ = some (.string s2) ∧ wr.cell? ⟨W.heap.size + 1 + 1, 3, none⟩ = some u2) := by
  have h2 := Ext.trans' (bel1' ((W.alloc (box4 k n s u 31)).alloc (box4 k' n' s' u' 31)) (box4 k2 n2 s2 u2 31)) hb
  have h1 := Ext.trans' (bel1' (W.alloc (box4 k n s u 31)) (box4 k' n' s' u' 31)) h2
  have a := box_cells W _ _ _ _ _ h1
  have b := box_cells (W.alloc (box4 k n s u 31)) _ _ _ _ _ h2
  have c := box_cells ((W.alloc (box4 k n s u 31)).alloc (box4 k' n' s' u' 31)) _ _ _ _ _ hb
  simp only [World.size_alloc] at b c
  exact ⟨a, b, c⟩
/-- What the law asks of three good ones. -/
theorem moreL_facts {x y z : Tm} (hx : goodT x = true) (hy : goodT y = true) (hz : goodT z = true) :
    moreB x x = true ∧ alikeB x y = (moreB x y && moreB y x) ∧ alikeB y x = (moreB x y && moreB y x) ∧ (moreB x y = true → moreB y z = true → moreB x z = true) := by
  refine ⟨more_self hx, ?_, ?_, fun h1 h2 => more_trans h1 h2⟩
  · rw [more_both hx hy]; unfold alikeB; rw [hx, hy]; rfl
  · rw [more_both hx hy, same_comm]; unfold alikeB; rw [hx, hy]; rfl
set_option maxHeartbeats 16000000 in
set_option maxRecDepth 100000 in
theorem more_walk {W : World} {v0 v1 v2 : Value} {x y z : Tm} (hx : TmV W x v0) (hy : TmV W y v1) (hz : TmV W z v2) : Calls Try.prog 11 #[v0, v1, v2] W fun e w' => IsBool W true e w' := by
  obtain ⟨k, n, s, u, rfl⟩ := hx.four
  obtain ⟨k', n', s', u', rfl⟩ := hy.four
  obtain ⟨k2, n2, s2, u2, rfl⟩ := hz.four
  have hw : Below W.heap.size W (w3c W k n s u k' n' s' u' k2 n2 s2 u2) := ((bel1' W _).alloc (by simp) _).alloc (by simp; omega) _
  have HC := Lib.hid (cells3c W k n s u k' n' s' u' k2 n2 s2 u2)
  have HW := Lib.hid hw
  have i30 : I64 30 := by unfold I64; omega
  have DX := Lib.hid (fun (w : World) (hb : Below W.heap.size W w) => deep13_at _ x (Nat.le_refl _) 30 i30 w _ (TmV.ext hb _ _ hx))
  have DY := Lib.hid (fun (w : World) (hb : Below W.heap.size W w) => deep13_at _ y (Nat.le_refl _) 30 i30 w _ (TmV.ext hb _ _ hy))
  have DZ := Lib.hid (fun (w : World) (hb : Below W.heap.size W w) => deep13_at _ z (Nat.le_refl _) 30 i30 w _ (TmV.ext hb _ _ hz))
  have GX := Lib.hid (fun (w : World) (hb : Below W.heap.size W w) => Good_at x w _ (TmV.ext hb _ _ hx))
  have GY := Lib.hid (fun (w : World) (hb : Below W.heap.size W w) => Good_at y w _ (TmV.ext hb _ _ hy))
  have GZ := Lib.hid (fun (w : World) (hb : Below W.heap.size W w) => Good_at z w _ (TmV.ext hb _ _ hz))
  have MXX := Lib.hid (fun (w : World) (hb : Below W.heap.size W w) => pMore_at x x w _ _ (TmV.ext hb _ _ hx) (TmV.ext hb _ _ hx))
  have MXY := Lib.hid (fun (w : World) (hb : Below W.heap.size W w) => pMore_at x y w _ _ (TmV.ext hb _ _ hx) (TmV.ext hb _ _ hy))
  have MYX := Lib.hid (fun (w : World) (hb : Below W.heap.size W w) => pMore_at y x w _ _ (TmV.ext hb _ _ hy) (TmV.ext hb _ _ hx))
  have MYZ := Lib.hid (fun (w : World) (hb : Below W.heap.size W w) => pMore_at y z w _ _ (TmV.ext hb _ _ hy) (TmV.ext hb _ _ hz))
  have MXZ := Lib.hid (fun (w : World) (hb : Below W.heap.size W w) => pMore_at x z w _ _ (TmV.ext hb _ _ hx) (TmV.ext hb _ _ hz))
  have AXY := Lib.hid (fun (w : World) (hb : Below W.heap.size W w) => pAlike_at x y w _ _ (TmV.ext hb _ _ hx) (TmV.ext hb _ _ hy))
  have AYX := Lib.hid (fun (w : World) (hb : Below W.heap.size W w) => pAlike_at y x w _ _ (TmV.ext hb _ _ hy) (TmV.ext hb _ _ hx))
  have HF := Lib.hid (fun (a : goodT x = true) (b : goodT y = true) (c : goodT z = true) => moreL_facts (z := z) a b c)
  generalize deepT x 30 = dx at DX
  generalize deepT y 30 = dy at DY
  generalize deepT z 30 = dz at DZ
  generalize goodT x = gx at GX HF
  generalize goodT y = gy at GY HF
  generalize goodT z = gz at GZ HF
  generalize moreB x x = p0 at MXX HF
  generalize moreB x y = p at MXY HF
  generalize moreB y x = q at MYX HF
  generalize moreB y z = s1 at MYZ HF
  generalize moreB x z = t1 at MXZ HF
  generalize alikeB x y = r at AXY HF
  generalize alikeB y x = r' at AYX HF
  clear hx hy hz hw i30
  go_enter Try.func11, Try.ntmps11
  (go_wp2_with fail; go_fit (aawake_at _); rintro e w1 ⟨rfl, b1⟩)
  have H1 := Lib.hid (Ext.trans' HW.out b1)
  have B1 := Lib.hid b1
  obtain ⟨⟨c0, c1, c2, c3⟩, ⟨d0, d1, d2, d3⟩, e0, e1, e2, e3⟩ := HC.out _ b1
  clear b1
  (go_wp2_with fail; go_fit (DX.out _ H1.out); rintro e w2 ⟨rfl, b2⟩)
  have H2 := Lib.hid (Ext.trans' H1.out b2)
  have B2 := Lib.hid (Ext.trans' B1.out b2)
  obtain ⟨⟨c0, c1, c2, c3⟩, ⟨d0, d1, d2, d3⟩, e0, e1, e2, e3⟩ := HC.out _ B2.out
  clear b2 H1 B1
  cases dx
  rotate_left
  · go_wp2
    go_ret
    exact ⟨rfl, H2.out⟩
  (go_wp2_with fail; go_fit (DY.out _ H2.out); rintro e w3 ⟨rfl, b3⟩)
  have H3 := Lib.hid (Ext.trans' H2.out b3)
  have B3 := Lib.hid (Ext.trans' B2.out b3)
  obtain ⟨⟨c0, c1, c2, c3⟩, ⟨d0, d1, d2, d3⟩, e0, e1, e2, e3⟩ := HC.out _ B3.out
  clear b3 H2 B2
  cases dy
  rotate_left
  · go_wp2
    go_ret
    exact ⟨rfl, H3.out⟩
  (go_wp2_with fail; go_fit (DZ.out _ H3.out); rintro e w4 ⟨rfl, b4⟩)
  have H4 := Lib.hid (Ext.trans' H3.out b4)
  have B4 := Lib.hid (Ext.trans' B3.out b4)
  obtain ⟨⟨c0, c1, c2, c3⟩, ⟨d0, d1, d2, d3⟩, e0, e1, e2, e3⟩ := HC.out _ B4.out
  clear b4 H3 B3
  cases dz
  rotate_left
  · go_wp2
    go_ret
    exact ⟨rfl, H4.out⟩
  (go_wp2_with fail; go_fit (GX.out _ H4.out); rintro e w5 ⟨rfl, b5⟩)
  have H5 := Lib.hid (Ext.trans' H4.out b5)
  have B5 := Lib.hid (Ext.trans' B4.out b5)
  obtain ⟨⟨c0, c1, c2, c3⟩, ⟨d0, d1, d2, d3⟩, e0, e1, e2, e3⟩ := HC.out _ B5.out
  clear b5 H4 B4
  cases gx
  · go_wp2
    go_ret
    exact ⟨rfl, H5.out⟩
  (go_wp2_with fail; go_fit (GY.out _ H5.out); rintro e w6 ⟨rfl, b6⟩)
  have H6 := Lib.hid (Ext.trans' H5.out b6)
  have B6 := Lib.hid (Ext.trans' B5.out b6)
  obtain ⟨⟨c0, c1, c2, c3⟩, ⟨d0, d1, d2, d3⟩, e0, e1, e2, e3⟩ := HC.out _ B6.out
  clear b6 H5 B5
  cases gy
  · go_wp2
    go_ret
    exact ⟨rfl, H6.out⟩
  (go_wp2_with fail; go_fit (GZ.out _ H6.out); rintro e w7 ⟨rfl, b7⟩)
  have H7 := Lib.hid (Ext.trans' H6.out b7)
  have B7 := Lib.hid (Ext.trans' B6.out b7)
  obtain ⟨⟨c0, c1, c2, c3⟩, ⟨d0, d1, d2, d3⟩, e0, e1, e2, e3⟩ := HC.out _ B7.out
  clear b7 H6 B6
  cases gz
  · go_wp2
    go_ret
    exact ⟨rfl, H7.out⟩
  obtain ⟨rfl, rfl, rfl, ht⟩ := HF.out (by first | rfl | trivial) (by first | rfl | trivial) (by first | rfl | trivial)
  clear DX DY DZ GX GY GZ HF
  cases p
  · clear ht
    go_wp2_with fail
    (refine wp_region_class (fun w' => ((w'.cell? ⟨W.heap.size, 0, none⟩ = some (.int .i64 k) ∧ w'.cell? ⟨W.heap.size, 1, none⟩ = some (.int .i64 n) ∧ w'.cell? ⟨W.heap.size, 2, none⟩ = some (.string s) ∧ w'.cell? ⟨W.heap.size, 3, none⟩ = some (u)) ∧ (w'.cell? ⟨W.heap.size + 1, 0, none⟩ = some (.int .i64 k') ∧ w'.cell? ⟨W.heap.size + 1, 1, none⟩ = some (.int .i64 n') ∧ w'.cell? ⟨W.heap.size + 1, 2, none⟩ = some (.string s') ∧ w'.cell? ⟨W.heap.size + 1, 3, none⟩ = some (u')) ∧ (w'.cell? ⟨W.heap.size + 1 + 1, 0, none⟩ = some (.int .i64 k2) ∧ w'.cell? ⟨W.heap.size + 1 + 1, 1, none⟩ = some (.int .i64 n2) ∧ w'.cell? ⟨W.heap.size + 1 + 1, 2, none⟩ = some (.string s2) ∧ w'.cell? ⟨W.heap.size + 1 + 1, 3, none⟩ = some (u2))) ∧ Below w7.heap.size w7 w') (by kernel_rfl) (by kernel_rfl) (⟨⟨⟨c0, c1, c2, c3⟩, ⟨d0, d1, d2, d3⟩, e0, e1, e2, e3⟩, (Below.refl _ _).drew⟩) ?_; (repeat (first | go_big_quiet_skip | (go_big_quiet_want; refine quiet_of ?_; apply Exists.intro; refine ⟨fun wq hq => ?_, ?_⟩; (focus ((try dsimp only at hq); go_simp; (first | done | with_reducible rfl | (first | (go_at_call_of 54 (#[Value.agg #[.int .i64 k, .int .i64 n, .string s, u], Value.agg #[.int .i64 k, .int .i64 n, .string s, u]]); refine (MXX.out wq (Ext.trans' H7.out hq.2)).mono ?_; rintro e w6 ⟨rfl, h6⟩; exact ⟨rfl, HC.out _ (Ext.trans' B7.out (Below.trans hq.2 (h6.mono hq.2.size))), Below.trans hq.2 (h6.mono hq.2.size)⟩) | (go_at_call_of 54 (#[Value.agg #[.int .i64 k, .int .i64 n, .string s, u], Value.agg #[.int .i64 k', .int .i64 n', .string s', u']]); refine (MXY.out wq (Ext.trans' H7.out hq.2)).mono ?_; rintro e w6 ⟨rfl, h6⟩; exact ⟨rfl, HC.out _ (Ext.trans' B7.out (Below.trans hq.2 (h6.mono hq.2.size))), Below.trans hq.2 (h6.mono hq.2.size)⟩) | (go_at_call_of 54 (#[Value.agg #[.int .i64 k', .int .i64 n', .string s', u'], Value.agg #[.int .i64 k, .int .i64 n, .string s, u]]); refine (MYX.out wq (Ext.trans' H7.out hq.2)).mono ?_; rintro e w6 ⟨rfl, h6⟩; exact ⟨rfl, HC.out _ (Ext.trans' B7.out (Below.trans hq.2 (h6.mono hq.2.size))), Below.trans hq.2 (h6.mono hq.2.size)⟩) | (go_at_call_of 54 (#[Value.agg #[.int .i64 k', .int .i64 n', .string s', u'], Value.agg #[.int .i64 k2, .int .i64 n2, .string s2, u2]]); refine (MYZ.out wq (Ext.trans' H7.out hq.2)).mono ?_; rintro e w6 ⟨rfl, h6⟩; exact ⟨rfl, HC.out _ (Ext.trans' B7.out (Below.trans hq.2 (h6.mono hq.2.size))), Below.trans hq.2 (h6.mono hq.2.size)⟩) | (go_at_call_of 54 (#[Value.agg #[.int .i64 k, .int .i64 n, .string s, u], Value.agg #[.int .i64 k2, .int .i64 n2, .string s2, u2]]); refine (MXZ.out wq (Ext.trans' H7.out hq.2)).mono ?_; rintro e w6 ⟨rfl, h6⟩; exact ⟨rfl, HC.out _ (Ext.trans' B7.out (Below.trans hq.2 (h6.mono hq.2.size))), Below.trans hq.2 (h6.mono hq.2.size)⟩) | (go_at_call_of 55 (#[Value.agg #[.int .i64 k, .int .i64 n, .string s, u], Value.agg #[.int .i64 k', .int .i64 n', .string s', u']]); refine (AXY.out wq (Ext.trans' H7.out hq.2)).mono ?_; rintro e w6 ⟨rfl, h6⟩; exact ⟨rfl, HC.out _ (Ext.trans' B7.out (Below.trans hq.2 (h6.mono hq.2.size))), Below.trans hq.2 (h6.mono hq.2.size)⟩) | (go_at_call_of 55 (#[Value.agg #[.int .i64 k', .int .i64 n', .string s', u'], Value.agg #[.int .i64 k, .int .i64 n, .string s, u]]); refine (AYX.out wq (Ext.trans' H7.out hq.2)).mono ?_; rintro e w6 ⟨rfl, h6⟩; exact ⟨rfl, HC.out _ (Ext.trans' B7.out (Below.trans hq.2 (h6.mono hq.2.size))), Below.trans hq.2 (h6.mono hq.2.size)⟩) | fail) | fail))); try simp only [Act.put, List.setIfInBounds_toArray, List.set_cons_zero, List.set_cons_succ]; go_big_quiet_on) | fail)); refine wpQuiet_nil ?_; intro wz hz)
    have H8 := Lib.hid (Ext.trans' H7.out hz.2)
    clear hz
    go_wp2
    go_ret
    exact ⟨rfl, H8.out⟩
  · cases q
    · cases s1
      · clear ht
        go_wp2_with fail
        (refine wp_region_class (fun w' => ((w'.cell? ⟨W.heap.size, 0, none⟩ = some (.int .i64 k) ∧ w'.cell? ⟨W.heap.size, 1, none⟩ = some (.int .i64 n) ∧ w'.cell? ⟨W.heap.size, 2, none⟩ = some (.string s) ∧ w'.cell? ⟨W.heap.size, 3, none⟩ = some (u)) ∧ (w'.cell? ⟨W.heap.size + 1, 0, none⟩ = some (.int .i64 k') ∧ w'.cell? ⟨W.heap.size + 1, 1, none⟩ = some (.int .i64 n') ∧ w'.cell? ⟨W.heap.size + 1, 2, none⟩ = some (.string s') ∧ w'.cell? ⟨W.heap.size + 1, 3, none⟩ = some (u')) ∧ (w'.cell? ⟨W.heap.size + 1 + 1, 0, none⟩ = some (.int .i64 k2) ∧ w'.cell? ⟨W.heap.size + 1 + 1, 1, none⟩ = some (.int .i64 n2) ∧ w'.cell? ⟨W.heap.size + 1 + 1, 2, none⟩ = some (.string s2) ∧ w'.cell? ⟨W.heap.size + 1 + 1, 3, none⟩ = some (u2))) ∧ Below w7.heap.size w7 w') (by kernel_rfl) (by kernel_rfl) (⟨⟨⟨c0, c1, c2, c3⟩, ⟨d0, d1, d2, d3⟩, e0, e1, e2, e3⟩, (Below.refl _ _).drew⟩) ?_; (repeat (first | go_big_quiet_skip | (go_big_quiet_want; refine quiet_of ?_; apply Exists.intro; refine ⟨fun wq hq => ?_, ?_⟩; (focus ((try dsimp only at hq); go_simp; (first | done | with_reducible rfl | (first | (go_at_call_of 54 (#[Value.agg #[.int .i64 k, .int .i64 n, .string s, u], Value.agg #[.int .i64 k, .int .i64 n, .string s, u]]); refine (MXX.out wq (Ext.trans' H7.out hq.2)).mono ?_; rintro e w6 ⟨rfl, h6⟩; exact ⟨rfl, HC.out _ (Ext.trans' B7.out (Below.trans hq.2 (h6.mono hq.2.size))), Below.trans hq.2 (h6.mono hq.2.size)⟩) | (go_at_call_of 54 (#[Value.agg #[.int .i64 k, .int .i64 n, .string s, u], Value.agg #[.int .i64 k', .int .i64 n', .string s', u']]); refine (MXY.out wq (Ext.trans' H7.out hq.2)).mono ?_; rintro e w6 ⟨rfl, h6⟩; exact ⟨rfl, HC.out _ (Ext.trans' B7.out (Below.trans hq.2 (h6.mono hq.2.size))), Below.trans hq.2 (h6.mono hq.2.size)⟩) | (go_at_call_of 54 (#[Value.agg #[.int .i64 k', .int .i64 n', .string s', u'], Value.agg #[.int .i64 k, .int .i64 n, .string s, u]]); refine (MYX.out wq (Ext.trans' H7.out hq.2)).mono ?_; rintro e w6 ⟨rfl, h6⟩; exact ⟨rfl, HC.out _ (Ext.trans' B7.out (Below.trans hq.2 (h6.mono hq.2.size))), Below.trans hq.2 (h6.mono hq.2.size)⟩) | (go_at_call_of 54 (#[Value.agg #[.int .i64 k', .int .i64 n', .string s', u'], Value.agg #[.int .i64 k2, .int .i64 n2, .string s2, u2]]); refine (MYZ.out wq (Ext.trans' H7.out hq.2)).mono ?_; rintro e w6 ⟨rfl, h6⟩; exact ⟨rfl, HC.out _ (Ext.trans' B7.out (Below.trans hq.2 (h6.mono hq.2.size))), Below.trans hq.2 (h6.mono hq.2.size)⟩) | (go_at_call_of 54 (#[Value.agg #[.int .i64 k, .int .i64 n, .string s, u], Value.agg #[.int .i64 k2, .int .i64 n2, .string s2, u2]]); refine (MXZ.out wq (Ext.trans' H7.out hq.2)).mono ?_; rintro e w6 ⟨rfl, h6⟩; exact ⟨rfl, HC.out _ (Ext.trans' B7.out (Below.trans hq.2 (h6.mono hq.2.size))), Below.trans hq.2 (h6.mono hq.2.size)⟩) | (go_at_call_of 55 (#[Value.agg #[.int .i64 k, .int .i64 n, .string s, u], Value.agg #[.int .i64 k', .int .i64 n', .string s', u']]); refine (AXY.out wq (Ext.trans' H7.out hq.2)).mono ?_; rintro e w6 ⟨rfl, h6⟩; exact ⟨rfl, HC.out _ (Ext.trans' B7.out (Below.trans hq.2 (h6.mono hq.2.size))), Below.trans hq.2 (h6.mono hq.2.size)⟩) | (go_at_call_of 55 (#[Value.agg #[.int .i64 k', .int .i64 n', .string s', u'], Value.agg #[.int .i64 k, .int .i64 n, .string s, u]]); refine (AYX.out wq (Ext.trans' H7.out hq.2)).mono ?_; rintro e w6 ⟨rfl, h6⟩; exact ⟨rfl, HC.out _ (Ext.trans' B7.out (Below.trans hq.2 (h6.mono hq.2.size))), Below.trans hq.2 (h6.mono hq.2.size)⟩) | fail) | fail))); try simp only [Act.put, List.setIfInBounds_toArray, List.set_cons_zero, List.set_cons_succ]; go_big_quiet_on) | fail)); refine wpQuiet_nil ?_; intro wz hz)
        have H8 := Lib.hid (Ext.trans' H7.out hz.2)
        clear hz
        go_wp2
        go_ret
        exact ⟨rfl, H8.out⟩
      · obtain rfl : t1 = true := ht rfl rfl
        clear ht
        go_wp2_with fail
        (refine wp_region_class (fun w' => ((w'.cell? ⟨W.heap.size, 0, none⟩ = some (.int .i64 k) ∧ w'.cell? ⟨W.heap.size, 1, none⟩ = some (.int .i64 n) ∧ w'.cell? ⟨W.heap.size, 2, none⟩ = some (.string s) ∧ w'.cell? ⟨W.heap.size, 3, none⟩ = some (u)) ∧ (w'.cell? ⟨W.heap.size + 1, 0, none⟩ = some (.int .i64 k') ∧ w'.cell? ⟨W.heap.size + 1, 1, none⟩ = some (.int .i64 n') ∧ w'.cell? ⟨W.heap.size + 1, 2, none⟩ = some (.string s') ∧ w'.cell? ⟨W.heap.size + 1, 3, none⟩ = some (u')) ∧ (w'.cell? ⟨W.heap.size + 1 + 1, 0, none⟩ = some (.int .i64 k2) ∧ w'.cell? ⟨W.heap.size + 1 + 1, 1, none⟩ = some (.int .i64 n2) ∧ w'.cell? ⟨W.heap.size + 1 + 1, 2, none⟩ = some (.string s2) ∧ w'.cell? ⟨W.heap.size + 1 + 1, 3, none⟩ = some (u2))) ∧ Below w7.heap.size w7 w') (by kernel_rfl) (by kernel_rfl) (⟨⟨⟨c0, c1, c2, c3⟩, ⟨d0, d1, d2, d3⟩, e0, e1, e2, e3⟩, (Below.refl _ _).drew⟩) ?_; (repeat (first | go_big_quiet_skip | (go_big_quiet_want; refine quiet_of ?_; apply Exists.intro; refine ⟨fun wq hq => ?_, ?_⟩; (focus ((try dsimp only at hq); go_simp; (first | done | with_reducible rfl | (first | (go_at_call_of 54 (#[Value.agg #[.int .i64 k, .int .i64 n, .string s, u], Value.agg #[.int .i64 k, .int .i64 n, .string s, u]]); refine (MXX.out wq (Ext.trans' H7.out hq.2)).mono ?_; rintro e w6 ⟨rfl, h6⟩; exact ⟨rfl, HC.out _ (Ext.trans' B7.out (Below.trans hq.2 (h6.mono hq.2.size))), Below.trans hq.2 (h6.mono hq.2.size)⟩) | (go_at_call_of 54 (#[Value.agg #[.int .i64 k, .int .i64 n, .string s, u], Value.agg #[.int .i64 k', .int .i64 n', .string s', u']]); refine (MXY.out wq (Ext.trans' H7.out hq.2)).mono ?_; rintro e w6 ⟨rfl, h6⟩; exact ⟨rfl, HC.out _ (Ext.trans' B7.out (Below.trans hq.2 (h6.mono hq.2.size))), Below.trans hq.2 (h6.mono hq.2.size)⟩) | (go_at_call_of 54 (#[Value.agg #[.int .i64 k', .int .i64 n', .string s', u'], Value.agg #[.int .i64 k, .int .i64 n, .string s, u]]); refine (MYX.out wq (Ext.trans' H7.out hq.2)).mono ?_; rintro e w6 ⟨rfl, h6⟩; exact ⟨rfl, HC.out _ (Ext.trans' B7.out (Below.trans hq.2 (h6.mono hq.2.size))), Below.trans hq.2 (h6.mono hq.2.size)⟩) | (go_at_call_of 54 (#[Value.agg #[.int .i64 k', .int .i64 n', .string s', u'], Value.agg #[.int .i64 k2, .int .i64 n2, .string s2, u2]]); refine (MYZ.out wq (Ext.trans' H7.out hq.2)).mono ?_; rintro e w6 ⟨rfl, h6⟩; exact ⟨rfl, HC.out _ (Ext.trans' B7.out (Below.trans hq.2 (h6.mono hq.2.size))), Below.trans hq.2 (h6.mono hq.2.size)⟩) | (go_at_call_of 54 (#[Value.agg #[.int .i64 k, .int .i64 n, .string s, u], Value.agg #[.int .i64 k2, .int .i64 n2, .string s2, u2]]); refine (MXZ.out wq (Ext.trans' H7.out hq.2)).mono ?_; rintro e w6 ⟨rfl, h6⟩; exact ⟨rfl, HC.out _ (Ext.trans' B7.out (Below.trans hq.2 (h6.mono hq.2.size))), Below.trans hq.2 (h6.mono hq.2.size)⟩) | (go_at_call_of 55 (#[Value.agg #[.int .i64 k, .int .i64 n, .string s, u], Value.agg #[.int .i64 k', .int .i64 n', .string s', u']]); refine (AXY.out wq (Ext.trans' H7.out hq.2)).mono ?_; rintro e w6 ⟨rfl, h6⟩; exact ⟨rfl, HC.out _ (Ext.trans' B7.out (Below.trans hq.2 (h6.mono hq.2.size))), Below.trans hq.2 (h6.mono hq.2.size)⟩) | (go_at_call_of 55 (#[Value.agg #[.int .i64 k', .int .i64 n', .string s', u'], Value.agg #[.int .i64 k, .int .i64 n, .string s, u]]); refine (AYX.out wq (Ext.trans' H7.out hq.2)).mono ?_; rintro e w6 ⟨rfl, h6⟩; exact ⟨rfl, HC.out _ (Ext.trans' B7.out (Below.trans hq.2 (h6.mono hq.2.size))), Below.trans hq.2 (h6.mono hq.2.size)⟩) | fail) | fail))); try simp only [Act.put, List.setIfInBounds_toArray, List.set_cons_zero, List.set_cons_succ]; go_big_quiet_on) | fail)); refine wpQuiet_nil ?_; intro wz hz)
        have H8 := Lib.hid (Ext.trans' H7.out hz.2)
        clear hz
        go_wp2
        go_ret
        exact ⟨rfl, H8.out⟩
    · cases s1
      · clear ht
        go_wp2_with fail
        (refine wp_region_class (fun w' => ((w'.cell? ⟨W.heap.size, 0, none⟩ = some (.int .i64 k) ∧ w'.cell? ⟨W.heap.size, 1, none⟩ = some (.int .i64 n) ∧ w'.cell? ⟨W.heap.size, 2, none⟩ = some (.string s) ∧ w'.cell? ⟨W.heap.size, 3, none⟩ = some (u)) ∧ (w'.cell? ⟨W.heap.size + 1, 0, none⟩ = some (.int .i64 k') ∧ w'.cell? ⟨W.heap.size + 1, 1, none⟩ = some (.int .i64 n') ∧ w'.cell? ⟨W.heap.size + 1, 2, none⟩ = some (.string s') ∧ w'.cell? ⟨W.heap.size + 1, 3, none⟩ = some (u')) ∧ (w'.cell? ⟨W.heap.size + 1 + 1, 0, none⟩ = some (.int .i64 k2) ∧ w'.cell? ⟨W.heap.size + 1 + 1, 1, none⟩ = some (.int .i64 n2) ∧ w'.cell? ⟨W.heap.size + 1 + 1, 2, none⟩ = some (.string s2) ∧ w'.cell? ⟨W.heap.size + 1 + 1, 3, none⟩ = some (u2))) ∧ Below w7.heap.size w7 w') (by kernel_rfl) (by kernel_rfl) (⟨⟨⟨c0, c1, c2, c3⟩, ⟨d0, d1, d2, d3⟩, e0, e1, e2, e3⟩, (Below.refl _ _).drew⟩) ?_; (repeat (first | go_big_quiet_skip | (go_big_quiet_want; refine quiet_of ?_; apply Exists.intro; refine ⟨fun wq hq => ?_, ?_⟩; (focus ((try dsimp only at hq); go_simp; (first | done | with_reducible rfl | (first | (go_at_call_of 54 (#[Value.agg #[.int .i64 k, .int .i64 n, .string s, u], Value.agg #[.int .i64 k, .int .i64 n, .string s, u]]); refine (MXX.out wq (Ext.trans' H7.out hq.2)).mono ?_; rintro e w6 ⟨rfl, h6⟩; exact ⟨rfl, HC.out _ (Ext.trans' B7.out (Below.trans hq.2 (h6.mono hq.2.size))), Below.trans hq.2 (h6.mono hq.2.size)⟩) | (go_at_call_of 54 (#[Value.agg #[.int .i64 k, .int .i64 n, .string s, u], Value.agg #[.int .i64 k', .int .i64 n', .string s', u']]); refine (MXY.out wq (Ext.trans' H7.out hq.2)).mono ?_; rintro e w6 ⟨rfl, h6⟩; exact ⟨rfl, HC.out _ (Ext.trans' B7.out (Below.trans hq.2 (h6.mono hq.2.size))), Below.trans hq.2 (h6.mono hq.2.size)⟩) | (go_at_call_of 54 (#[Value.agg #[.int .i64 k', .int .i64 n', .string s', u'], Value.agg #[.int .i64 k, .int .i64 n, .string s, u]]); refine (MYX.out wq (Ext.trans' H7.out hq.2)).mono ?_; rintro e w6 ⟨rfl, h6⟩; exact ⟨rfl, HC.out _ (Ext.trans' B7.out (Below.trans hq.2 (h6.mono hq.2.size))), Below.trans hq.2 (h6.mono hq.2.size)⟩) | (go_at_call_of 54 (#[Value.agg #[.int .i64 k', .int .i64 n', .string s', u'], Value.agg #[.int .i64 k2, .int .i64 n2, .string s2, u2]]); refine (MYZ.out wq (Ext.trans' H7.out hq.2)).mono ?_; rintro e w6 ⟨rfl, h6⟩; exact ⟨rfl, HC.out _ (Ext.trans' B7.out (Below.trans hq.2 (h6.mono hq.2.size))), Below.trans hq.2 (h6.mono hq.2.size)⟩) | (go_at_call_of 54 (#[Value.agg #[.int .i64 k, .int .i64 n, .string s, u], Value.agg #[.int .i64 k2, .int .i64 n2, .string s2, u2]]); refine (MXZ.out wq (Ext.trans' H7.out hq.2)).mono ?_; rintro e w6 ⟨rfl, h6⟩; exact ⟨rfl, HC.out _ (Ext.trans' B7.out (Below.trans hq.2 (h6.mono hq.2.size))), Below.trans hq.2 (h6.mono hq.2.size)⟩) | (go_at_call_of 55 (#[Value.agg #[.int .i64 k, .int .i64 n, .string s, u], Value.agg #[.int .i64 k', .int .i64 n', .string s', u']]); refine (AXY.out wq (Ext.trans' H7.out hq.2)).mono ?_; rintro e w6 ⟨rfl, h6⟩; exact ⟨rfl, HC.out _ (Ext.trans' B7.out (Below.trans hq.2 (h6.mono hq.2.size))), Below.trans hq.2 (h6.mono hq.2.size)⟩) | (go_at_call_of 55 (#[Value.agg #[.int .i64 k', .int .i64 n', .string s', u'], Value.agg #[.int .i64 k, .int .i64 n, .string s, u]]); refine (AYX.out wq (Ext.trans' H7.out hq.2)).mono ?_; rintro e w6 ⟨rfl, h6⟩; exact ⟨rfl, HC.out _ (Ext.trans' B7.out (Below.trans hq.2 (h6.mono hq.2.size))), Below.trans hq.2 (h6.mono hq.2.size)⟩) | fail) | fail))); try simp only [Act.put, List.setIfInBounds_toArray, List.set_cons_zero, List.set_cons_succ]; go_big_quiet_on) | fail)); refine wpQuiet_nil ?_; intro wz hz)
        have H8 := Lib.hid (Ext.trans' H7.out hz.2)
        clear hz
        go_wp2
        go_ret
        exact ⟨rfl, H8.out⟩
      · obtain rfl : t1 = true := ht rfl rfl
        clear ht
        go_wp2_with fail
        (refine wp_region_class (fun w' => ((w'.cell? ⟨W.heap.size, 0, none⟩ = some (.int .i64 k) ∧ w'.cell? ⟨W.heap.size, 1, none⟩ = some (.int .i64 n) ∧ w'.cell? ⟨W.heap.size, 2, none⟩ = some (.string s) ∧ w'.cell? ⟨W.heap.size, 3, none⟩ = some (u)) ∧ (w'.cell? ⟨W.heap.size + 1, 0, none⟩ = some (.int .i64 k') ∧ w'.cell? ⟨W.heap.size + 1, 1, none⟩ = some (.int .i64 n') ∧ w'.cell? ⟨W.heap.size + 1, 2, none⟩ = some (.string s') ∧ w'.cell? ⟨W.heap.size + 1, 3, none⟩ = some (u')) ∧ (w'.cell? ⟨W.heap.size + 1 + 1, 0, none⟩ = some (.int .i64 k2) ∧ w'.cell? ⟨W.heap.size + 1 + 1, 1, none⟩ = some (.int .i64 n2) ∧ w'.cell? ⟨W.heap.size + 1 + 1, 2, none⟩ = some (.string s2) ∧ w'.cell? ⟨W.heap.size + 1 + 1, 3, none⟩ = some (u2))) ∧ Below w7.heap.size w7 w') (by kernel_rfl) (by kernel_rfl) (⟨⟨⟨c0, c1, c2, c3⟩, ⟨d0, d1, d2, d3⟩, e0, e1, e2, e3⟩, (Below.refl _ _).drew⟩) ?_; (repeat (first | go_big_quiet_skip | (go_big_quiet_want; refine quiet_of ?_; apply Exists.intro; refine ⟨fun wq hq => ?_, ?_⟩; (focus ((try dsimp only at hq); go_simp; (first | done | with_reducible rfl | (first | (go_at_call_of 54 (#[Value.agg #[.int .i64 k, .int .i64 n, .string s, u], Value.agg #[.int .i64 k, .int .i64 n, .string s, u]]); refine (MXX.out wq (Ext.trans' H7.out hq.2)).mono ?_; rintro e w6 ⟨rfl, h6⟩; exact ⟨rfl, HC.out _ (Ext.trans' B7.out (Below.trans hq.2 (h6.mono hq.2.size))), Below.trans hq.2 (h6.mono hq.2.size)⟩) | (go_at_call_of 54 (#[Value.agg #[.int .i64 k, .int .i64 n, .string s, u], Value.agg #[.int .i64 k', .int .i64 n', .string s', u']]); refine (MXY.out wq (Ext.trans' H7.out hq.2)).mono ?_; rintro e w6 ⟨rfl, h6⟩; exact ⟨rfl, HC.out _ (Ext.trans' B7.out (Below.trans hq.2 (h6.mono hq.2.size))), Below.trans hq.2 (h6.mono hq.2.size)⟩) | (go_at_call_of 54 (#[Value.agg #[.int .i64 k', .int .i64 n', .string s', u'], Value.agg #[.int .i64 k, .int .i64 n, .string s, u]]); refine (MYX.out wq (Ext.trans' H7.out hq.2)).mono ?_; rintro e w6 ⟨rfl, h6⟩; exact ⟨rfl, HC.out _ (Ext.trans' B7.out (Below.trans hq.2 (h6.mono hq.2.size))), Below.trans hq.2 (h6.mono hq.2.size)⟩) | (go_at_call_of 54 (#[Value.agg #[.int .i64 k', .int .i64 n', .string s', u'], Value.agg #[.int .i64 k2, .int .i64 n2, .string s2, u2]]); refine (MYZ.out wq (Ext.trans' H7.out hq.2)).mono ?_; rintro e w6 ⟨rfl, h6⟩; exact ⟨rfl, HC.out _ (Ext.trans' B7.out (Below.trans hq.2 (h6.mono hq.2.size))), Below.trans hq.2 (h6.mono hq.2.size)⟩) | (go_at_call_of 54 (#[Value.agg #[.int .i64 k, .int .i64 n, .string s, u], Value.agg #[.int .i64 k2, .int .i64 n2, .string s2, u2]]); refine (MXZ.out wq (Ext.trans' H7.out hq.2)).mono ?_; rintro e w6 ⟨rfl, h6⟩; exact ⟨rfl, HC.out _ (Ext.trans' B7.out (Below.trans hq.2 (h6.mono hq.2.size))), Below.trans hq.2 (h6.mono hq.2.size)⟩) | (go_at_call_of 55 (#[Value.agg #[.int .i64 k, .int .i64 n, .string s, u], Value.agg #[.int .i64 k', .int .i64 n', .string s', u']]); refine (AXY.out wq (Ext.trans' H7.out hq.2)).mono ?_; rintro e w6 ⟨rfl, h6⟩; exact ⟨rfl, HC.out _ (Ext.trans' B7.out (Below.trans hq.2 (h6.mono hq.2.size))), Below.trans hq.2 (h6.mono hq.2.size)⟩) | (go_at_call_of 55 (#[Value.agg #[.int .i64 k', .int .i64 n', .string s', u'], Value.agg #[.int .i64 k, .int .i64 n, .string s, u]]); refine (AYX.out wq (Ext.trans' H7.out hq.2)).mono ?_; rintro e w6 ⟨rfl, h6⟩; exact ⟨rfl, HC.out _ (Ext.trans' B7.out (Below.trans hq.2 (h6.mono hq.2.size))), Below.trans hq.2 (h6.mono hq.2.size)⟩) | fail) | fail))); try simp only [Act.put, List.setIfInBounds_toArray, List.set_cons_zero, List.set_cons_succ]; go_big_quiet_on) | fail)); refine wpQuiet_nil ?_; intro wz hz)
        have H8 := Lib.hid (Ext.trans' H7.out hz.2)
        clear hz
        go_wp2
        go_ret
        exact ⟨rfl, H8.out⟩
end Go.Proofs.Ytbbbgijlbcmpbaa
/- AliasMore: each says as much as itself; two that each say as much as the other are alike, and only such; through a third one; alike is the same the other way round: for every input the law answers true. No condition. -/
namespace Go.Proofs.Ytbbbgijlbcmpbaa
open Go.RowKit
namespace aliasMore
open Go.ChangeShapes Go.WideShapes Go.ChangeAt Go.RowKit
theorem own : ownKnob Try.prog.godebug = none := by kernel_rfl
theorem laidOut : laidOutB Try.prog = true := by kernel_rfl
set_option linter.unusedVariables false
set_option maxRecDepth 100000 in
theorem lifted (os : Os) (started : os.Started) (H : Type) (enc : TypeId × Value → H) :
    ReturnsInHanded {} Try.checked os 11 .any (Rows.aliasMoreSpec.pre6 enc Try.prog Try.f11 Rows.aliasMoreRow.domain false) (Rows.aliasMoreSpec.post enc Try.prog Try.f11 false true false false) := by
  refine returnsInHanded_of_change_sized (C := Try.checked) own started (by kernel_rfl) Try.func11
    (ChangeSpec.witness6 (enc := enc) (C := Try.checked) false ⟨#[], #[.agg #[.int .i64 0,.int .i64 0,.string ⟨#[]⟩,.slice none 0 0], .agg #[.int .i64 0,.int .i64 0,.string ⟨#[]⟩,.slice none 0 0], .agg #[.int .i64 0,.int .i64 0,.string ⟨#[]⟩,.slice none 0 0]], []⟩ 8 (by kernel_rfl) (by kernel_rfl) (by kernel_rfl) (by kernel_rfl)) ?_
  intro W base args ds gs before hval0 hW hcnd hsz0 _
  have hval : ∀ (j : Nat) t v, Try.f11.params[j]? = some t → args[j]? = some v → Value.okWide Try.prog W .any base t v := hval0
  have hW' := hW
  obtain ⟨p, q, hA0, hV, rfl, hfz, hnd⟩ := hW
  have hA : DataW.TrodAll enc Try.prog W 0 (fun _ => true) true Try.f11.params.toList args.toList ds p := hA0
  have hsz : (DataW.weightsEach Try.prog (Try.f11.params.toList ++ []) (ds ++ gs)).all (· ≤ reachBytes) = true := hsz0
  rw [Try.params11] at hA hval hsz
  obtain ⟨v0, vs0, d0, ds0, p0, q0, hargs, rfl, rfl, h0, r0⟩ := trodAll_cons hA
  obtain ⟨v1, vs1, d1, ds1, p1, q1, rfl, rfl, rfl, h1, r1⟩ := trodAll_cons r0
  obtain ⟨v2, vs2, d2, ds2, p2, q2, rfl, rfl, rfl, h2, r2⟩ := trodAll_cons r1
  obtain ⟨rfl, rfl, rfl⟩ := trodAll_nil r2
  obtain rfl : args = #[v0, v1, v2] := by cases args; simp_all
  obtain ⟨rfl, rfl⟩ := trodVars_none hV
  clear hA0 hval0 hsz0
  have k0 := h0
  have lt0 := lt_of_trod h0
  have k1 := h1
  have lt1 := lt_of_trod h1
  have k2 := h2
  have lt2 := lt_of_trod h2
  obtain ⟨a0, w0⟩ := term_of_trod h0 (hval 0 31 v0 rfl rfl) (weights_ok hsz (j := 0) (t := 31) (d := d0) rfl rfl)
  obtain ⟨a1, w1⟩ := term_of_trod h1 (hval 1 31 v1 rfl rfl) (weights_ok hsz (j := 1) (t := 31) (d := d1) rfl rfl)
  obtain ⟨a2, w2⟩ := term_of_trod h2 (hval 2 31 v2 rfl rfl) (weights_ok hsz (j := 2) (t := 31) (d := d2) rfl rfl)
  refine (more_walk w0 w1 w2).mono fun e W' ⟨he, bel⟩ => ?_
  subst he
  exact ⟨_, rfl, _, _, _, [], _, [], hW', trodAll_mk1 (shut_bool Try.underlying4 _), (trodAll_cons_mk (Below.trod laidOut (by kernel_rfl) (of_decide_eq_true (by kernel_rfl)) k0 bel lt0) (trodAll_cons_mk (Below.trod laidOut (by kernel_rfl) (of_decide_eq_true (by kernel_rfl)) k1 bel lt1) (trodAll_cons_mk (Below.trod laidOut (by kernel_rfl) (of_decide_eq_true (by kernel_rfl)) k2 bel lt2) trodAll_mk0))), rfl, bel.frame _, fun h => by cases h⟩
theorem proved : Rows.AliasMoreSaid :=
  OpenClaim.holds_of_wide 11 Try.f11 rfl rfl rfl rfl rfl rfl rfl ⟨rfl, rfl, rfl, rfl, rfl⟩ rfl rfl rfl rfl rfl (by kernel_rfl) Try.func11 (by kernel_rfl)
    (of_decide_eq_true (by kernel_rfl)) (by unfold Func.isWrapper; first | (rw [if_pos (by decide +kernel)]; kernel_rfl) | (rw [if_neg (by decide +kernel)]; exact ⟨rfl, rfl⟩))
    (fun os started H enc _ => lifted os started H enc)
#print axioms proved
end aliasMore

end Go.Proofs.Ytbbbgijlbcmpbaa
