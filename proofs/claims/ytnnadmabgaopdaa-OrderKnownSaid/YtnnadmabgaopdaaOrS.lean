/- order's Test, the document's own Test. (gen_or2.py) -/
import Derived.Test.YtnnadmabgaopdaaOrR
namespace Go.Proofs.Ytnnadmabgaopdaa
open Go.RowKit
set_option linter.unusedVariables false

theorem test_no {op : List UInt8} {x y : Tm} (h : (goodT x && goodT y) = false) : testG op x y = (false, 1) := by unfold testG; rw [h]; rfl
theorem test_ok {op : List UInt8} {x y : Tm} (h : (goodT x && goodT y) = true) : testG op x y = testB op (cmpT x y) := by unfold testG; rw [h]; rfl
set_option maxHeartbeats 8000000 in
set_option maxRecDepth 100000 in
theorem otest_at {x y : Tm} {w : World} {va vb : Value} (op : ByteArray) (hv : TmV w x va) (hv' : TmV w y vb) : Calls Try.prog 13 #[.string op, va, vb] w fun e w' => e = .returned (.tuple #[.bool (testG op.toList x y).1, .int .i64 (testG op.toList x y).2]) ∧ Below w.heap.size w w' := by
  have G := fun w (h : TmV w x va) (h' : TmV w y vb) => ogood_at h h'
  have C := fun w (h : TmV w x va) (h' : TmV w y vb) => compare_at _ x (Nat.le_refl _) y w va vb h h'
  obtain ⟨k, n, s, u, rfl⟩ := hv.four
  obtain ⟨k', n', s', u', rfl⟩ := hv'.four
  have hw : Below w.heap.size w ((w.alloc (box4 k n s u 25)).alloc (box4 k' n' s' u' 25)) := (bel1' w _).alloc (by simp) _
  have hv0 := TmV.ext hw _ _ hv
  have hv0' := TmV.ext hw _ _ hv'
  have HWW := Lib.hid hw
  obtain ⟨R, hR⟩ : ∃ R, testG op.toList x y = R := ⟨_, rfl⟩
  rw [hR]
  clear hv hv' hw
  cases hg : (goodT x && goodT y)
  · rw [test_no hg] at hR
    rw [hg] at G
    subst hR
    clear hg C
    go_enter Try.func13, Try.ntmps13
    (go_wp2_with fail; go_fit (G _ hv0 hv0'); rintro e w1 ⟨rfl, b1⟩)
    have B1 := Lib.hid (Ext.trans' HWW.out b1)
    clear b1
    go_wp2
    go_ret2
    exact ⟨rfl, B1.out⟩
  · rw [test_ok hg] at hR
    rw [hg] at G
    obtain ⟨q, hq⟩ : ∃ q, cmpT x y = q := ⟨_, rfl⟩
    rw [hq] at C hR
    clear hg hq
    have HR := Lib.hid hR
    clear hR
    go_enter Try.func13, Try.ntmps13
    (go_wp2_with fail; go_fit (G _ hv0 hv0'); rintro e w1 ⟨rfl, b1⟩)
    have b1' := Ext.trans' (bel1' (w.alloc (box4 k n s u 25)) (box4 k' n' s' u' 25)) b1
    obtain ⟨d0, d1, d2, d3⟩ := box_cells (w.alloc (box4 k n s u 25)) 25 _ _ _ _ b1
    obtain ⟨c0, c1, c2, c3⟩ := box_cells w 25 _ _ _ _ b1'
    simp only [World.size_alloc] at d0 d1 d2 d3
    (go_wp2_with fail; go_fit (C _ (TmV.ext b1 _ _ hv0) (TmV.ext b1 _ _ hv0')); rintro e w2 ⟨rfl, b2⟩)
    have B2 := Lib.hid (Ext.trans' HWW.out (Ext.trans' b1 b2))
    clear b1 b2 b1'
    have hr := HR.out
    unfold testB at hr
    by_cases e0 : op.toList = [61, 61]
    · rw [if_pos e0] at hr
      have f0 : (op.toList == [61, 61]) = true := by rw [e0]; rfl
      have HT := Lib.hid hr
      clear hr HR e0
      go_wp2
      go_ret2
      exact ⟨congrArg (fun r : Bool × Int => Ending.returned (.tuple #[.bool r.1, .int .i64 r.2])) HT.out, B2.out⟩
    rw [if_neg e0] at hr
    have f0 : (op.toList == [61, 61]) = false := beq_false_of_ne e0
    by_cases e1 : op.toList = [92, 61, 61]
    · rw [if_pos e1] at hr
      have f1 : (op.toList == [92, 61, 61]) = true := by rw [e1]; rfl
      have HT := Lib.hid hr
      clear hr HR e0 e1
      go_wp2
      go_ret2
      exact ⟨congrArg (fun r : Bool × Int => Ending.returned (.tuple #[.bool r.1, .int .i64 r.2])) HT.out, B2.out⟩
    rw [if_neg e1] at hr
    have f1 : (op.toList == [92, 61, 61]) = false := beq_false_of_ne e1
    by_cases e2 : op.toList = [64, 60]
    · rw [if_pos e2] at hr
      have f2 : (op.toList == [64, 60]) = true := by rw [e2]; rfl
      have HT := Lib.hid hr
      clear hr HR e0 e1 e2
      go_wp2
      go_ret2
      exact ⟨congrArg (fun r : Bool × Int => Ending.returned (.tuple #[.bool r.1, .int .i64 r.2])) HT.out, B2.out⟩
    rw [if_neg e2] at hr
    have f2 : (op.toList == [64, 60]) = false := beq_false_of_ne e2
    by_cases e3 : op.toList = [64, 62]
    · rw [if_pos e3] at hr
      have f3 : (op.toList == [64, 62]) = true := by rw [e3]; rfl
      have HT := Lib.hid hr
      clear hr HR e0 e1 e2 e3
      go_wp2
      go_ret2
      exact ⟨congrArg (fun r : Bool × Int => Ending.returned (.tuple #[.bool r.1, .int .i64 r.2])) HT.out, B2.out⟩
    rw [if_neg e3] at hr
    have f3 : (op.toList == [64, 62]) = false := beq_false_of_ne e3
    by_cases e4 : op.toList = [64, 61, 60]
    · rw [if_pos e4] at hr
      have f4 : (op.toList == [64, 61, 60]) = true := by rw [e4]; rfl
      have HT := Lib.hid hr
      clear hr HR e0 e1 e2 e3 e4
      go_wp2
      go_ret2
      exact ⟨congrArg (fun r : Bool × Int => Ending.returned (.tuple #[.bool r.1, .int .i64 r.2])) HT.out, B2.out⟩
    rw [if_neg e4] at hr
    have f4 : (op.toList == [64, 61, 60]) = false := beq_false_of_ne e4
    by_cases e5 : op.toList = [64, 62, 61]
    · rw [if_pos e5] at hr
      have f5 : (op.toList == [64, 62, 61]) = true := by rw [e5]; rfl
      have HT := Lib.hid hr
      clear hr HR e0 e1 e2 e3 e4 e5
      go_wp2
      go_ret2
      exact ⟨congrArg (fun r : Bool × Int => Ending.returned (.tuple #[.bool r.1, .int .i64 r.2])) HT.out, B2.out⟩
    rw [if_neg e5] at hr
    have f5 : (op.toList == [64, 62, 61]) = false := beq_false_of_ne e5
    have HT := Lib.hid hr
    clear hr HR e0 e1 e2 e3 e4 e5
    go_wp2
    go_ret2
    exact ⟨congrArg (fun r : Bool × Int => Ending.returned (.tuple #[.bool r.1, .int .i64 r.2])) HT.out, B2.out⟩
set_option maxHeartbeats 8000000 in
set_option maxRecDepth 100000 in
theorem rtest_at {x y : Tm} {w : World} {va vb : Value} (op : ByteArray) (hv : TmV w x va) (hv' : TmV w y vb) : Calls Try.prog 19 #[.string op, va, vb] w fun e w' => e = .returned (.tuple #[.bool (testG op.toList x y).1, .int .i64 (testG op.toList x y).2]) ∧ Below w.heap.size w w' := by
  have GX := fun w (h : TmV w x va) => rgood_at x w va h
  have GY := fun w (h : TmV w y vb) => rgood_at y w vb h
  have C := fun w (h : TmV w x va) (h' : TmV w y vb) => rcmp_at _ x (Nat.le_refl _) y w va vb h h'
  obtain ⟨k, n, s, u, rfl⟩ := hv.four
  obtain ⟨k', n', s', u', rfl⟩ := hv'.four
  have hw : Below w.heap.size w ((w.alloc (box4 k n s u 38)).alloc (box4 k' n' s' u' 38)) := (bel1' w _).alloc (by simp) _
  have hv0 := TmV.ext hw _ _ hv
  have hv0' := TmV.ext hw _ _ hv'
  have HWW := Lib.hid hw
  obtain ⟨R, hR⟩ : ∃ R, testG op.toList x y = R := ⟨_, rfl⟩
  rw [hR]
  clear hv hv' hw
  cases gx : goodT x
  · rw [test_no (by rw [gx]; rfl)] at hR
    rw [gx] at GX
    subst hR
    clear gx C GY
    go_enter Try.func19, Try.ntmps19
    (go_wp2_with fail; go_fit (GX _ hv0); rintro e w1 ⟨rfl, b1⟩)
    have B1 := Lib.hid (Ext.trans' HWW.out b1)
    clear b1
    go_wp2
    go_ret2
    exact ⟨rfl, B1.out⟩
  rw [gx] at GX
  cases gy : goodT y
  · rw [test_no (by rw [gx, gy]; rfl)] at hR
    rw [gy] at GY
    subst hR
    clear gx gy C
    go_enter Try.func19, Try.ntmps19
    (go_wp2_with fail; go_fit (GX _ hv0); rintro e w1 ⟨rfl, b1⟩)
    have b1' := Ext.trans' (bel1' (w.alloc (box4 k n s u 38)) (box4 k' n' s' u' 38)) b1
    obtain ⟨d0, d1, d2, d3⟩ := box_cells (w.alloc (box4 k n s u 38)) 38 _ _ _ _ b1
    obtain ⟨c0, c1, c2, c3⟩ := box_cells w 38 _ _ _ _ b1'
    simp only [World.size_alloc] at d0 d1 d2 d3
    (go_wp2_with fail; go_fit (GY _ (TmV.ext b1 _ _ hv0')); rintro e w2 ⟨rfl, b2⟩)
    have B2 := Lib.hid (Ext.trans' HWW.out (Ext.trans' b1 b2))
    clear b1 b2 b1'
    go_wp2
    go_ret2
    exact ⟨rfl, B2.out⟩
  rw [gy] at GY
  rw [test_ok (by rw [gx, gy]; rfl)] at hR
  obtain ⟨q, hq⟩ : ∃ q, cmpT x y = q := ⟨_, rfl⟩
  rw [hq] at C hR
  clear gx gy hq
  have HR := Lib.hid hR
  clear hR
  go_enter Try.func19, Try.ntmps19
  (go_wp2_with fail; go_fit (GX _ hv0); rintro e w1 ⟨rfl, b1⟩)
  have b1' := Ext.trans' (bel1' (w.alloc (box4 k n s u 38)) (box4 k' n' s' u' 38)) b1
  obtain ⟨d0, d1, d2, d3⟩ := box_cells (w.alloc (box4 k n s u 38)) 38 _ _ _ _ b1
  obtain ⟨c0, c1, c2, c3⟩ := box_cells w 38 _ _ _ _ b1'
  simp only [World.size_alloc] at d0 d1 d2 d3
  (go_wp2_with fail; go_fit (GY _ (TmV.ext b1 _ _ hv0')); rintro e w2 ⟨rfl, b2⟩)
  have b3 := Ext.trans' b1 b2
  have b3' := Ext.trans' (bel1' (w.alloc (box4 k n s u 38)) (box4 k' n' s' u' 38)) b3
  obtain ⟨d0, d1, d2, d3⟩ := box_cells (w.alloc (box4 k n s u 38)) 38 _ _ _ _ b3
  obtain ⟨c0, c1, c2, c3⟩ := box_cells w 38 _ _ _ _ b3'
  simp only [World.size_alloc] at d0 d1 d2 d3
  (go_wp2_with fail; go_fit (C _ (TmV.ext b3 _ _ hv0) (TmV.ext b3 _ _ hv0')); rintro e w4 ⟨rfl, b4⟩)
  have B2 := Lib.hid (Ext.trans' HWW.out (Ext.trans' b3 b4))
  clear b1 b2 b1' b3 b3' b4
  have hr := HR.out
  unfold testB at hr
  by_cases e0 : op.toList = [61, 61]
  · rw [if_pos e0] at hr
    have f0 : (op.toList == [61, 61]) = true := by rw [e0]; rfl
    have HT := Lib.hid hr
    clear hr HR e0
    go_wp2
    go_ret2
    exact ⟨congrArg (fun r : Bool × Int => Ending.returned (.tuple #[.bool r.1, .int .i64 r.2])) HT.out, B2.out⟩
  rw [if_neg e0] at hr
  have f0 : (op.toList == [61, 61]) = false := beq_false_of_ne e0
  by_cases e1 : op.toList = [92, 61, 61]
  · rw [if_pos e1] at hr
    have f1 : (op.toList == [92, 61, 61]) = true := by rw [e1]; rfl
    have HT := Lib.hid hr
    clear hr HR e0 e1
    go_wp2
    go_ret2
    exact ⟨congrArg (fun r : Bool × Int => Ending.returned (.tuple #[.bool r.1, .int .i64 r.2])) HT.out, B2.out⟩
  rw [if_neg e1] at hr
  have f1 : (op.toList == [92, 61, 61]) = false := beq_false_of_ne e1
  by_cases e2 : op.toList = [64, 60]
  · rw [if_pos e2] at hr
    have f2 : (op.toList == [64, 60]) = true := by rw [e2]; rfl
    have HT := Lib.hid hr
    clear hr HR e0 e1 e2
    go_wp2
    go_ret2
    exact ⟨congrArg (fun r : Bool × Int => Ending.returned (.tuple #[.bool r.1, .int .i64 r.2])) HT.out, B2.out⟩
  rw [if_neg e2] at hr
  have f2 : (op.toList == [64, 60]) = false := beq_false_of_ne e2
  by_cases e3 : op.toList = [64, 62]
  · rw [if_pos e3] at hr
    have f3 : (op.toList == [64, 62]) = true := by rw [e3]; rfl
    have HT := Lib.hid hr
    clear hr HR e0 e1 e2 e3
    go_wp2
    go_ret2
    exact ⟨congrArg (fun r : Bool × Int => Ending.returned (.tuple #[.bool r.1, .int .i64 r.2])) HT.out, B2.out⟩
  rw [if_neg e3] at hr
  have f3 : (op.toList == [64, 62]) = false := beq_false_of_ne e3
  by_cases e4 : op.toList = [64, 61, 60]
  · rw [if_pos e4] at hr
    have f4 : (op.toList == [64, 61, 60]) = true := by rw [e4]; rfl
    have HT := Lib.hid hr
    clear hr HR e0 e1 e2 e3 e4
    go_wp2
    go_ret2
    exact ⟨congrArg (fun r : Bool × Int => Ending.returned (.tuple #[.bool r.1, .int .i64 r.2])) HT.out, B2.out⟩
  rw [if_neg e4] at hr
  have f4 : (op.toList == [64, 61, 60]) = false := beq_false_of_ne e4
  by_cases e5 : op.toList = [64, 62, 61]
  · rw [if_pos e5] at hr
    have f5 : (op.toList == [64, 62, 61]) = true := by rw [e5]; rfl
    have HT := Lib.hid hr
    clear hr HR e0 e1 e2 e3 e4 e5
    go_wp2
    go_ret2
    exact ⟨congrArg (fun r : Bool × Int => Ending.returned (.tuple #[.bool r.1, .int .i64 r.2])) HT.out, B2.out⟩
  rw [if_neg e5] at hr
  have f5 : (op.toList == [64, 62, 61]) = false := beq_false_of_ne e5
  have HT := Lib.hid hr
  clear hr HR e0 e1 e2 e3 e4 e5
  go_wp2
  go_ret2
  exact ⟨congrArg (fun r : Bool × Int => Ending.returned (.tuple #[.bool r.1, .int .i64 r.2])) HT.out, B2.out⟩
end Go.Proofs.Ytnnadmabgaopdaa
