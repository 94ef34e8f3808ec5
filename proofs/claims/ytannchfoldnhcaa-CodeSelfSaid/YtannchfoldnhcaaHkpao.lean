import Derived.Test.YtannchfoldnhcaaHkpan
import Derived.Test.YtannchfoldnhcaaHkpam
import Derived.Test.YtannchfoldnhcaaHkpah
import Derived.Test.YtannchfoldnhcaaHkpac
import Derived.Laws.IdiomCopy
set_option linter.unusedVariables false
set_option linter.unusedSimpArgs false
/- Package code: Good. -/
namespace Go.Proofs.Ytannchfoldnhcaa
open Go.RowKit
set_option linter.unusedVariables false

/-- A code in memory. -/
def CodeV (w : World) (c : CodeM) (v : Value) : Prop := ∃ a m k, v = .agg #[.int .i64 c.ar, .int .i64 c.sl, .int .i64 c.rg, .slice a m k] ∧ I64 c.ar ∧ I64 c.sl ∧ I64 c.rg ∧ Elems 6 insCells w (.slice a m k) c.l ∧ ∀ x ∈ c.l, InsIn x
theorem CodeV.ext {w w' : World} {c : CodeM} {v : Value} (h : CodeV w c v) (hb : Below w.heap.size w w') : CodeV w' c v := by
  obtain ⟨a, m, k, h1, h2, h3, h4, h5, h6⟩ := h
  exact ⟨a, m, k, h1, h2, h3, h4, h5.ext hb, h6⟩
theorem ins_get {w : World} {a : Option Addr} {m k : Nat} {l : List InsM} (h : Elems 6 insCells w (.slice a m k) l) {i : Nat} {x : InsM} (hx : l[i]? = some x) : ∃ b off, a = some ⟨b, off, none⟩ ∧ b < w.heap.size ∧
    w.cell? ⟨b, off + i * 6, none⟩ = some (.string x.op) ∧ w.cell? ⟨b, off + i * 6 + 1, none⟩ = some (.int .i64 x.a) ∧ w.cell? ⟨b, off + i * 6 + 2, none⟩ = some (.int .i64 x.b) ∧ w.cell? ⟨b, off + i * 6 + 3, none⟩ = some (.int .i64 x.c) ∧ w.cell? ⟨b, off + i * 6 + 4, none⟩ = some (.int .i64 x.n) ∧ w.cell? ⟨b, off + i * 6 + 5, none⟩ = some (.string x.s) := by
  obtain ⟨a', c', e, h1, h2, h3⟩ := h
  cases e
  rcases h3 with rfl | ⟨b, off, rfl, hb, hc⟩
  · simp at hx
  · have g := fun j u hj => by have := hc i x hx j u hj; rw [← Nat.add_assoc] at this; exact this
    exact ⟨b, off, rfl, hb, g 0 _ rfl, g 1 _ rfl, g 2 _ rfl, g 3 _ rfl, g 4 _ rfl, g 5 _ rfl⟩
theorem ins_len {w : World} {a : Option Addr} {m k : Nat} {l : List InsM} (h : Elems 6 insCells w (.slice a m k) l) : m = l.length ∧ m ≤ k ∧ k ≤ maxLen := by
  obtain ⟨a', c', e, h1, h2, h3⟩ := h
  cases e
  exact ⟨rfl, h1, h2⟩
theorem infoBoolC : (Try.prog.info? 4).map (fun i => (i.zero, i.size, i.bytes)) = some (some (.bool false), 1, 1) := by kernel_rfl
theorem make_bools (m : Nat) (hm : m ≤ 100000) (w : World) : (Instr.makeSlice 60 (.int .i64 m) (.int .i64 m)).run Try.prog w = .ok (.slice (some ⟨w.heap.size, 0, none⟩) m m) (w.alloc (.cells (madeCells #[.bool false] m) 4)) := by
  obtain ⟨i0, hi0, hz0, hs0, hb0⟩ := info_parts infoBoolC
  have h := run_makeSlice (P := Try.prog) w 60 4 i0 _ Try.underlying60 hi0 hz0 .i64 .i64 m m (by omega) (by omega) (by rw [hs0]; omega) (by rw [hb0]; omega) (by omega)
  rw [hs0] at h
  simp only [Int.toNat_natCast, Nat.mul_one] at h
  exact h
theorem bool_cell (w : World) (m j : Nat) (hj : j < m) : (w.alloc (.cells (madeCells #[.bool false] m) 4)).cell? ⟨w.heap.size, j, none⟩ = some (.bool false) := by
  rw [World.cell?_alloc_at _ _ _ _ rfl]
  unfold madeCells
  rw [Array.getElem?_map, Array.getElem?_range, if_pos hj]
  simp [Nat.mod_one]
theorem CkS.start {w4 : World} {kb rb S A0 : Nat} (X : Box w4 kb [.int .i64 0, .int .i64 0, .slice none 0 0]) (hr : ∀ j, j < S → w4.cell? ⟨rb, j, none⟩ = some (.bool false)) (hf : ∀ j, w4.frozen? ⟨rb, j, none⟩ = false) (hne : kb ≠ rb) (hlt : rb < w4.heap.size) (hS : S ≤ 2000) (hA : A0 ≤ 100000) :
    CkS (((w4.setCell ⟨kb, 0, none⟩ (.int .i64 A0)).setCell ⟨kb, 1, none⟩ (.int .i64 0)).setCell ⟨kb, 2, none⟩ (.slice (some ⟨rb, 0, none⟩) S S)) kb rb S A0 [] := by
  have X5 := ((X.set (k := 0) (u := .int .i64 A0) (by simp)).set (k := 1) (u := .int .i64 0) (by simp)).set (k := 2) (u := .slice (some ⟨rb, 0, none⟩) S S) (by simp)
  refine ⟨X5, fun j hj => ?_, fun j => by rw [World.frozen?_setCell, World.frozen?_setCell, World.frozen?_setCell]; exact hf j, hne, (by have := hlt; simp only [World.setCell, Array.size_modify]; exact this), fun v hv => (by cases hv), hS, hA, (by simp)⟩
  rw [far_cell (Ne.symm hne), far_cell (Ne.symm hne), far_cell (Ne.symm hne)]
  exact hr j hj
theorem bel_set6 {w w4 : World} (h : Below w.heap.size w w4) {b : Nat} (hb : w.heap.size ≤ b) (u0 u1 u2 u3 u4 u5 : Value) : Below w.heap.size w ((((((w4.setCell ⟨b, 0, none⟩ u0).setCell ⟨b, 1, none⟩ u1).setCell ⟨b, 2, none⟩ u2).setCell ⟨b, 3, none⟩ u3).setCell ⟨b, 4, none⟩ u4).setCell ⟨b, 5, none⟩ u5) :=
  h.trans (((((((touch_one w4 b 0 u0).trans (touch_one _ b 1 u1) (fun k hk => Or.inl hk)).trans (touch_one _ b 2 u2) (fun k hk => Or.inl hk)).trans (touch_one _ b 3 u3) (fun k hk => Or.inl hk)).trans (touch_one _ b 4 u4) (fun k hk => Or.inl hk)).trans (touch_one _ b 5 u5) (fun k hk => Or.inl hk)).below h.size (fun k hk => by simp at hk; omega))
theorem goK_next {sl : Int} {l : List InsM} {i next : Nat} {seen : List Int} {x : InsM} (hx : l[i]? = some x) (hok : (x.a == (i : Int) && partK sl next seen x) = true) : goK sl (l.drop i) i next seen = goK sl (l.drop (i + 1)) (i + 1) (nextI next x) (metI seen x) := by
  obtain ⟨hlt, rfl⟩ := List.getElem?_eq_some_iff.1 hx
  rw [List.drop_eq_getElem_cons hlt, goK, if_pos hok]
theorem goK_stop {sl : Int} {l : List InsM} {i next : Nat} {seen : List Int} {x : InsM} (hx : l[i]? = some x) (hok : ¬ (x.a == (i : Int) && partK sl next seen x) = true) : goK sl (l.drop i) i next seen = none := by
  obtain ⟨hlt, rfl⟩ := List.getElem?_eq_some_iff.1 hx
  rw [List.drop_eq_getElem_cons hlt, goK, if_neg hok]
theorem next_le {sl : Int} {next : Nat} {seen : List Int} {x : InsM} (hok : partK sl next seen x = true) : nextI next x ≤ next + 8 ∧ (metI seen x).length ≤ seen.length + 1 := by
  refine ⟨?_, ?_⟩
  · unfold nextI
    by_cases h5 : x.op = opComp
    · rw [if_pos h5]
      unfold partK partI at hok
      rw [h5, if_neg (show ¬ opComp = opVar by decide), if_neg (show ¬ opComp = opVal by decide), if_neg (show ¬ opComp = opInt by decide), if_neg (show ¬ opComp = opAtom by decide), if_pos rfl] at hok
      simp only [Bool.and_eq_true, decide_eq_true_eq] at hok
      have := hok.2.1.1.1.2
      omega
    · rw [if_neg h5]; omega
  · unfold metI
    split
    · simp
    · omega
/-- What holds as the check goes on. -/
def GdI (w : World) (kb rb : Nat) (c : CodeM) (i : Nat) (wr : World) : Prop :=
  ∃ next seen, CkS wr kb rb c.sl.toNat next seen ∧ Below w.heap.size w wr ∧ (w.heap.size ≤ kb ∧ w.heap.size ≤ rb) ∧ next ≤ 8 + 8 * i ∧ seen.length ≤ i ∧ goK c.sl (c.l.drop i) i next seen = goK c.sl c.l 0 c.ar.toNat []
def goodE (c : CodeM) : Bool := match goK c.sl c.l 0 c.ar.toNat [] with
  | some (next, seen) => ((next : Nat) : Int) == c.rg && ((seen.length : Nat) : Int) == c.sl
  | none => false
set_option maxHeartbeats 4000000 in
set_option maxRecDepth 100000 in
theorem cgood_at {w : World} {c : CodeM} {v : Value} (h : CodeV w c v) : Calls Try.prog 14 #[v] w fun e w' => e = .returned (.bool (goodK c)) ∧ Below w.heap.size w w' := by
  obtain ⟨a, m, k, rfl, i1, i2, i3, hel, hins⟩ := h
  obtain ⟨ar, sl, rg, l⟩ := c
  replace hel : Elems 6 insCells w (.slice a m k) l := hel
  obtain ⟨hm, hmk, hkm⟩ := ins_len hel
  unfold maxLen at hkm
  obtain ⟨w1, e1, B1, z1, X1⟩ := box_new w #[.int .i64 ar, .int .i64 sl, .int .i64 rg, .slice a m k] 25
  obtain ⟨x0, x1, x2, x3, _⟩ := X1.four
  have HB := Lib.hid B1
  have HE := Lib.hid e1
  have HX1 := Lib.hid X1
  have HZ1 := Lib.hid z1
  have HIN := Lib.hid hins
  have HEL := Lib.hid hel
  have HML := Lib.hid hm
  have hG : goodK ⟨ar, sl, rg, l⟩ = (decide (0 ≤ ar) && decide (ar ≤ 8) && rg == (m : Int) && decide (rg ≤ 2000) && decide (0 ≤ sl) && decide (sl ≤ rg) && goodE ⟨ar, sl, rg, l⟩) := by
    rw [hm]
    rfl
  have HG := Lib.hid hG
  clear hG e1 B1 z1 X1 hins hel hm
  replace i1 : I64 ar := i1
  replace i2 : I64 sl := i2
  replace i3 : I64 rg := i3
  unfold I64 at i1 i2 i3
  by_cases g0 : 0 ≤ ar
  rotate_left
  · have hr : goodK ⟨ar, sl, rg, l⟩ = false := by rw [HG.out]; simp [g0]
    rw [hr]
    clear hr
    go_enter Try.func14, Try.ntmps14
    go_upto_region 1 with fail
    (try rw [HE.out])
    go_wp2
    go_ret
    exact ⟨rfl, HB.out⟩
  by_cases g1 : ar ≤ 8
  rotate_left
  · have hr : goodK ⟨ar, sl, rg, l⟩ = false := by rw [HG.out]; simp [g1]
    rw [hr]
    clear hr
    go_enter Try.func14, Try.ntmps14
    go_upto_region 1 with fail
    (try rw [HE.out])
    go_wp2
    go_ret
    exact ⟨rfl, HB.out⟩
  by_cases g2 : rg = (m : Int)
  rotate_left
  · have hr : goodK ⟨ar, sl, rg, l⟩ = false := by rw [HG.out]; simp [g2]
    have g2' : (rg == (m : Int)) = false := by simpa using g2
    rw [hr]
    clear hr
    go_enter Try.func14, Try.ntmps14
    go_upto_region 1 with fail
    (try rw [HE.out])
    go_wp2
    go_ret
    exact ⟨rfl, HB.out⟩
  subst g2
  by_cases g3 : (m : Int) ≤ 2000
  rotate_left
  · have hr : goodK ⟨ar, sl, (m : Int), l⟩ = false := by rw [HG.out]; simp only [beq_self_eq_true, Bool.and_true, Bool.true_and, Bool.and_false, Bool.false_and, decide_eq_true g0, decide_eq_true g1, decide_eq_false g3]; done -- [g3]
    rw [hr]
    clear hr
    go_enter Try.func14, Try.ntmps14
    go_upto_region 1 with fail
    (try rw [HE.out])
    go_wp2
    go_ret
    exact ⟨rfl, HB.out⟩
  by_cases g4 : 0 ≤ sl
  rotate_left
  · have hr : goodK ⟨ar, sl, (m : Int), l⟩ = false := by rw [HG.out]; simp only [beq_self_eq_true, Bool.and_true, Bool.true_and, Bool.and_false, Bool.false_and, decide_eq_true g0, decide_eq_true g1, decide_eq_false g4]; done -- [g4]
    rw [hr]
    clear hr
    go_enter Try.func14, Try.ntmps14
    go_upto_region 1 with fail
    (try rw [HE.out])
    go_wp2
    go_ret
    exact ⟨rfl, HB.out⟩
  by_cases g5 : sl ≤ (m : Int)
  rotate_left
  · have hr : goodK ⟨ar, sl, (m : Int), l⟩ = false := by rw [HG.out]; simp only [beq_self_eq_true, Bool.and_true, Bool.true_and, Bool.and_false, Bool.false_and, decide_eq_true g0, decide_eq_true g1, decide_eq_false g5]; done -- [g5]
    rw [hr]
    clear hr
    go_enter Try.func14, Try.ntmps14
    go_upto_region 1 with fail
    (try rw [HE.out])
    go_wp2
    go_ret
    exact ⟨rfl, HB.out⟩
  have hr : goodK ⟨ar, sl, (m : Int), l⟩ = goodE ⟨ar, sl, (m : Int), l⟩ := by rw [HG.out]; simp only [beq_self_eq_true, Bool.and_true, Bool.true_and, decide_eq_true g0, decide_eq_true g1, decide_eq_true g3, decide_eq_true g4, decide_eq_true g5]
  rw [hr]
  clear hr HG
  obtain ⟨S, rfl⟩ : ∃ S : Nat, sl = (S : Int) := ⟨sl.toNat, by omega⟩
  obtain ⟨A0, rfl⟩ : ∃ A0 : Nat, ar = (A0 : Int) := ⟨ar.toNat, by omega⟩
  have hmS : S ≤ m := by omega
  have hm2 : m ≤ 2000 := by omega
  have hA0 : A0 ≤ 8 := by omega
  clear g0 g1 g3 g4 g5 i1 i2 i3
  have q0 : decide ((A0 : Int) < 0) = false := by simp
  have q1 : decide ((8 : Int) < A0) = false := by simp; omega
  have q3 : decide ((2000 : Int) < m) = false := by simp; omega
  have q4 : decide ((S : Int) < 0) = false := by simp
  have q5 : decide (m < S) = false := by simp; omega
  have HMK := make_bools S (by omega)
  obtain ⟨R, hR⟩ : ∃ R, goodE ⟨(A0 : Int), (S : Int), (m : Int), l⟩ = R := ⟨_, rfl⟩
  have HR := Lib.hid hR
  rw [hR]
  clear hR
  go_enter Try.func14, Try.ntmps14
  go_upto_region 1 with fail
  (try rw [HE.out])
  go_upto_region 3 with fail
  go_cut [3] from 39 to 44 (fun s3 wx => Hid (∃ kb rb, s3 = .pointer (some ⟨kb, 0, none⟩) ∧ CkS wx kb rb S A0 [] ∧ Below w1.heap.size w1 wx ∧ w1.heap.size ≤ kb ∧ w1.heap.size ≤ rb))
  case first =>
    refine wp_region_held_drew (S := fun wq => wq.cell? ⟨w.heap.size, 0, none⟩ = some (.int .i64 A0) ∧ wq.cell? ⟨w.heap.size, 1, none⟩ = some (.int .i64 S)) (by kernel_rfl) ⟨x0, x1⟩ (fun hHeld => ?_)
    first | (refine held_t (i := 0) hHeld ?_; apply Exists.intro; refine ⟨fun wq hq => ?_, ?_⟩; (focus ((try dsimp only at hq); go_simp; (first | done | with_reducible rfl | fail)))) | refine held_s (i := 0) hHeld ?_ | fail
    first | (refine held_t (i := 1) hHeld ?_; apply Exists.intro; refine ⟨fun wq hq => ?_, ?_⟩; (focus ((try dsimp only at hq); go_simp; (first | done | with_reducible rfl | fail)))) | refine held_s (i := 1) hHeld ?_ | fail
    first | (refine held_t (i := 2) hHeld ?_; apply Exists.intro; refine ⟨fun wq hq => ?_, ?_⟩; (focus ((try dsimp only at hq); go_simp; (first | done | with_reducible rfl | fail)))) | refine held_s (i := 2) hHeld ?_ | fail
    first | (refine held_t (i := 3) hHeld ?_; apply Exists.intro; refine ⟨fun wq hq => ?_, ?_⟩; (focus ((try dsimp only at hq); go_simp; (first | done | with_reducible rfl | fail)))) | refine held_s (i := 3) hHeld ?_ | fail
    try simp only [Act.put, List.setIfInBounds_toArray, List.set_cons_zero, List.set_cons_succ]
    obtain ⟨wd, hwd⟩ : ∃ wd, w1.drew = wd := ⟨_, rfl⟩
    have hbd : Below w1.heap.size w1 wd := by rw [← hwd]; exact (Below.refl _ _).drew
    rw [hwd] at hHeld ⊢
    clear hwd
    have hk := HMK wd
    refine wpAnyH_ready (rs := [4, 6]) (by kernel_rfl) (by simp) ?_
    refine AllReadyH.cons (by simp only [List.getElem?_toArray, List.getElem?_cons_zero, List.getElem?_cons_succ]; rfl) (fun K hK => ?_) (AllReadyH.cons (by simp only [List.getElem?_toArray, List.getElem?_cons_zero, List.getElem?_cons_succ]; rfl) (fun K hK => ?_) AllReadyH.nil)
    · go_simp
      skip
      refine hK.out _ _ (⟨cell_later (bel1' _ _) hHeld.1, cell_later (bel1' _ _) hHeld.2⟩) (fun hHeld => ?_)
      clear hK K
      try simp only [Act.put, List.setIfInBounds_toArray, List.set_cons_zero, List.set_cons_succ]
      first | (refine held_t (i := 5) hHeld ?_; apply Exists.intro; refine ⟨fun wq hq => ?_, ?_⟩; (focus ((try dsimp only at hq); go_simp; (first | done | with_reducible rfl | fail)))) | refine held_s (i := 5) hHeld ?_ | fail
      try simp only [Act.put, List.setIfInBounds_toArray, List.set_cons_zero, List.set_cons_succ]
      have hrow := fun j hj => bool_cell wd S j hj
      obtain ⟨w3, e3, b3, z3, X3⟩ := box_new wd (madeCells #[.bool false] S) 4
      rw [e3] at hHeld hrow ⊢
      refine held_c 6 fun K hK => ?_
      go_simp
      skip
      refine hK.out _ _ (⟨cell_later (bel1' _ _) hHeld.1, cell_later (bel1' _ _) hHeld.2⟩) (fun hHeld => ?_)
      clear hK K
      try simp only [Act.put, List.setIfInBounds_toArray, List.set_cons_zero, List.set_cons_succ]
      obtain ⟨w4, e4, b4, z4, X4⟩ := box_new w3 #[.int .i64 0, .int .i64 0, .slice none 0 0] 81
      rw [e4] at hHeld ⊢
      rw [z3] at X4
      have CK := Lib.hid (CkS.start (A0 := A0) X4 (fun j hj => cell_later b4 (hrow j hj)) (fun j => (b4.frozen (p := ⟨wd.heap.size, j, none⟩) X3.lt).trans (X3.fz j)) (by omega) (by omega) (by omega) (by omega))
      have HBD := Lib.hid (Below.set3 (b := wd.heap.size + 1) (Ext.trans' hbd (Ext.trans' b3 b4)) (Nat.le_succ_of_le hbd.size) (.int .i64 A0) (.int .i64 0) (.slice (some ⟨wd.heap.size, 0, none⟩) S S))
      have HFR := Lib.hid (And.intro (Nat.le_succ_of_le hbd.size) hbd.size : w1.heap.size ≤ wd.heap.size + 1 ∧ w1.heap.size ≤ wd.heap.size)
      have hwn : w.heap.size ≠ wd.heap.size + 1 := by have := HZ1.out; have := hbd.size; omega
      obtain ⟨y0, y1, y2, yf⟩ := X4.three
      clear hrow e3 b3 z3 X3 e4 b4 z4 X4
      refine held_c 7 fun K hK => ?_
      go_simp
      skip
      refine hK.out _ _ (⟨(far_cell hwn).trans ((far_cell hwn).trans ((far_cell hwn).trans hHeld.1)), (far_cell hwn).trans ((far_cell hwn).trans ((far_cell hwn).trans hHeld.2))⟩) (fun hHeld => ?_)
      clear hK K
      try simp only [Act.put, List.setIfInBounds_toArray, List.set_cons_zero, List.set_cons_succ]
      refine wpAnyH_done (by kernel_rfl) ?_ _
      clear hHeld y0 y1 y2 yf
      go_wp2
      all_goals go_meet
      exact Lib.hid ⟨_, _, rfl, CK.out, HBD.out, HFR.out⟩
    · go_simp
      skip
      refine hK.out _ _ (⟨cell_later (bel1' _ _) hHeld.1, cell_later (bel1' _ _) hHeld.2⟩) (fun hHeld => ?_)
      clear hK K
      try simp only [Act.put, List.setIfInBounds_toArray, List.set_cons_zero, List.set_cons_succ]
      obtain ⟨w3, e3, b3, z3, X3⟩ := box_new wd #[.int .i64 0, .int .i64 0, .slice none 0 0] 81
      rw [e3] at hHeld ⊢
      have hk := HMK w3
      refine held_c 4 fun K hK => ?_
      go_simp
      skip
      refine hK.out _ _ (⟨cell_later (bel1' _ _) hHeld.1, cell_later (bel1' _ _) hHeld.2⟩) (fun hHeld => ?_)
      clear hK K
      try simp only [Act.put, List.setIfInBounds_toArray, List.set_cons_zero, List.set_cons_succ]
      first | (refine held_t (i := 5) hHeld ?_; apply Exists.intro; refine ⟨fun wq hq => ?_, ?_⟩; (focus ((try dsimp only at hq); go_simp; (first | done | with_reducible rfl | fail)))) | refine held_s (i := 5) hHeld ?_ | fail
      try simp only [Act.put, List.setIfInBounds_toArray, List.set_cons_zero, List.set_cons_succ]
      have hrow := fun j hj => bool_cell w3 S j hj
      obtain ⟨w4, e4, b4, z4, X4⟩ := box_new w3 (madeCells #[.bool false] S) 4
      rw [e4] at hHeld hrow ⊢
      have X3' := X3.ext b4
      have CK := Lib.hid (CkS.start (A0 := A0) X3' hrow X4.fz (by omega) X4.lt (by omega) (by omega))
      have HBD := Lib.hid (Below.set3 (b := wd.heap.size) (Ext.trans' hbd (Ext.trans' b3 b4)) hbd.size (.int .i64 A0) (.int .i64 0) (.slice (some ⟨w3.heap.size, 0, none⟩) S S))
      have HFR := Lib.hid (And.intro hbd.size (Nat.le_trans hbd.size b3.size) : w1.heap.size ≤ wd.heap.size ∧ w1.heap.size ≤ w3.heap.size)
      have hwn : w.heap.size ≠ wd.heap.size := by have := HZ1.out; have := hbd.size; omega
      rw [z3] at CK HBD HFR
      obtain ⟨y0, y1, y2, yf⟩ := X3'.three
      clear hrow e3 b3 z3 X3 e4 b4 z4 X4 X3' hk
      refine held_c 7 fun K hK => ?_
      go_simp
      skip
      refine hK.out _ _ (⟨(far_cell hwn).trans ((far_cell hwn).trans ((far_cell hwn).trans hHeld.1)), (far_cell hwn).trans ((far_cell hwn).trans ((far_cell hwn).trans hHeld.2))⟩) (fun hHeld => ?_)
      clear hK K
      try simp only [Act.put, List.setIfInBounds_toArray, List.set_cons_zero, List.set_cons_succ]
      refine wpAnyH_done (by kernel_rfl) ?_ _
      clear hHeld y0 y1 y2 yf
      go_wp2
      all_goals go_meet
      exact Lib.hid ⟨_, _, rfl, CK.out, HBD.out, HFR.out⟩
  case rest =>
    obtain ⟨kb, rb, rfl, hcc⟩ := hcut.out
    replace hcc := Lib.hid hcc
    clear hcut
    have HI0 := Lib.hid (show GdI w1 kb rb ⟨(A0 : Int), (S : Int), (m : Int), l⟩ 0 wc from ⟨A0, [], hcc.out.1, hcc.out.2.1, hcc.out.2.2, by omega, by simp, by rw [List.drop_zero]; rfl⟩)
    have HC := Lib.hid (fun (wq : World) (hb : Below w1.heap.size w1 wq) => (show wq.cell? ⟨w.heap.size, 0, none⟩ = some (.int .i64 A0) ∧ wq.cell? ⟨w.heap.size, 1, none⟩ = some (.int .i64 S) ∧ wq.cell? ⟨w.heap.size, 2, none⟩ = some (.int .i64 m) ∧ wq.cell? ⟨w.heap.size, 3, none⟩ = some (.slice a m k) from by
      obtain ⟨p0, p1, p2, p3, _⟩ := (HX1.out.ext hb).four
      exact ⟨p0, p1, p2, p3⟩))
    have hbc := hcc.out.2.1
    obtain ⟨x0, x1, x2, x3⟩ := HC.out _ hbc
    clear hcc hbc
    go_wp2_with fail
    go_loopw [48] (fun v wr => ∃ i : Nat, i ≤ m ∧ v = .int .i64 i ∧ Hid (GdI w1 kb rb ⟨(A0 : Int), (S : Int), (m : Int), l⟩ i wr)) (fun v _ => m - (intOf v).toNat)
    case atStart => exact ⟨0, Nat.zero_le _, rfl, HI0⟩
    case round =>
      obtain ⟨i, hi, rfl, HI⟩ := hrel
      obtain ⟨next, seen, hck, hb, hfr, hn, hs, hgo⟩ := HI.out
      replace hgo : goK (S : Int) (l.drop i) i next seen = goK (S : Int) l 0 A0 [] := hgo
      replace hck : CkS wr kb rb S next seen := hck
      obtain ⟨x0, x1, x2, x3⟩ := HC.out _ hb
      by_cases hil : i < m
      · obtain ⟨x, hx⟩ : ∃ x, l[i]? = some x := ⟨_, List.getElem?_eq_getElem (by rw [← HML.out]; exact hil)⟩
        obtain ⟨b, off, rfl, hbb, d0, d1, d2, d3, d4, d5⟩ := ins_get (HEL.out.ext (Ext.trans' HB.out hb)) hx
        have hin := HIN.out x (List.mem_of_getElem? hx)
        obtain ⟨w5, e5, b5, z5, X5⟩ := box_new wr #[.string x.op, .int .i64 x.a, .int .i64 x.b, .int .i64 x.c, .int .i64 x.n, .string x.s] 36
        obtain ⟨w6, e6, b6, z6, X6⟩ := box_new wr #[.string ⟨#[]⟩, .int .i64 0, .int .i64 0, .int .i64 0, .int .i64 0, .string ⟨#[]⟩] 36
        clear e5 b5 z5 X5 w5
        have y0 := X6.cells 0 _ rfl
        have y1 := X6.cells 1 _ rfl
        have y2 := X6.cells 2 _ rfl
        have y3 := X6.cells 3 _ rfl
        have y4 := X6.cells 4 _ rfl
        have y5 := X6.cells 5 _ rfl
        have yf := X6.fz
        go_upto_region 6 with fail
        (try rw [e6])
        go_upto_region 7 with fail
        have X7 := (((((X6.set (k := 0) (u := .string x.op) (by simp)).set (k := 1) (u := .int .i64 x.a) (by simp)).set (k := 2) (u := .int .i64 x.b) (by simp)).set (k := 3) (u := .int .i64 x.c) (by simp)).set (k := 4) (u := .int .i64 x.n) (by simp)).set (k := 5) (u := .string x.s) (by simp)
        have B7 := bel_set6 (b := wr.heap.size) b6 (Nat.le_refl _) (.string x.op) (.int .i64 x.a) (.int .i64 x.b) (.int .i64 x.c) (.int .i64 x.n) (.string x.s)
        obtain ⟨w7, hw7⟩ : ∃ w7, ((((((w6.setCell ⟨wr.heap.size, 0, none⟩ (.string x.op)).setCell ⟨wr.heap.size, 1, none⟩ (.int .i64 x.a)).setCell ⟨wr.heap.size, 2, none⟩ (.int .i64 x.b)).setCell ⟨wr.heap.size, 3, none⟩ (.int .i64 x.c)).setCell ⟨wr.heap.size, 4, none⟩ (.int .i64 x.n)).setCell ⟨wr.heap.size, 5, none⟩ (.string x.s)) = w7 := ⟨_, rfl⟩
        rw [hw7] at X7 B7 ⊢
        clear hw7 y0 y1 y2 y3 y4 y5 yf X6 b6 z6 e6 w6
        have y0 := X7.cells 0 _ rfl
        have y1 := X7.cells 1 _ rfl
        have y2 := X7.cells 2 _ rfl
        have y3 := X7.cells 3 _ rfl
        have y4 := X7.cells 4 _ rfl
        have y5 := X7.cells 5 _ rfl
        have HB7 := Lib.hid (Ext.trans' hb B7)
        have HCK := Lib.hid (hck.ext B7)
        have HIN1 := Lib.hid hin
        have HX := Lib.hid hx
        have HGO := Lib.hid hgo
        have HFR := Lib.hid hfr
        obtain ⟨r, hr⟩ : ∃ r, partK (S : Int) next seen x = r := ⟨_, rfl⟩
        have HRR := Lib.hid hr
        have C := step_at HCK.out (by omega) (by omega) x hin
        unfold StepP insVal at C
        rw [hr] at C
        clear X7 B7 hck hgo hx hin hfr hb d0 d1 d2 d3 d4 d5 hr HI
        by_cases hai : x.a = (i : Int)
        rotate_left
        · have hne : (x.a == (i : Int)) = false := beq_false_of_ne hai
          have hR : R = false := by
            have h1 := goK_stop HX.out (sl := (S : Int)) (next := next) (seen := seen) (by rw [hne]; simp)
            rw [← HR.out]
            unfold goodE
            show (match goK (S : Int) l 0 ((A0 : Int)).toNat [] with | some (next, seen) => _ | none => false) = false
            rw [Int.toNat_natCast, ← HGO.out, h1]
          subst hR
          go_wp2
          go_ret
          exact ⟨rfl, Ext.trans' HB.out HB7.out⟩
        · have HAI := Lib.hid hai
          rw [hai] at y1 C
          clear hai
          cases r
          · have hR : R = false := by
              have h1 := goK_stop HX.out (sl := (S : Int)) (next := next) (seen := seen) (by rw [HRR.out]; simp)
              rw [← HR.out]
              unfold goodE
              show (match goK (S : Int) l 0 ((A0 : Int)).toNat [] with | some (next, seen) => _ | none => false) = false
              rw [Int.toNat_natCast, ← HGO.out, h1]
            subst hR
            (go_wp2_with fail; go_fit (C); rintro e w8 ⟨rfl, t8, k8⟩)
            have HT8 := Lib.hid t8
            clear t8 k8 C y0 y1 y2 y3 y4 y5
            go_wp2
            go_ret
            exact ⟨rfl, Ext.trans' HB.out (HB7.out.trans (HT8.out.below HB7.out.size (fun k hk => by have := HFR.out; simp at hk; omega)))⟩
          · (go_wp2_with fail; go_fit (C); rintro e w8 ⟨rfl, t8, k8⟩)
            have HT8 := Lib.hid (And.intro t8 k8)
            clear t8 k8 C y0 y1 y2 y3 y4 y5
            go_wp2
            go_roundw
            case rel =>
              have hnl := next_le HRR.out
              refine ⟨i + 1, by omega, by go_num, Lib.hid ⟨nextI next x, metI seen x, HT8.out.2 trivial, HB7.out.trans (HT8.out.1.below HB7.out.size (fun k hk => by have := HFR.out; simp at hk; omega)), HFR.out, by omega, by omega, ?_⟩⟩
              have h1 := goK_next HX.out (sl := (S : Int)) (next := next) (seen := seen) (by rw [HRR.out, HAI.out]; simp)
              show goK (S : Int) (l.drop (i + 1)) (i + 1) _ _ = goK (S : Int) l 0 ((A0 : Int)).toNat []
              rw [← h1, HGO.out, Int.toNat_natCast]
            case measure => simp [intOf]; omega
      · have him : i = m := by omega
        obtain ⟨c0, c1, c2, _⟩ := hck.box.three
        have hR : R = (((next : Nat) : Int) == (m : Int) && ((seen.length : Nat) : Int) == (S : Int)) := by
          rw [← HR.out]
          unfold goodE
          show (match goK (S : Int) l 0 ((A0 : Int)).toNat [] with | some (next, seen) => _ | none => false) = _
          rw [Int.toNat_natCast, ← hgo, List.drop_eq_nil_of_le (by rw [← HML.out]; omega), goK]
        have HRR := Lib.hid hR
        have HB9 := Lib.hid (Ext.trans' HB.out hb)
        subst him
        obtain ⟨n9, hn9⟩ : ∃ n9 : Nat, seen.length = n9 := ⟨_, rfl⟩
        rw [hn9] at c1 HRR
        clear hck hb hfr hgo hs hR hn9 HI
        by_cases k1 : ((next : Nat) : Int) = (i : Int)
        · by_cases k2 : ((n9 : Nat) : Int) = (S : Int)
          · have hR : R = true := by rw [HRR.out, k1, k2]; simp
            subst hR
            rw [k1] at c0
            rw [k2] at c1
            clear k1 k2
            go_wp2
            go_ret
            exact ⟨rfl, HB9.out⟩
          · have k2' : (((n9 : Nat) : Int) == (S : Int)) = false := beq_false_of_ne k2
            have hR : R = false := by rw [HRR.out, k2', Bool.and_false]
            subst hR
            rw [k1] at c0
            clear k1
            go_wp2
            go_ret
            exact ⟨rfl, HB9.out⟩
        · have k1' : (((next : Nat) : Int) == (i : Int)) = false := beq_false_of_ne k1
          have hR : R = false := by rw [HRR.out, k1', Bool.false_and]
          subst hR
          go_wp2
          go_ret
          exact ⟨rfl, HB9.out⟩
end Go.Proofs.Ytannchfoldnhcaa
/- Package code: Back's registers; made. -/
namespace Go.Proofs.Ytannchfoldnhcaa
open Go.RowKit
set_option linter.unusedVariables false

/-- What the check has told of a step with Args. -/
theorem goK_facts {sl : Int} : ∀ (l : List InsM) (i next : Nat) (seen : List Int) (r : Nat × List Int), goK sl l i next seen = some r → next ≤ r.1 ∧ ∀ (j : Nat) (x : InsM), l[j]? = some x →
    (x.op = opVar ∨ x.op = opVal ∨ x.op = opInt ∨ x.op = opAtom ∨ x.op = opComp) ∧ (x.op = opComp → ∃ C B : Nat, x.c = (C : Int) ∧ x.b = (B : Int) ∧ i + j + 1 ≤ C ∧ C + B ≤ r.1 ∧ 1 ≤ B ∧ B ≤ 8)
  | [], i, next, seen, r, h => by
    rw [goK] at h
    cases h
    exact ⟨Nat.le_refl _, fun j x hx => by simp at hx⟩
  | y :: l, i, next, seen, r, h => by
    rw [goK] at h
    split at h
    · rename_i hok
      obtain ⟨ih1, ih2⟩ := goK_facts l (i + 1) _ _ r h
      have hmono : next ≤ nextI next y := by unfold nextI; split <;> omega
      refine ⟨Nat.le_trans hmono ih1, fun j x hx => ?_⟩
      cases j with
      | zero =>
        simp at hx
        subst hx
        rw [Bool.and_eq_true] at hok
        obtain ⟨ha, hp⟩ := hok
        have ha : y.a = (i : Int) := by simpa using ha
        unfold partK partI at hp
        rw [Bool.and_eq_true, decide_eq_true_eq] at hp
        obtain ⟨hlt, hp⟩ := hp
        by_cases h1 : y.op = opVar
        · exact ⟨Or.inl h1, fun e => by rw [h1] at e; exact absurd e (by decide)⟩
        by_cases h2 : y.op = opVal
        · exact ⟨Or.inr (Or.inl h2), fun e => by rw [h2] at e; exact absurd e (by decide)⟩
        by_cases h3 : y.op = opInt
        · exact ⟨Or.inr (Or.inr (Or.inl h3)), fun e => by rw [h3] at e; exact absurd e (by decide)⟩
        by_cases h4 : y.op = opAtom
        · exact ⟨Or.inr (Or.inr (Or.inr (Or.inl h4))), fun e => by rw [h4] at e; exact absurd e (by decide)⟩
        by_cases h5 : y.op = opComp
        · refine ⟨Or.inr (Or.inr (Or.inr (Or.inr h5))), fun _ => ?_⟩
          rw [if_neg h1, if_neg h2, if_neg h3, if_neg h4, if_pos h5] at hp
          simp only [Bool.and_eq_true, decide_eq_true_eq, beq_iff_eq] at hp
          obtain ⟨⟨⟨⟨p1, p2⟩, p3⟩, p4⟩, p5⟩ := hp
          have hn : nextI next y = next + y.b.toNat := by unfold nextI; rw [if_pos h5]
          rw [hn] at ih1
          exact ⟨next, y.b.toNat, p3, by omega, by omega, ih1, by omega, by omega⟩
        · rw [if_neg h1, if_neg h2, if_neg h3, if_neg h4, if_neg h5] at hp
          cases hp
      | succ j =>
        obtain ⟨k1, k2⟩ := ih2 j x (by simpa using hx)
        refine ⟨k1, fun e => ?_⟩
        obtain ⟨C, B, q1, q2, q3, q4⟩ := k2 e
        exact ⟨C, B, q1, q2, by omega, q4⟩
    · cases h
/-- What a good code is. -/
theorem goodK_facts {c : CodeM} (h : goodK c = true) : ∃ A S n : Nat, c.ar = (A : Int) ∧ c.sl = (S : Int) ∧ c.rg = (n : Int) ∧ c.l.length = n ∧ A ≤ 8 ∧ A ≤ n ∧ S ≤ n ∧ n ≤ 2000 ∧ ∀ (j : Nat) (x : InsM), c.l[j]? = some x →
    (x.op = opVar ∨ x.op = opVal ∨ x.op = opInt ∨ x.op = opAtom ∨ x.op = opComp) ∧ (x.op = opComp → ∃ C B : Nat, x.c = (C : Int) ∧ x.b = (B : Int) ∧ j + 1 ≤ C ∧ C + B ≤ n ∧ 1 ≤ B ∧ B ≤ 8) := by
  unfold goodK at h
  simp only [Bool.and_eq_true, decide_eq_true_eq, beq_iff_eq] at h
  obtain ⟨⟨⟨⟨⟨⟨h1, h2⟩, h3⟩, h4⟩, h5⟩, h6⟩, h7⟩ := h
  cases hr : goK c.sl c.l 0 c.ar.toNat [] with
  | none => rw [hr] at h7; cases h7
  | some r =>
    obtain ⟨rn, rs⟩ := r
    rw [hr] at h7
    simp only [Bool.and_eq_true, beq_iff_eq] at h7
    obtain ⟨f1, f2⟩ := goK_facts _ _ _ _ _ hr
    have f1' : c.ar.toNat ≤ rn := f1
    refine ⟨c.ar.toNat, c.sl.toNat, c.l.length, by omega, by omega, by omega, rfl, by omega, by omega, by omega, by omega, fun j x hx => ?_⟩
    obtain ⟨g1, g2⟩ := f2 j x hx
    refine ⟨g1, fun e => ?_⟩
    obtain ⟨C, B, q1, q2, q3, q4, q5⟩ := g2 e
    have q4' : C + B ≤ rn := q4
    exact ⟨C, B, q1, q2, by omega, by omega, q5⟩
/-- Args out of whatever row. -/
theorem comp_src {D : Nat → Bool} {w : World} {ao : Option Addr} {m c : Nat} (ps : List TmP) (s : ByteArray) (hs : s.size ≤ BIG) (hD : Old D w) (hpl : ps.length = m) (hbig : m * 56 ≤ BIG) (hpa : ∀ p ∈ ps, TmV (hide D w) p.1 (pVal p))
    (hsrc : m = 0 ∨ ∃ ad, ao = some ad ∧ ∀ j u, (ps.flatMap pCells)[j]? = some u → w.cell? (ad.add j) = some u) :
    Calls Try.prog 12 #[.string s, .slice ao m c] w fun e w' => ∃ v, e = .returned v ∧ TmV (hide D w') (nameT s (ps.map (·.1))) v ∧ Below w.heap.size w w' := by
  refine (comp_ps (c := c) ps s hpl hbig (pCells_one ps hpa) hsrc).mono ?_
  rintro e w' ⟨a, c', rfl, hR, hB⟩
  refine ⟨_, rfl, ?_, hB⟩
  have hT := (hR.hide (D := D) (fun k hk _ => hD k (by omega))).terms (fun p hp => TmV.later hB (hpa p hp)) (by rw [hpl]; exact hbig)
  exact tmV_iff.2 ⟨_, rfl, hs, i64_2, i64_0, hT⟩
end Go.Proofs.Ytannchfoldnhcaa
/- Package code: Back. -/
namespace Go.Proofs.Ytannchfoldnhcaa
open Go.RowKit
set_option linter.unusedVariables false

theorem infoTermB : (Try.prog.info? 31).map (fun i => (i.zero, i.size, i.bytes)) = some (some (.agg #[.int .i64 0, .int .i64 0, .string ⟨#[]⟩, .slice none 0 0]), 4, 56) := by kernel_rfl
theorem make_regs (m : Nat) (hm : m ≤ 100000) (w : World) : (Instr.makeSlice 29 (.int .i64 m) (.int .i64 m)).run Try.prog w = .ok (.slice (some ⟨w.heap.size, 0, none⟩) m m) (w.alloc (.cells (madeCells #[.int .i64 0, .int .i64 0, .string ⟨#[]⟩, .slice none 0 0] (m * 4)) 31)) := by
  obtain ⟨i0, hi0, hz0, hs0, hb0⟩ := info_parts infoTermB
  have h := run_makeSlice (P := Try.prog) w 29 31 i0 _ Try.underlying29 hi0 hz0 .i64 .i64 m m (by omega) (by omega) (by rw [hs0]; omega) (by rw [hb0]; omega) (by omega)
  rw [hs0] at h
  simp only [Int.toNat_natCast] at h
  exact h
end Go.Proofs.Ytannchfoldnhcaa
/- Package code: rows of terms that Match fills; copy of elements of whatever size. -/
namespace Go.Proofs.Ytannchfoldnhcaa
open Go.RowKit
set_option linter.unusedVariables false

section
variable {P : Program}
/-- Copy, of elements of sz cells. -/
theorem run_copy_k (w : World) (dT sT ty elem : TypeId) (sz : Nat) (b o dLen dCap : Nat) (a : Addr) (sLen sCap : Nat) (cs : List Value)
    (hu : P.underlying dT = some (.slice elem)) (hs : (P.info? elem).map (·.size) = some sz) (hn : cs.length = Nat.min sLen dLen * sz)
    (hsrc : ∀ j v, cs[j]? = some v → w.cell? (a.add j) = some v) (hc : ∀ j, j < cs.length → (w.cell? ⟨b, o + j, none⟩).isSome = true) (hf : ∀ j, j < cs.length → w.frozen? ⟨b, o + j, none⟩ = false) (h1 : ∀ v ∈ cs, v.oneCell' = true) :
    (Builtin.copy_ #[dT, sT] ty #[.slice (some ⟨b, o, none⟩) dLen dCap, .slice (some a) sLen sCap]).run P w = .ok (goInt (Nat.min sLen dLen)) (w.setCells b o cs) := by
  have hl := run_loadCells_list (P := P) w a cs hsrc
  have hst := run_storeCells_cells (P := P) b o cs 0 w (by simpa using hc) (by simpa using hf) h1
  cases hq : P.info? elem with
  | none => simp [hq] at hs
  | some i =>
    have hi : i.size = sz := by simpa [hq] using hs
    simp [Builtin.copy_, run_underlying hu, Builtin.lenOf, Builtin.firstCells, sizeOf, typeInfo, hq, hi, ← hn, hl, hst]
theorem run_copy_zero (w : World) (dT sT ty elem : TypeId) (sz : Nat) (d a : Option Addr) (dLen dCap sCap : Nat) (hu : P.underlying dT = some (.slice elem)) (hs : (P.info? elem).map (·.size) = some sz) :
    (Builtin.copy_ #[dT, sT] ty #[.slice d dLen dCap, .slice a 0 sCap]).run P w = .ok (goInt 0) w := by
  have hl : ∀ (x : Addr), (loadCells x 0).run P w = .ok #[] w := fun x => by simpa using run_loadCells_list (P := P) w x [] (by simp)
  cases hq : P.info? elem with
  | none => simp [hq] at hs
  | some i =>
    have hi : i.size = sz := by simpa [hq] using hs
    cases d <;> cases a <;> simp [Builtin.copy_, run_underlying hu, Builtin.lenOf, Builtin.firstCells, sizeOf, typeInfo, hq, hi, storeCells, hl]
end
/-- A row of n terms in a block of its own; some are not yet there. -/
structure TRow (V w : World) (b n : Nat) (f : Nat → Option Tm) : Prop where
  held : ∀ i x, i < n → f i = some x → ∃ u, TmV V x (pVal (x, u)) ∧ ∀ j c, (pCells (x, u))[j]? = some c → w.cell? ⟨b, i * 4 + j, none⟩ = some c
  free : ∀ i, i < n → f i = none → ∀ j c, (pCells (varV 0, Value.slice none 0 0))[j]? = some c → w.cell? ⟨b, i * 4 + j, none⟩ = some c
  fz : ∀ j, w.frozen? ⟨b, j, none⟩ = false
  lt : b < w.heap.size
section
variable {V w w' : World} {b n : Nat} {f : Nat → Option Tm}
theorem TRow.cells (h : TRow V w b n f) {i j : Nat} (hi : i < n) (hj : j < 4) : ∃ c, w.cell? ⟨b, i * 4 + j, none⟩ = some c := by
  cases hf : f i with
  | some x =>
    obtain ⟨u, _, hc⟩ := h.held i x hi hf
    obtain ⟨c, e⟩ : ∃ c, (pCells (x, u))[j]? = some c := ⟨_, List.getElem?_eq_getElem (by rw [pCells_len]; exact hj)⟩
    exact ⟨c, hc j c e⟩
  | none =>
    obtain ⟨c, e⟩ : ∃ c, (pCells (varV 0, Value.slice none 0 0))[j]? = some c := ⟨_, List.getElem?_eq_getElem (by rw [pCells_len]; exact hj)⟩
    exact ⟨c, h.free i hi hf j c e⟩
theorem TRow.touch (h : TRow V w b n f) {F : List Nat} (t : Touch F w w') (hb : ¬ b ∈ F) : TRow V w' b n f :=
  ⟨fun i x hi hx => by obtain ⟨u, h1, h2⟩ := h.held i x hi hx; exact ⟨u, h1, fun j c hc => t.cell hb (h2 j c hc)⟩, fun i hi hx j c hc => t.cell hb (h.free i hi hx j c hc), fun j => by rw [World.frozen?_of_block (t.block b h.lt hb)]; exact h.fz j, Nat.lt_of_lt_of_le h.lt t.size⟩
theorem TRow.ext (h : TRow V w b n f) (hb : Below w.heap.size w w') : TRow V w' b n f := h.touch (Touch.of_below hb []) (by simp)
theorem TRow.see {V' : World} (h : TRow V w b n f) (hv : Stays V V') : TRow V' w b n f :=
  ⟨fun i x hi hx => by obtain ⟨u, h1, h2⟩ := h.held i x hi hx; exact ⟨u, TmV.stay hv _ _ h1, h2⟩, h.free, h.fz, h.lt⟩
theorem TRow.congr {g : Nat → Option Tm} (h : TRow V w b n f) (e : ∀ i, i < n → g i = f i) : TRow V w b n g :=
  ⟨fun i x hi hx => h.held i x hi (by rw [← e i hi]; exact hx), fun i hi hx => h.free i hi (by rw [← e i hi]; exact hx), h.fz, h.lt⟩
theorem TRow.get (h : TRow V w b n f) {i : Nat} {x : Tm} (hi : i < n) (hx : f i = some x) : ∃ k m s a l c, TmV V x (.agg #[.int .i64 k, .int .i64 m, .string s, .slice a l c]) ∧ w.cell? ⟨b, i * 4, none⟩ = some (.int .i64 k) ∧ w.cell? ⟨b, i * 4 + 1, none⟩ = some (.int .i64 m) ∧ w.cell? ⟨b, i * 4 + 2, none⟩ = some (.string s) ∧ w.cell? ⟨b, i * 4 + 3, none⟩ = some (.slice a l c) ∧ x.k = k ∧ x.n = m ∧ x.s = s ∧ x.args.length = l := by
  obtain ⟨u, h1, h2⟩ := h.held i x hi hx
  obtain ⟨k, m, s, ts⟩ := x
  obtain ⟨u', hu', hss, hkk, hnn, hts⟩ := tmV_iff.1 h1
  obtain rfl : u = u' := by
    have h3 : pVal (Tm.mk k m s ts, u) = Value.agg #[.int .i64 k, .int .i64 m, .string s, u] := rfl
    rw [h3] at hu'
    simpa using hu'
  obtain ⟨a, c, rfl, _⟩ := hts.len
  exact ⟨k, m, s, a, ts.length, c, h1, h2 0 _ rfl, h2 1 _ rfl, h2 2 _ rfl, h2 3 _ rfl, rfl, rfl, rfl, rfl⟩
/-- One is set. -/
theorem TRow.put (h : TRow V w b n f) {i : Nat} (hi : i < n) {x : Tm} {u0 u1 u2 u3 : Value} (hx : TmV V x (.agg #[u0, u1, u2, u3])) : TRow V (setAt w b (i * 4) u0 u1 u2 u3) b n (fun k => if k = i then some x else f k) := by
  have hp : ∃ u, pVal (x, u) = .agg #[u0, u1, u2, u3] := by
    obtain ⟨u, hu⟩ := hx.pair
    exact ⟨u, hu.symm⟩
  obtain ⟨u, hu⟩ := hp
  have hpc : pCells (x, u) = [u0, u1, u2, u3] := by
    simp only [pVal, Value.agg.injEq] at hu
    exact congrArg Array.toList hu
  have hc : ∀ j, j < 4 → ∃ c, w.cell? ⟨b, i * 4 + j, none⟩ = some c := fun j hj => h.cells hi hj
  have hin : ∀ j c, (pCells (x, u))[j]? = some c → (setAt w b (i * 4) u0 u1 u2 u3).cell? ⟨b, i * 4 + j, none⟩ = some c := fun j c hj => by
    have h4 : j < 4 := by
      have := (List.getElem?_eq_some_iff.1 hj).1
      rw [pCells_len] at this
      exact this
    rw [hpc] at hj
    match j, h4, hj with
    | 0, _, hj =>
      cases hj
      obtain ⟨c0, e0⟩ := hc 0 (by omega)
      rw [near_cell (by omega), near_cell (by omega), near_cell (by omega)]
      exact css e0
    | 1, _, hj =>
      cases hj
      obtain ⟨c0, e0⟩ := hc 1 (by omega)
      rw [near_cell (by omega), near_cell (by omega)]
      exact css (u := c0) (by rw [near_cell (by omega)]; exact e0)
    | 2, _, hj =>
      cases hj
      obtain ⟨c0, e0⟩ := hc 2 (by omega)
      rw [near_cell (by omega)]
      exact css (u := c0) (by rw [near_cell (by omega), near_cell (by omega)]; exact e0)
    | 3, _, hj =>
      cases hj
      obtain ⟨c0, e0⟩ := hc 3 (by omega)
      exact css (u := c0) (by rw [near_cell (by omega), near_cell (by omega), near_cell (by omega)]; exact e0)
  have hj4 : ∀ (y : TmP) j c, (pCells y)[j]? = some c → j < 4 := fun y j c hj => by
    have := (List.getElem?_eq_some_iff.1 hj).1
    rw [pCells_len] at this
    exact this
  refine ⟨fun k y hk hy => ?_, fun k hk hy j c hj => ?_, fun j => by rw [World.frozen?_setCell, World.frozen?_setCell, World.frozen?_setCell, World.frozen?_setCell]; exact h.fz j, by have := h.lt; simpa [World.setCell] using this⟩
  · by_cases e : k = i
    · subst e
      rw [if_pos rfl] at hy
      cases hy
      exact ⟨u, by rw [hu]; exact hx, hin⟩
    · rw [if_neg e] at hy
      obtain ⟨u', h1, h2⟩ := h.held k y hk hy
      exact ⟨u', h1, fun j c hj => by have := hj4 _ _ _ hj; rw [setAt_off (by omega)]; exact h2 j c hj⟩
  · by_cases e : k = i
    · subst e; rw [if_pos rfl] at hy; cases hy
    · rw [if_neg e] at hy
      have := hj4 _ _ _ hj
      rw [setAt_off (by omega)]
      exact h.free k hk hy j c hj
/-- Some are copied into it. -/
theorem TRow.copy (h : TRow V w b n f) {C : Nat} {qs : List TmP} (hC : C + qs.length ≤ n) (hq : ∀ q ∈ qs, TmV V q.1 (pVal q)) : TRow V (w.setCells b (C * 4) (qs.flatMap pCells)) b n (fun k => if k < C then f k else if k < C + qs.length then (qs[k - C]?).map (·.1) else f k) := by
  have hfl : (qs.flatMap pCells).length = qs.length * 4 := flat_len pCells_len _
  have hsome : ∀ j, j < (qs.flatMap pCells).length → (w.cell? ⟨b, C * 4 + j, none⟩).isSome = true := fun j hj => by
    rw [hfl] at hj
    obtain ⟨c, e⟩ := h.cells (i := C + j / 4) (j := j % 4) (by omega) (Nat.mod_lt _ (by omega))
    rw [show (C + j / 4) * 4 + j % 4 = C * 4 + j by omega] at e
    rw [e]; rfl
  have hj4 : ∀ (y : TmP) j c, (pCells y)[j]? = some c → j < 4 := fun y j c hj => by
    have := (List.getElem?_eq_some_iff.1 hj).1
    rw [pCells_len] at this
    exact this
  have hout : ∀ k j, k < C ∨ C + qs.length ≤ k → j < 4 → (w.setCells b (C * 4) (qs.flatMap pCells)).cell? ⟨b, k * 4 + j, none⟩ = w.cell? ⟨b, k * 4 + j, none⟩ := fun k j hk hj => by
    refine World.cell?_setCells_out b _ _ _ _ fun _ _ => ?_
    rw [hfl]
    show k * 4 + j < C * 4 ∨ C * 4 + qs.length * 4 ≤ k * 4 + j
    omega
  refine ⟨fun k y hk hy => ?_, fun k hk hy j c hj => ?_, fun j => by rw [World.frozen?_setCells]; exact h.fz j, ?_⟩
  · by_cases e : k < C
    · rw [if_pos e] at hy
      obtain ⟨u, h1, h2⟩ := h.held k y hk hy
      exact ⟨u, h1, fun j c hj => by rw [hout k j (Or.inl e) (hj4 _ _ _ hj)]; exact h2 j c hj⟩
    · rw [if_neg e] at hy
      by_cases e2 : k < C + qs.length
      · rw [if_pos e2] at hy
        obtain ⟨q, hqk, rfl⟩ := Option.map_eq_some_iff.1 hy
        refine ⟨q.2, hq q (List.mem_of_getElem? hqk), fun j c hj => ?_⟩
        have h4 := hj4 _ _ _ hj
        have hg := flat_get pCells_len qs (k - C) q hqk j h4
        have hlt : (k - C) * 4 + j < (qs.flatMap pCells).length := by rw [hfl]; omega
        have := World.cell?_setCells_in b (qs.flatMap pCells) (C * 4) w hsome ((k - C) * 4 + j) hlt
        rw [show C * 4 + ((k - C) * 4 + j) = k * 4 + j by omega] at this
        rw [this]
        have e3 : (qs.flatMap pCells)[(k - C) * 4 + j]? = some c := by rw [hg]; exact hj
        rw [List.getElem?_eq_getElem hlt] at e3
        exact e3
      · rw [if_neg e2] at hy
        obtain ⟨u, h1, h2⟩ := h.held k y hk hy
        exact ⟨u, h1, fun j c hj => by rw [hout k j (Or.inr (by omega)) (hj4 _ _ _ hj)]; exact h2 j c hj⟩
  · by_cases e : k < C
    · rw [if_pos e] at hy
      rw [hout k j (Or.inl e) (hj4 _ _ _ hj)]
      exact h.free k hk hy j c hj
    · rw [if_neg e] at hy
      by_cases e2 : k < C + qs.length
      · rw [if_pos e2] at hy
        rw [List.getElem?_eq_getElem (by omega)] at hy
        cases hy
      · rw [if_neg e2] at hy
        rw [hout k j (Or.inr (by omega)) (hj4 _ _ _ hj)]
        exact h.free k hk hy j c hj
  · have : ∀ (vs : List Value) (o : Nat) (w : World), (w.setCells b o vs).heap.size = w.heap.size := by
      intro vs
      induction vs with
      | nil => intro o w; rfl
      | cons v r ih => intro o w; rw [World.setCells, ih]; simp [World.setCell]
    rw [this]
    exact h.lt
theorem setCells_touch (b : Nat) : ∀ (vs : List Value) (o : Nat) (w : World), Touch [b] w (w.setCells b o vs)
  | [], o, w => Touch.refl' _ _
  | v :: r, o, w => (touch_one w b o v).trans (setCells_touch b r (o + 1) _) (fun k hk => Or.inl hk)
theorem TRow.new (V w : World) (n : Nat) (ty : TypeId) : TRow V (w.alloc (.cells (madeCells #[.int .i64 0, .int .i64 0, .string ⟨#[]⟩, .slice none 0 0] (n * 4)) ty)) w.heap.size n (fun _ => none) := by
  have h := lay_new w n ty
  refine ⟨fun i x hi hx => (by cases hx), fun i hi _ j c hj => ?_, h.fz, h.lt⟩
  obtain ⟨r0, r1, r2, r3⟩ := h.rest i (by simp) hi
  have h4 : j < 4 := by
    have := (List.getElem?_eq_some_iff.1 hj).1
    rw [pCells_len] at this
    exact this
  match j, h4, hj with
  | 0, _, hj => cases hj; exact r0
  | 1, _, hj => cases hj; exact r1
  | 2, _, hj => cases hj; exact r2
  | 3, _, hj => cases hj; exact r3
end
end Go.Proofs.Ytannchfoldnhcaa
/- Package code: Match's state; alike. -/
namespace Go.Proofs.Ytannchfoldnhcaa
open Go.RowKit
set_option linter.unusedVariables false

/-- What does the steps, in memory. -/
structure RunS (V w : World) (F : List Nat) (mb gb tb n S : Nat) (p : Value) (regs : List Tm) (sl : Int → Option Tm) : Prop where
  box : Box w mb [p, .slice (some ⟨gb, 0, none⟩) n n, .slice (some ⟨tb, 0, none⟩) S S]
  rrow : TRow V w gb n (fun i => regs[i]?)
  srow : TRow V w tb S (fun i => sl (i : Int))
  apart : mb ≠ gb ∧ mb ≠ tb ∧ gb ≠ tb
  own : ¬ mb ∈ F ∧ ¬ gb ∈ F ∧ ¬ tb ∈ F
  blind : Blind V [mb, gb, tb]
  len : regs.length ≤ n
  size : n ≤ 2000 ∧ S ≤ 2000
  goodr : ∀ r ∈ regs, goodT r = true
  goods : ∀ v x, sl v = some x → goodT x = true
section
variable {V w w' : World} {F F' : List Nat} {mb gb tb n S N : Nat} {p : Value} {regs : List Tm} {sl : Int → Option Tm} {R S0 : List (Int × Tm)}
theorem RunS.lts (h : RunS V w F mb gb tb n S p regs sl) : mb < w.heap.size ∧ gb < w.heap.size ∧ tb < w.heap.size := ⟨h.box.lt, h.rrow.lt, h.srow.lt⟩
theorem RunS.touch (h : RunS V w F mb gb tb n S p regs sl) (t : Touch F w w') (hF : ∀ k ∈ F', k ∈ F ∨ w.heap.size ≤ k) : RunS V w' F' mb gb tb n S p regs sl := by
  have l := h.lts
  have o := h.own
  refine ⟨t.box o.1 h.box, h.rrow.touch t o.2.1, h.srow.touch t o.2.2, h.apart, ⟨fun hm => ?_, fun hm => ?_, fun hm => ?_⟩, h.blind, h.len, h.size, h.goodr, h.goods⟩
  · rcases hF _ hm with e | e
    · exact o.1 e
    · omega
  · rcases hF _ hm with e | e
    · exact o.2.1 e
    · omega
  · rcases hF _ hm with e | e
    · exact o.2.2 e
    · omega
theorem RunS.ext (h : RunS V w F mb gb tb n S p regs sl) (hb : Below w.heap.size w w') : RunS V w' F mb gb tb n S p regs sl := h.touch (Touch.of_below hb F) (fun k hk => Or.inl hk)
/-- What alike leaves. -/
def AlkP (V : World) (F : List Nat) (w : World) (p : Value) (N : Nat) (b : BRes) (e : Ending) (w' : World) : Prop :=
  ∃ F' R', e = .returned (.tuple #[.bool b.ok, .int .i64 b.err]) ∧ IsB V F' w' p N R' ∧ Sync R' b.set ∧ Touch F w w' ∧ ∀ k ∈ F', k ∈ F ∨ w.heap.size ≤ k
set_option maxHeartbeats 4000000 in
set_option maxRecDepth 100000 in
theorem alikeM_at (hI : IsB V F w p N R) (hs : Sync R S0) (h : RunS V w F mb gb tb n S p regs sl) {i : Nat} {r : Tm} (hr : regs[i]? = some r) {T : Tm} {vT : Value} (hT : TmV V T vT) :
    Calls Try.prog 65 #[.pointer (some ⟨mb, 0, none⟩), .int .i64 (i : Nat), vT] w (AlkP V F w p N (bothB N S0 r T)) := by
  have hil : i < regs.length := (List.getElem?_eq_some_iff.1 hr).1
  have hin : i < n := Nat.lt_of_lt_of_le hil h.len
  have hn2 := h.size.1
  obtain ⟨kT, nT, sT, aT, mT, cT, rfl, g1, g2, g3, g4⟩ := four_of hT
  clear g1 g2 g3 g4
  obtain ⟨w1, e1, B1, z1, X1⟩ := box_new w #[.int .i64 kT, .int .i64 nT, .string sT, .slice aT mT cT] 31
  have h1 := h.ext B1
  have hI1 := hI.ext B1
  obtain ⟨k, m, s, a, l, c, hv, d0, d1, d2, d3, _⟩ := h1.rrow.get hin hr
  obtain ⟨c0, c1, c2, cf⟩ := h1.box.three
  obtain ⟨x0, x1, x2, x3, _⟩ := X1.four
  have hFl : ¬ w.heap.size ∈ F := fun hm => by have := hI.lt _ hm; omega
  have HO := Lib.hid h.own
  have HB := Lib.hid (And.intro B1 (And.intro hI1 hs))
  have HE := Lib.hid e1
  have HC := Lib.hid (fun (wq : World) (hb : Below w1.heap.size w1 wq) => Both_at (hI1.ext hb) hs hv hT)
  obtain ⟨b, hb⟩ : ∃ b, bothB N S0 r T = b := ⟨_, rfl⟩
  rw [hb] at HC ⊢
  unfold BothP at HC
  clear hv hT hI1 hI h h1 X1 z1 e1 B1 hr hs hb cf
  go_enter Try.func65, Try.ntmps65
  go_upto_region 1 with fail
  (try rw [HE.out])
  refine wp_region_held_drew (S := fun wq => wq.cell? ⟨mb, 0, none⟩ = some p ∧ wq.cell? ⟨mb, 1, none⟩ = some (.slice (some ⟨gb, 0, none⟩) n n) ∧ (wq.cell? ⟨gb, i * 4, none⟩ = some (.int .i64 k) ∧ wq.cell? ⟨gb, i * 4 + 1, none⟩ = some (.int .i64 m) ∧ wq.cell? ⟨gb, i * 4 + 2, none⟩ = some (.string s) ∧ wq.cell? ⟨gb, i * 4 + 3, none⟩ = some (.slice a l c)) ∧ (wq.cell? ⟨w.heap.size, 0, none⟩ = some (.int .i64 kT) ∧ wq.cell? ⟨w.heap.size, 1, none⟩ = some (.int .i64 nT) ∧ wq.cell? ⟨w.heap.size, 2, none⟩ = some (.string sT) ∧ wq.cell? ⟨w.heap.size, 3, none⟩ = some (.slice aT mT cT))) (by kernel_rfl) (⟨c0, c1, ⟨d0, d1, d2, d3⟩, x0, x1, x2, x3⟩) (fun hHeld => ?_)
  first | (refine held_t (i := 0) hHeld ?_; apply Exists.intro; refine ⟨fun wq hq => ?_, ?_⟩; (focus ((try dsimp only at hq); go_simp; (first | done | with_reducible rfl | fail)))) | refine held_s (i := 0) hHeld ?_ | fail
  first | (refine held_t (i := 1) hHeld ?_; apply Exists.intro; refine ⟨fun wq hq => ?_, ?_⟩; (focus ((try dsimp only at hq); go_simp; (first | done | with_reducible rfl | fail)))) | refine held_s (i := 1) hHeld ?_ | fail
  first | (refine held_t (i := 2) hHeld ?_; apply Exists.intro; refine ⟨fun wq hq => ?_, ?_⟩; (focus ((try dsimp only at hq); go_simp; (first | done | with_reducible rfl | fail)))) | refine held_s (i := 2) hHeld ?_ | fail
  first | (refine held_t (i := 3) hHeld ?_; apply Exists.intro; refine ⟨fun wq hq => ?_, ?_⟩; (focus ((try dsimp only at hq); go_simp; (first | done | with_reducible rfl | fail)))) | refine held_s (i := 3) hHeld ?_ | fail
  first | (refine held_t (i := 4) hHeld ?_; apply Exists.intro; refine ⟨fun wq hq => ?_, ?_⟩; (focus ((try dsimp only at hq); go_simp; (first | done | with_reducible rfl | fail)))) | refine held_s (i := 4) hHeld ?_ | fail
  first | (refine held_t (i := 5) hHeld ?_; apply Exists.intro; refine ⟨fun wq hq => ?_, ?_⟩; (focus ((try dsimp only at hq); go_simp; (first | done | with_reducible rfl | fail)))) | refine held_s (i := 5) hHeld ?_ | fail
  first | (refine held_t (i := 6) hHeld ?_; apply Exists.intro; refine ⟨fun wq hq => ?_, ?_⟩; (focus ((try dsimp only at hq); go_simp; (first | done | with_reducible rfl | fail)))) | refine held_s (i := 6) hHeld ?_ | fail
  first | (refine held_t (i := 7) hHeld ?_; apply Exists.intro; refine ⟨fun wq hq => ?_, ?_⟩; (focus ((try dsimp only at hq); go_simp; (first | done | with_reducible rfl | fail)))) | refine held_s (i := 7) hHeld ?_ | fail
  first | (refine held_t (i := 8) hHeld ?_; apply Exists.intro; refine ⟨fun wq hq => ?_, ?_⟩; (focus ((try dsimp only at hq); go_simp; (first | done | with_reducible rfl | fail)))) | refine held_s (i := 8) hHeld ?_ | fail
  first | (refine held_t (i := 9) hHeld ?_; apply Exists.intro; refine ⟨fun wq hq => ?_, ?_⟩; (focus ((try dsimp only at hq); go_simp; (first | done | with_reducible rfl | fail)))) | refine held_s (i := 9) hHeld ?_ | fail
  first | (refine held_t (i := 10) hHeld ?_; apply Exists.intro; refine ⟨fun wq hq => ?_, ?_⟩; (focus ((try dsimp only at hq); go_simp; (first | done | with_reducible rfl | fail)))) | refine held_s (i := 10) hHeld ?_ | fail
  first | (refine held_t (i := 11) hHeld ?_; apply Exists.intro; refine ⟨fun wq hq => ?_, ?_⟩; (focus ((try dsimp only at hq); go_simp; (first | done | with_reducible rfl | fail)))) | refine held_s (i := 11) hHeld ?_ | fail
  try simp only [Act.put, List.setIfInBounds_toArray, List.set_cons_zero, List.set_cons_succ]
  refine held_c 12 fun K hK => ?_
  go_simp
  (go_at_call 79; refine (HC.out _ (Below.refl _ _).drew).mono ?_; rintro e w6 ⟨F', R', rfl, i6, s6, t6, n6⟩; have H6 := Lib.hid (And.intro i6 (And.intro s6 (And.intro t6 n6))); clear i6 s6 n6)
  refine hK.out _ _ (⟨t6.cell HO.out.1 hHeld.1, t6.cell HO.out.1 hHeld.2.1, ⟨t6.cell HO.out.2.1 hHeld.2.2.1.1, t6.cell HO.out.2.1 hHeld.2.2.1.2.1, t6.cell HO.out.2.1 hHeld.2.2.1.2.2.1, t6.cell HO.out.2.1 hHeld.2.2.1.2.2.2⟩, t6.cell hFl hHeld.2.2.2.1, t6.cell hFl hHeld.2.2.2.2.1, t6.cell hFl hHeld.2.2.2.2.2.1, t6.cell hFl hHeld.2.2.2.2.2.2⟩) (fun hHeld => ?_)
  clear hK K
  try simp only [Act.put, List.setIfInBounds_toArray, List.set_cons_zero, List.set_cons_succ]
  first | (refine held_t (i := 13) hHeld ?_; apply Exists.intro; refine ⟨fun wq hq => ?_, ?_⟩; (focus ((try dsimp only at hq); go_simp; (first | done | with_reducible rfl | fail)))) | refine held_s (i := 13) hHeld ?_ | fail
  first | (refine held_t (i := 14) hHeld ?_; apply Exists.intro; refine ⟨fun wq hq => ?_, ?_⟩; (focus ((try dsimp only at hq); go_simp; (first | done | with_reducible rfl | fail)))) | refine held_s (i := 14) hHeld ?_ | fail
  first | (refine held_t (i := 15) hHeld ?_; apply Exists.intro; refine ⟨fun wq hq => ?_, ?_⟩; (focus ((try dsimp only at hq); go_simp; (first | done | with_reducible rfl | fail)))) | refine held_s (i := 15) hHeld ?_ | fail
  first | (refine held_t (i := 16) hHeld ?_; apply Exists.intro; refine ⟨fun wq hq => ?_, ?_⟩; (focus ((try dsimp only at hq); go_simp; (first | done | with_reducible rfl | fail)))) | refine held_s (i := 16) hHeld ?_ | fail
  first | (refine held_t (i := 17) hHeld ?_; apply Exists.intro; refine ⟨fun wq hq => ?_, ?_⟩; (focus ((try dsimp only at hq); go_simp; (first | done | with_reducible rfl | fail)))) | refine held_s (i := 17) hHeld ?_ | fail
  first | (refine held_t (i := 18) hHeld ?_; apply Exists.intro; refine ⟨fun wq hq => ?_, ?_⟩; (focus ((try dsimp only at hq); go_simp; (first | done | with_reducible rfl | fail)))) | refine held_s (i := 18) hHeld ?_ | fail
  first | (refine held_t (i := 19) hHeld ?_; apply Exists.intro; refine ⟨fun wq hq => ?_, ?_⟩; (focus ((try dsimp only at hq); go_simp; (first | done | with_reducible rfl | fail)))) | refine held_s (i := 19) hHeld ?_ | fail
  try simp only [Act.put, List.setIfInBounds_toArray, List.set_cons_zero, List.set_cons_succ]
  refine wpAnyH_done (by kernel_rfl) ?_ _
  clear hHeld t6
  go_wp2
  go_ret2
  have hsz : w.heap.size ≤ w1.heap.size := HB.out.1.size
  refine ⟨F', R', rfl, H6.out.1, H6.out.2.1, ?_, fun k hk => (H6.out.2.2.2 k hk).imp id (fun e => Nat.le_trans hsz e)⟩
  exact (Touch.of_below (Ext.trans' HB.out.1 (Below.refl _ _).drew) F).trans H6.out.2.2.1 (fun k hk => Or.inl hk)
end
end Go.Proofs.Ytannchfoldnhcaa
