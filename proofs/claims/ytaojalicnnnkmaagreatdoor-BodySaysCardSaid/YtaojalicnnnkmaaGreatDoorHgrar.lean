import Derived.Test.YtaojalicnnnkmaaGreatDoorHgraq
set_option linter.unusedVariables false
set_option linter.unusedSimpArgs false
/- The document's side of chapter 14: Clause, walked. -/
namespace Go.Proofs.YtaojalicnnnkmaaGreatDoor
open Go.RowKit
set_option linter.unusedVariables false

theorem Box.all4' {w : World} {b : Nat} {v0 v1 v2 v3 : Value} (h : Box w b [v0, v1, v2, v3]) (u0 u1 u2 u3 : Value) : Box (set4 w b u0 u1 u2 u3) b [u0, u1, u2, u3] :=
  (((h.set (k := 0) (by simp)).set (k := 1) (by simp)).set (k := 2) (by simp)).set (k := 3) (by simp)
theorem Box.far4g {w : World} {b c : Nat} {vs : List Value} (h : Box w b vs) (hne : b ≠ c) (u0 u1 u2 u3 : Value) : Box (set4 w c u0 u1 u2 u3) b vs := (((h.far hne).far hne).far hne).far hne
/-- The head's and the rest's boxes, new. -/
def clBox (W : World) (k n : Int) (s : ByteArray) (u : Value) (u5 u6 : Value) (wx : World) : Prop := ∃ p q, u5 = .pointer (some ⟨p, 0, none⟩) ∧ u6 = .pointer (some ⟨q, 0, none⟩) ∧ p ≠ q ∧ W.heap.size ≤ p ∧ W.heap.size ≤ q ∧
  Box wx p [.int .i64 k, .int .i64 n, .string s, u] ∧ Box wx q [.int .i64 2, .int .i64 0, .string trueS, .slice none 0 0] ∧ Below W.heap.size W wx
theorem cl_done {W wc : World} {k n : Int} {s : ByteArray} {u : Value} {p q : Nat} (hne : p ≠ q) (hp : W.heap.size ≤ p) (hq : W.heap.size ≤ q) (hb : Below W.heap.size W wc) {z0 z1 z2 z3 z4 z5 z6 z7 : Value} (bx : Box wc p [z0, z1, z2, z3]) (by_ : Box wc q [z4, z5, z6, z7]) :
    clBox W k n s u (.pointer (some ⟨p, 0, none⟩)) (.pointer (some ⟨q, 0, none⟩)) (set4 (set4 wc p (.int .i64 k) (.int .i64 n) (.string s) u) q (.int .i64 2) (.int .i64 0) (.string trueS) (.slice none 0 0)) :=
  ⟨p, q, rfl, rfl, hne, hp, hq, (bx.all4' _ _ _ _).far4g hne _ _ _ _, (by_.far4g (Ne.symm hne) _ _ _ _).all4' _ _ _ _, Below.set4 (Below.set4 hb hp _ _ _ _) hq _ _ _ _⟩
theorem results_ccT {fn : Func} {p q u : Tmp} {ty tz : TypeId} (h : fn.results = #[.cell p ty, .cell q tz, .tmp u]) (tmps : Array Value) (P : Program) (w : World) :
    (results fn tmps).run P w = ((asAddr (tmps.getD p undef)).run P w).andThen fun a w₁ => ((loadVar ty a).run P w₁).andThen fun x w₂ => ((asAddr (tmps.getD q undef)).run P w₂).andThen fun b w₃ => ((loadVar tz b).run P w₃).andThen fun y w₄ => .ok (.tuple #[x, y, tmps.getD u undef]) w₄ := by
  simp [results, h, Sem.run_bind]
theorem rof_plain {t : Tm} (hs : sizeN t ≤ 2000) (w : World) (v : Value) (hv : TmV w t v) : Calls Tryz.prog 38 #[v] w fun e w' => (∃ r, e = .returned (.tuple #[r, .int .i64 (erO (ofB t))])) ∧ Below w.heap.size w w' := by
  have h := rof_at 2000 (by omega) t hs (fun _ => false) w v (fun _ _ => rfl) (by rw [hide_none]; exact hv)
  refine h.mono ?_
  rintro e w' ⟨r, h1, _, h3⟩
  exact ⟨⟨r, h1⟩, h3⟩
theorem clause_bad {t : Tm} (h : goodT t = false) : clauseE t = (zeroT, zeroT, 1) := by unfold clauseE; rw [if_neg (by rw [h]; simp)]
theorem clause_good {t h r : Tm} (hg : goodT t = true) (hh : headT t = (h, r)) : clauseE t = if h.k = 0 then (zeroT, zeroT, 6) else if h.k = 1 then (zeroT, zeroT, 5) else if heldT h = true then (zeroT, zeroT, 8) else if (ofB r).isSome = true then (h, r, 0) else (zeroT, zeroT, 5) := by
  unfold clauseE; rw [if_pos hg, hh]
theorem zero_tm (w : World) : TmV w zeroT (.agg #[.int .i64 0, .int .i64 0, .string ⟨#[]⟩, .slice none 0 0]) := leaf_tm w i64_0 i64_0 (by unfold BIG; decide)
theorem tm_k {w : World} {x : Tm} {k n : Int} {s : ByteArray} {u : Value} (h : TmV w x (.agg #[.int .i64 k, .int .i64 n, .string s, u])) : x.k = k := by
  have h1 := (tm_parts h).1
  unfold pCells at h1
  simp only [List.cons.injEq, Value.int.injEq, true_and] at h1
  exact h1.1
theorem Box.cells4 {w : World} {b : Nat} {v0 v1 v2 v3 : Value} (h : Box w b [v0, v1, v2, v3]) : w.cell? ⟨b, 0, none⟩ = some v0 ∧ w.cell? ⟨b, 1, none⟩ = some v1 ∧ w.cell? ⟨b, 2, none⟩ = some v2 ∧ w.cell? ⟨b, 3, none⟩ = some v3 :=
  ⟨h.cells 0 _ rfl, h.cells 1 _ rfl, h.cells 2 _ rfl, h.cells 3 _ rfl⟩
theorem old_read {w wz : World} {x : Tm} {v : Value} (h : TmV w x v) {D : Nat → Bool} (hD : ∀ k, k < w.heap.size → D k = false) (hb : Below w.heap.size w wz) : TmV (hide D wz) x v := by
  have h1 : TmV (hide (fun _ => false) w) x v := by rw [hide_none]; exact h
  exact TmV.stay (Stays.below hb fun k hk _ => hD k hk) _ _ h1
theorem far1 {w : World} {b c o : Nat} {u0 u1 u2 u3 v : Value} (h : w.cell? ⟨b, o, none⟩ = some v) (hne : b ≠ c) : (set4 w c u0 u1 u2 u3).cell? ⟨b, o, none⟩ = some v := by
  rw [far_cell hne, far_cell hne, far_cell hne, far_cell hne]; exact h
set_option maxHeartbeats 16000000 in
set_option maxRecDepth 100000 in
theorem rClause_at (t : Tm) (w : World) (v : Value) (hv : TmV w t v) : Calls Tryz.prog 19 #[v] w fun e w' => ∃ h r, e = .returned (.tuple #[h, r, .int .i64 (clauseE t).2.2]) ∧ TmV w' (clauseE t).1 h ∧ TmV w' (clauseE t).2.1 r ∧ Below w.heap.size w w' := by
  obtain ⟨k, n, s, a, m, c, rfl, -, -, -, -⟩ := four_of hv
  obtain ⟨w1, e1, B1, z1, X1⟩ := box_new w #[.int .i64 k, .int .i64 n, .string s, .slice a m c] 46
  obtain ⟨w2, e2, B2, z2, X2⟩ := box_new w1 #[.int .i64 0, .int .i64 0, .string ⟨#[]⟩, .slice none 0 0] 46
  obtain ⟨w3, e3, B3, z3, X3⟩ := box_new w2 #[.int .i64 0, .int .i64 0, .string ⟨#[]⟩, .slice none 0 0] 46
  have HE := Lib.hid (And.intro e1 (And.intro e2 e3))
  have HBW := Lib.hid (Ext.trans' (Ext.trans' B1 B2) B3)
  have HX := Lib.hid (And.intro ((X1.ext B2).ext B3) (And.intro (X2.ext B3) X3))
  have HZ := Lib.hid (And.intro z1 z2)
  rw [z1] at z2
  rw [z1] at X2
  rw [z2] at X3
  have HV := Lib.hid hv
  have HC := Lib.hid (fun (wx : World) (hb : Below w3.heap.size w3 wx) => (show wx.cell? ⟨w.heap.size, 0, none⟩ = some (.int .i64 k) ∧ wx.cell? ⟨w.heap.size, 1, none⟩ = some (.int .i64 n) ∧ wx.cell? ⟨w.heap.size, 2, none⟩ = some (.string s) ∧ wx.cell? ⟨w.heap.size, 3, none⟩ = some (.slice a m c) from by
    obtain ⟨y0, y1, y2, y3, _⟩ := (HX.out.1.ext hb).four
    exact ⟨y0, y1, y2, y3⟩))
  clear hv e1 e2 e3 B1 B2 B3 z1 z2 z3 X1 X2 X3
  obtain ⟨c0, c1, c2, c3⟩ := HC.out w3 (Below.refl _ _)
  go_enter Tryz.func19, Tryz.ntmps19
  go_upto_region 1 with fail
  (try rw [HE.out.1, HE.out.2.1, HE.out.2.2])
  go_cut [5, 6] from 8 to 9 (fun u5 u6 wx => clBox w3 k n s (.slice a m c) u5 u6 wx)
  case first =>
    refine wp_region_held_drew (S := fun wq => (wq.cell? ⟨w.heap.size, 0, none⟩ = some (.int .i64 k) ∧ wq.cell? ⟨w.heap.size, 1, none⟩ = some (.int .i64 n) ∧ wq.cell? ⟨w.heap.size, 2, none⟩ = some (.string s) ∧ wq.cell? ⟨w.heap.size, 3, none⟩ = some (.slice a m c)) ∧ Below w3.heap.size w3 wq) (by kernel_rfl) ⟨⟨c0, c1, c2, c3⟩, (Below.refl _ _).drew⟩ (fun hHeld => ?_)
    first | (refine held_t (i := 0) hHeld ?_; apply Exists.intro; refine ⟨fun wq hq => ?_, ?_⟩; (focus ((try dsimp only at hq); go_simp; (first | done | with_reducible rfl | fail)))) | refine held_s (i := 0) hHeld ?_ | fail
    try simp only [Act.put, List.setIfInBounds_toArray, List.set_cons_zero, List.set_cons_succ]
    obtain ⟨wd, hwd⟩ : ∃ wd, w3.drew = wd := ⟨_, rfl⟩
    rw [hwd] at hHeld ⊢
    clear hwd
    have z0 := hHeld.2.size
    refine wpAnyH_ready (rs := [1, 2, 3]) (by kernel_rfl) (by simp) ?_
    refine AllReadyH.cons (by simp only [List.getElem?_toArray, List.getElem?_cons_zero, List.getElem?_cons_succ]; rfl) (fun K hK => ?_) (AllReadyH.cons (by simp only [List.getElem?_toArray, List.getElem?_cons_zero, List.getElem?_cons_succ]; rfl) (fun K hK => ?_) (AllReadyH.cons (by simp only [List.getElem?_toArray, List.getElem?_cons_zero, List.getElem?_cons_succ]; rfl) (fun K hK => ?_) AllReadyH.nil))
    · go_simp
      (go_at_call 39; refine (ratomG_at _ _).mono ?_; rintro e wa1 ⟨rfl, hb1⟩; have HB1 := Lib.hid hb1; have hs1 := hb1.size; clear hb1)
      refine hK.out _ _ (⟨HC.out _ (Ext.trans' hHeld.2 HB1.out), Ext.trans' hHeld.2 HB1.out⟩) (fun hHeld => ?_)
      clear hK K
      try simp only [Act.put, List.setIfInBounds_toArray, List.set_cons_zero, List.set_cons_succ]
      refine wpAnyH_ready (rs := [2, 3]) (by kernel_rfl) (by simp) ?_
      refine AllReadyH.cons (by simp only [List.getElem?_toArray, List.getElem?_cons_zero, List.getElem?_cons_succ]; rfl) (fun K hK => ?_) (AllReadyH.cons (by simp only [List.getElem?_toArray, List.getElem?_cons_zero, List.getElem?_cons_succ]; rfl) (fun K hK => ?_) AllReadyH.nil)
      · go_simp
        skip
        refine hK.out _ _ (⟨HC.out _ (Ext.trans' hHeld.2 (bel1' _ _)), Ext.trans' hHeld.2 (bel1' _ _)⟩) (fun hHeld => ?_)
        clear hK K
        try simp only [Act.put, List.setIfInBounds_toArray, List.set_cons_zero, List.set_cons_succ]
        obtain ⟨wa2, hw2, hb2, hz2, hx2⟩ := box_new wa1 #[.int .i64 0, .int .i64 0, .string ⟨#[]⟩, .slice none 0 0] 46
        rw [hw2] at hHeld ⊢
        have hs2 := hb2.size
        have hl2 := hx2.lt
        have HXp := Lib.hid hx2
        clear hw2 hb2 hx2 hz2
        refine held_c 3 fun K hK => ?_
        go_simp
        skip
        refine hK.out _ _ (⟨HC.out _ (Ext.trans' hHeld.2 (bel1' _ _)), Ext.trans' hHeld.2 (bel1' _ _)⟩) (fun hHeld => ?_)
        clear hK K
        try simp only [Act.put, List.setIfInBounds_toArray, List.set_cons_zero, List.set_cons_succ]
        obtain ⟨wa3, hw3, hb3, hz3, hx3⟩ := box_new wa2 #[.int .i64 0, .int .i64 0, .string ⟨#[]⟩, .slice none 0 0] 46
        rw [hw3] at hHeld ⊢
        have hs3 := hb3.size
        have hl3 := hx3.lt
        have HXp := Lib.hid (HXp.out.ext hb3)
        have HXq := Lib.hid hx3
        clear hw3 hb3 hx3 hz3
        obtain ⟨p0, p1, p2, p3, pf⟩ := HXp.out.four
        have hne : wa1.heap.size ≠ wa2.heap.size := by omega
        have hne' : wa2.heap.size ≠ wa1.heap.size := by omega
        obtain ⟨q0, q1, q2, q3, qf⟩ := (HXq.out.far4g (c := wa1.heap.size) hne' (.int .i64 k) (.int .i64 n) (.string s) (.slice a m c)).four
        have TD := Lib.hid (cl_done (k := k) (n := n) (s := s) (u := .slice a m c) hne (by omega) (by omega) hHeld.2 HXp.out HXq.out)
        have hS4 := Lib.hid hHeld.2
        refine held_c 4 fun K hK => ?_
        go_simp
        skip
        refine hK.out _ _ (⟨HC.out _ (Below.set4 hS4.out (by omega) _ _ _ _), Below.set4 hS4.out (by omega) _ _ _ _⟩) (fun hHeld => ?_)
        clear hK K
        try simp only [Act.put, List.setIfInBounds_toArray, List.set_cons_zero, List.set_cons_succ]
        refine held_c 5 fun K hK => ?_
        go_simp
        skip
        refine hK.out _ _ (⟨HC.out _ (Below.set4 (Below.set4 hS4.out (by omega) _ _ _ _) (by omega) _ _ _ _), Below.set4 (Below.set4 hS4.out (by omega) _ _ _ _) (by omega) _ _ _ _⟩) (fun hHeld => ?_)
        clear hK K
        try simp only [Act.put, List.setIfInBounds_toArray, List.set_cons_zero, List.set_cons_succ]
        refine wpAnyH_done (by kernel_rfl) ?_ _
        clear hHeld p0 p1 p2 p3 pf q0 q1 q2 q3 qf hS4 c0 c1 c2 c3
        go_wp2
        all_goals go_meet
        exact TD.out
      · go_simp
        skip
        refine hK.out _ _ (⟨HC.out _ (Ext.trans' hHeld.2 (bel1' _ _)), Ext.trans' hHeld.2 (bel1' _ _)⟩) (fun hHeld => ?_)
        clear hK K
        try simp only [Act.put, List.setIfInBounds_toArray, List.set_cons_zero, List.set_cons_succ]
        obtain ⟨wa4, hw4, hb4, hz4, hx4⟩ := box_new wa1 #[.int .i64 0, .int .i64 0, .string ⟨#[]⟩, .slice none 0 0] 46
        rw [hw4] at hHeld ⊢
        have hs4 := hb4.size
        have hl4 := hx4.lt
        have HXq := Lib.hid hx4
        clear hw4 hb4 hx4 hz4
        refine held_c 2 fun K hK => ?_
        go_simp
        skip
        refine hK.out _ _ (⟨HC.out _ (Ext.trans' hHeld.2 (bel1' _ _)), Ext.trans' hHeld.2 (bel1' _ _)⟩) (fun hHeld => ?_)
        clear hK K
        try simp only [Act.put, List.setIfInBounds_toArray, List.set_cons_zero, List.set_cons_succ]
        obtain ⟨wa5, hw5, hb5, hz5, hx5⟩ := box_new wa4 #[.int .i64 0, .int .i64 0, .string ⟨#[]⟩, .slice none 0 0] 46
        rw [hw5] at hHeld ⊢
        have hs5 := hb5.size
        have hl5 := hx5.lt
        have HXq := Lib.hid (HXq.out.ext hb5)
        have HXp := Lib.hid hx5
        clear hw5 hb5 hx5 hz5
        obtain ⟨p0, p1, p2, p3, pf⟩ := HXp.out.four
        have hne : wa4.heap.size ≠ wa1.heap.size := by omega
        have hne' : wa1.heap.size ≠ wa4.heap.size := by omega
        obtain ⟨q0, q1, q2, q3, qf⟩ := (HXq.out.far4g (c := wa4.heap.size) hne' (.int .i64 k) (.int .i64 n) (.string s) (.slice a m c)).four
        have TD := Lib.hid (cl_done (k := k) (n := n) (s := s) (u := .slice a m c) hne (by omega) (by omega) hHeld.2 HXp.out HXq.out)
        have hS4 := Lib.hid hHeld.2
        refine held_c 4 fun K hK => ?_
        go_simp
        skip
        refine hK.out _ _ (⟨HC.out _ (Below.set4 hS4.out (by omega) _ _ _ _), Below.set4 hS4.out (by omega) _ _ _ _⟩) (fun hHeld => ?_)
        clear hK K
        try simp only [Act.put, List.setIfInBounds_toArray, List.set_cons_zero, List.set_cons_succ]
        refine held_c 5 fun K hK => ?_
        go_simp
        skip
        refine hK.out _ _ (⟨HC.out _ (Below.set4 (Below.set4 hS4.out (by omega) _ _ _ _) (by omega) _ _ _ _), Below.set4 (Below.set4 hS4.out (by omega) _ _ _ _) (by omega) _ _ _ _⟩) (fun hHeld => ?_)
        clear hK K
        try simp only [Act.put, List.setIfInBounds_toArray, List.set_cons_zero, List.set_cons_succ]
        refine wpAnyH_done (by kernel_rfl) ?_ _
        clear hHeld p0 p1 p2 p3 pf q0 q1 q2 q3 qf hS4 c0 c1 c2 c3
        go_wp2
        all_goals go_meet
        exact TD.out
    · go_simp
      skip
      refine hK.out _ _ (⟨HC.out _ (Ext.trans' hHeld.2 (bel1' _ _)), Ext.trans' hHeld.2 (bel1' _ _)⟩) (fun hHeld => ?_)
      clear hK K
      try simp only [Act.put, List.setIfInBounds_toArray, List.set_cons_zero, List.set_cons_succ]
      obtain ⟨wa6, hw6, hb6, hz6, hx6⟩ := box_new wd #[.int .i64 0, .int .i64 0, .string ⟨#[]⟩, .slice none 0 0] 46
      rw [hw6] at hHeld ⊢
      have hs6 := hb6.size
      have hl6 := hx6.lt
      have HXp := Lib.hid hx6
      clear hw6 hb6 hx6 hz6
      refine wpAnyH_ready (rs := [1, 3]) (by kernel_rfl) (by simp) ?_
      refine AllReadyH.cons (by simp only [List.getElem?_toArray, List.getElem?_cons_zero, List.getElem?_cons_succ]; rfl) (fun K hK => ?_) (AllReadyH.cons (by simp only [List.getElem?_toArray, List.getElem?_cons_zero, List.getElem?_cons_succ]; rfl) (fun K hK => ?_) AllReadyH.nil)
      · go_simp
        (go_at_call 39; refine (ratomG_at _ _).mono ?_; rintro e wa7 ⟨rfl, hb7⟩; have HB7 := Lib.hid hb7; have hs7 := hb7.size; clear hb7)
        refine hK.out _ _ (⟨HC.out _ (Ext.trans' hHeld.2 HB7.out), Ext.trans' hHeld.2 HB7.out⟩) (fun hHeld => ?_)
        clear hK K
        try simp only [Act.put, List.setIfInBounds_toArray, List.set_cons_zero, List.set_cons_succ]
        have HXp := Lib.hid (HXp.out.ext HB7.out)
        refine held_c 3 fun K hK => ?_
        go_simp
        skip
        refine hK.out _ _ (⟨HC.out _ (Ext.trans' hHeld.2 (bel1' _ _)), Ext.trans' hHeld.2 (bel1' _ _)⟩) (fun hHeld => ?_)
        clear hK K
        try simp only [Act.put, List.setIfInBounds_toArray, List.set_cons_zero, List.set_cons_succ]
        obtain ⟨wa8, hw8, hb8, hz8, hx8⟩ := box_new wa7 #[.int .i64 0, .int .i64 0, .string ⟨#[]⟩, .slice none 0 0] 46
        rw [hw8] at hHeld ⊢
        have hs8 := hb8.size
        have hl8 := hx8.lt
        have HXp := Lib.hid (HXp.out.ext hb8)
        have HXq := Lib.hid hx8
        clear hw8 hb8 hx8 hz8
        obtain ⟨p0, p1, p2, p3, pf⟩ := HXp.out.four
        have hne : wd.heap.size ≠ wa7.heap.size := by omega
        have hne' : wa7.heap.size ≠ wd.heap.size := by omega
        obtain ⟨q0, q1, q2, q3, qf⟩ := (HXq.out.far4g (c := wd.heap.size) hne' (.int .i64 k) (.int .i64 n) (.string s) (.slice a m c)).four
        have TD := Lib.hid (cl_done (k := k) (n := n) (s := s) (u := .slice a m c) hne (by omega) (by omega) hHeld.2 HXp.out HXq.out)
        have hS4 := Lib.hid hHeld.2
        refine held_c 4 fun K hK => ?_
        go_simp
        skip
        refine hK.out _ _ (⟨HC.out _ (Below.set4 hS4.out (by omega) _ _ _ _), Below.set4 hS4.out (by omega) _ _ _ _⟩) (fun hHeld => ?_)
        clear hK K
        try simp only [Act.put, List.setIfInBounds_toArray, List.set_cons_zero, List.set_cons_succ]
        refine held_c 5 fun K hK => ?_
        go_simp
        skip
        refine hK.out _ _ (⟨HC.out _ (Below.set4 (Below.set4 hS4.out (by omega) _ _ _ _) (by omega) _ _ _ _), Below.set4 (Below.set4 hS4.out (by omega) _ _ _ _) (by omega) _ _ _ _⟩) (fun hHeld => ?_)
        clear hK K
        try simp only [Act.put, List.setIfInBounds_toArray, List.set_cons_zero, List.set_cons_succ]
        refine wpAnyH_done (by kernel_rfl) ?_ _
        clear hHeld p0 p1 p2 p3 pf q0 q1 q2 q3 qf hS4 c0 c1 c2 c3
        go_wp2
        all_goals go_meet
        exact TD.out
      · go_simp
        skip
        refine hK.out _ _ (⟨HC.out _ (Ext.trans' hHeld.2 (bel1' _ _)), Ext.trans' hHeld.2 (bel1' _ _)⟩) (fun hHeld => ?_)
        clear hK K
        try simp only [Act.put, List.setIfInBounds_toArray, List.set_cons_zero, List.set_cons_succ]
        obtain ⟨wa9, hw9, hb9, hz9, hx9⟩ := box_new wa6 #[.int .i64 0, .int .i64 0, .string ⟨#[]⟩, .slice none 0 0] 46
        rw [hw9] at hHeld ⊢
        have hs9 := hb9.size
        have hl9 := hx9.lt
        have HXp := Lib.hid (HXp.out.ext hb9)
        have HXq := Lib.hid hx9
        clear hw9 hb9 hx9 hz9
        refine held_c 1 fun K hK => ?_
        go_simp
        (go_at_call 39; refine (ratomG_at _ _).mono ?_; rintro e wa10 ⟨rfl, hb10⟩; have HB10 := Lib.hid hb10; have hs10 := hb10.size; clear hb10)
        refine hK.out _ _ (⟨HC.out _ (Ext.trans' hHeld.2 HB10.out), Ext.trans' hHeld.2 HB10.out⟩) (fun hHeld => ?_)
        clear hK K
        try simp only [Act.put, List.setIfInBounds_toArray, List.set_cons_zero, List.set_cons_succ]
        have HXp := Lib.hid (HXp.out.ext HB10.out)
        have HXq := Lib.hid (HXq.out.ext HB10.out)
        obtain ⟨p0, p1, p2, p3, pf⟩ := HXp.out.four
        have hne : wd.heap.size ≠ wa6.heap.size := by omega
        have hne' : wa6.heap.size ≠ wd.heap.size := by omega
        obtain ⟨q0, q1, q2, q3, qf⟩ := (HXq.out.far4g (c := wd.heap.size) hne' (.int .i64 k) (.int .i64 n) (.string s) (.slice a m c)).four
        have TD := Lib.hid (cl_done (k := k) (n := n) (s := s) (u := .slice a m c) hne (by omega) (by omega) hHeld.2 HXp.out HXq.out)
        have hS4 := Lib.hid hHeld.2
        refine held_c 4 fun K hK => ?_
        go_simp
        skip
        refine hK.out _ _ (⟨HC.out _ (Below.set4 hS4.out (by omega) _ _ _ _), Below.set4 hS4.out (by omega) _ _ _ _⟩) (fun hHeld => ?_)
        clear hK K
        try simp only [Act.put, List.setIfInBounds_toArray, List.set_cons_zero, List.set_cons_succ]
        refine held_c 5 fun K hK => ?_
        go_simp
        skip
        refine hK.out _ _ (⟨HC.out _ (Below.set4 (Below.set4 hS4.out (by omega) _ _ _ _) (by omega) _ _ _ _), Below.set4 (Below.set4 hS4.out (by omega) _ _ _ _) (by omega) _ _ _ _⟩) (fun hHeld => ?_)
        clear hK K
        try simp only [Act.put, List.setIfInBounds_toArray, List.set_cons_zero, List.set_cons_succ]
        refine wpAnyH_done (by kernel_rfl) ?_ _
        clear hHeld p0 p1 p2 p3 pf q0 q1 q2 q3 qf hS4 c0 c1 c2 c3
        go_wp2
        all_goals go_meet
        exact TD.out
    · go_simp
      skip
      refine hK.out _ _ (⟨HC.out _ (Ext.trans' hHeld.2 (bel1' _ _)), Ext.trans' hHeld.2 (bel1' _ _)⟩) (fun hHeld => ?_)
      clear hK K
      try simp only [Act.put, List.setIfInBounds_toArray, List.set_cons_zero, List.set_cons_succ]
      obtain ⟨wa11, hw11, hb11, hz11, hx11⟩ := box_new wd #[.int .i64 0, .int .i64 0, .string ⟨#[]⟩, .slice none 0 0] 46
      rw [hw11] at hHeld ⊢
      have hs11 := hb11.size
      have hl11 := hx11.lt
      have HXq := Lib.hid hx11
      clear hw11 hb11 hx11 hz11
      refine wpAnyH_ready (rs := [1, 2]) (by kernel_rfl) (by simp) ?_
      refine AllReadyH.cons (by simp only [List.getElem?_toArray, List.getElem?_cons_zero, List.getElem?_cons_succ]; rfl) (fun K hK => ?_) (AllReadyH.cons (by simp only [List.getElem?_toArray, List.getElem?_cons_zero, List.getElem?_cons_succ]; rfl) (fun K hK => ?_) AllReadyH.nil)
      · go_simp
        (go_at_call 39; refine (ratomG_at _ _).mono ?_; rintro e wa12 ⟨rfl, hb12⟩; have HB12 := Lib.hid hb12; have hs12 := hb12.size; clear hb12)
        refine hK.out _ _ (⟨HC.out _ (Ext.trans' hHeld.2 HB12.out), Ext.trans' hHeld.2 HB12.out⟩) (fun hHeld => ?_)
        clear hK K
        try simp only [Act.put, List.setIfInBounds_toArray, List.set_cons_zero, List.set_cons_succ]
        have HXq := Lib.hid (HXq.out.ext HB12.out)
        refine held_c 2 fun K hK => ?_
        go_simp
        skip
        refine hK.out _ _ (⟨HC.out _ (Ext.trans' hHeld.2 (bel1' _ _)), Ext.trans' hHeld.2 (bel1' _ _)⟩) (fun hHeld => ?_)
        clear hK K
        try simp only [Act.put, List.setIfInBounds_toArray, List.set_cons_zero, List.set_cons_succ]
        obtain ⟨wa13, hw13, hb13, hz13, hx13⟩ := box_new wa12 #[.int .i64 0, .int .i64 0, .string ⟨#[]⟩, .slice none 0 0] 46
        rw [hw13] at hHeld ⊢
        have hs13 := hb13.size
        have hl13 := hx13.lt
        have HXq := Lib.hid (HXq.out.ext hb13)
        have HXp := Lib.hid hx13
        clear hw13 hb13 hx13 hz13
        obtain ⟨p0, p1, p2, p3, pf⟩ := HXp.out.four
        have hne : wa12.heap.size ≠ wd.heap.size := by omega
        have hne' : wd.heap.size ≠ wa12.heap.size := by omega
        obtain ⟨q0, q1, q2, q3, qf⟩ := (HXq.out.far4g (c := wa12.heap.size) hne' (.int .i64 k) (.int .i64 n) (.string s) (.slice a m c)).four
        have TD := Lib.hid (cl_done (k := k) (n := n) (s := s) (u := .slice a m c) hne (by omega) (by omega) hHeld.2 HXp.out HXq.out)
        have hS4 := Lib.hid hHeld.2
        refine held_c 4 fun K hK => ?_
        go_simp
        skip
        refine hK.out _ _ (⟨HC.out _ (Below.set4 hS4.out (by omega) _ _ _ _), Below.set4 hS4.out (by omega) _ _ _ _⟩) (fun hHeld => ?_)
        clear hK K
        try simp only [Act.put, List.setIfInBounds_toArray, List.set_cons_zero, List.set_cons_succ]
        refine held_c 5 fun K hK => ?_
        go_simp
        skip
        refine hK.out _ _ (⟨HC.out _ (Below.set4 (Below.set4 hS4.out (by omega) _ _ _ _) (by omega) _ _ _ _), Below.set4 (Below.set4 hS4.out (by omega) _ _ _ _) (by omega) _ _ _ _⟩) (fun hHeld => ?_)
        clear hK K
        try simp only [Act.put, List.setIfInBounds_toArray, List.set_cons_zero, List.set_cons_succ]
        refine wpAnyH_done (by kernel_rfl) ?_ _
        clear hHeld p0 p1 p2 p3 pf q0 q1 q2 q3 qf hS4 c0 c1 c2 c3
        go_wp2
        all_goals go_meet
        exact TD.out
      · go_simp
        skip
        refine hK.out _ _ (⟨HC.out _ (Ext.trans' hHeld.2 (bel1' _ _)), Ext.trans' hHeld.2 (bel1' _ _)⟩) (fun hHeld => ?_)
        clear hK K
        try simp only [Act.put, List.setIfInBounds_toArray, List.set_cons_zero, List.set_cons_succ]
        obtain ⟨wa14, hw14, hb14, hz14, hx14⟩ := box_new wa11 #[.int .i64 0, .int .i64 0, .string ⟨#[]⟩, .slice none 0 0] 46
        rw [hw14] at hHeld ⊢
        have hs14 := hb14.size
        have hl14 := hx14.lt
        have HXq := Lib.hid (HXq.out.ext hb14)
        have HXp := Lib.hid hx14
        clear hw14 hb14 hx14 hz14
        refine held_c 1 fun K hK => ?_
        go_simp
        (go_at_call 39; refine (ratomG_at _ _).mono ?_; rintro e wa15 ⟨rfl, hb15⟩; have HB15 := Lib.hid hb15; have hs15 := hb15.size; clear hb15)
        refine hK.out _ _ (⟨HC.out _ (Ext.trans' hHeld.2 HB15.out), Ext.trans' hHeld.2 HB15.out⟩) (fun hHeld => ?_)
        clear hK K
        try simp only [Act.put, List.setIfInBounds_toArray, List.set_cons_zero, List.set_cons_succ]
        have HXp := Lib.hid (HXp.out.ext HB15.out)
        have HXq := Lib.hid (HXq.out.ext HB15.out)
        obtain ⟨p0, p1, p2, p3, pf⟩ := HXp.out.four
        have hne : wa11.heap.size ≠ wd.heap.size := by omega
        have hne' : wd.heap.size ≠ wa11.heap.size := by omega
        obtain ⟨q0, q1, q2, q3, qf⟩ := (HXq.out.far4g (c := wa11.heap.size) hne' (.int .i64 k) (.int .i64 n) (.string s) (.slice a m c)).four
        have TD := Lib.hid (cl_done (k := k) (n := n) (s := s) (u := .slice a m c) hne (by omega) (by omega) hHeld.2 HXp.out HXq.out)
        have hS4 := Lib.hid hHeld.2
        refine held_c 4 fun K hK => ?_
        go_simp
        skip
        refine hK.out _ _ (⟨HC.out _ (Below.set4 hS4.out (by omega) _ _ _ _), Below.set4 hS4.out (by omega) _ _ _ _⟩) (fun hHeld => ?_)
        clear hK K
        try simp only [Act.put, List.setIfInBounds_toArray, List.set_cons_zero, List.set_cons_succ]
        refine held_c 5 fun K hK => ?_
        go_simp
        skip
        refine hK.out _ _ (⟨HC.out _ (Below.set4 (Below.set4 hS4.out (by omega) _ _ _ _) (by omega) _ _ _ _), Below.set4 (Below.set4 hS4.out (by omega) _ _ _ _) (by omega) _ _ _ _⟩) (fun hHeld => ?_)
        clear hK K
        try simp only [Act.put, List.setIfInBounds_toArray, List.set_cons_zero, List.set_cons_succ]
        refine wpAnyH_done (by kernel_rfl) ?_ _
        clear hHeld p0 p1 p2 p3 pf q0 q1 q2 q3 qf hS4 c0 c1 c2 c3
        go_wp2
        all_goals go_meet
        exact TD.out
  case rest =>
    obtain ⟨p, q, rfl, rfl, hne, hp, hq, hbp, hbq, hbw⟩ := hcut
    have HPQ := Lib.hid (And.intro hne (And.intro hp hq))
    have HB4 := Lib.hid hbw
    have HZ2 := Lib.hid (show w2.heap.size = w.heap.size + 2 by have := HZ.out; omega)
    have HBX4 := Lib.hid (And.intro hbp hbq)
    clear hne hp hq hbp hbq hbw c0 c1 c2 c3
    generalize wc = w4 at *
    obtain ⟨DD, hDD⟩ : ∃ DD : Nat → Bool, (fun k => k == w.heap.size + 1 || k == w.heap.size + 2) = DD := ⟨_, rfl⟩
    have HDD := Lib.hid (show ∀ k, k < w.heap.size → DD k = false from fun k hk => by rw [← hDD]; show (k == w.heap.size + 1 || k == w.heap.size + 2) = false; rw [beq_false_of_ne (by omega : k ≠ w.heap.size + 1), beq_false_of_ne (by omega : k ≠ w.heap.size + 2)]; rfl)
    have HDa := Lib.hid (show DD (w.heap.size + 1) = true from by rw [← hDD]; simp)
    have HDb := Lib.hid (show DD (w.heap.size + 2) = true from by rw [← hDD]; simp)
    clear hDD
    obtain ⟨c0, c1, c2, c3⟩ := HC.out w4 HB4.out
    have C1 := rgood_at t w4 _ (TmV.ext (Ext.trans' HBW.out HB4.out) _ _ HV.out)
    cases hg : goodT t
    · rw [hg] at C1
      have HR := Lib.hid (clause_bad hg)
      clear hg
      (go_wp2_with fail; go_fit (C1); rintro e w5 ⟨rfl, b5⟩)
      have HB5 := Lib.hid (Ext.trans' HB4.out b5)
      obtain ⟨r0, r1, r2, r3, rf⟩ := (HX.out.2.1.ext HB5.out).four
      obtain ⟨z0, z1, z2, z3, zf⟩ := (HX.out.2.2.ext HB5.out).four
      rw [HZ.out.1] at r0 r1 r2 r3 rf
      rw [show w2.heap.size = w.heap.size + 2 by have := HZ.out; omega] at z0 z1 z2 z3 zf
      clear C1 b5 c0 c1 c2 c3
      go_wp2
      refine bodyPost_ret (v := .tuple #[.agg #[.int .i64 0, .int .i64 0, .string ⟨#[]⟩, .slice none 0 0], .agg #[.int .i64 0, .int .i64 0, .string ⟨#[]⟩, .slice none 0 0], .int .i64 1]) (by rw [results_ccT rfl]; go_simp) rfl ?_
      rw [HR.out]
      exact ⟨_, _, rfl, zero_tm _, zero_tm _, Below.set4 (b := w.heap.size + 2) (Below.set4 (b := w.heap.size + 1) (Ext.trans' HBW.out HB5.out) (by omega) _ _ _ _) (by omega) _ _ _ _⟩
    · rw [hg] at C1
      have HG := Lib.hid hg
      clear hg
      (go_wp2_with fail; go_fit (C1); rintro e w5 ⟨rfl, b5⟩)
      have HB5 := Lib.hid (Ext.trans' HB4.out b5)
      have HBX5 := Lib.hid (And.intro (HBX4.out.1.ext b5) (HBX4.out.2.ext b5))
      clear C1 b5 c0 c1 c2 c3
      obtain ⟨c0, c1, c2, c3⟩ := HC.out w5 HB5.out
      have C1 := ris_at (TmV.ext (Ext.trans' HBW.out HB5.out) _ _ HV.out) neckS 2
      obtain ⟨bn, hbn⟩ : ∃ b, isT t neckS 2 = b := ⟨_, rfl⟩
      have HBN := Lib.hid hbn
      rw [hbn] at C1
      clear hbn
      (go_wp2_with fail; go_fit (C1); rintro e w6 ⟨rfl, b6⟩)
      have HB6 := Lib.hid (Ext.trans' HB5.out b6)
      have HBX6 := Lib.hid (And.intro (HBX5.out.1.ext b6) (HBX5.out.2.ext b6))
      clear C1 b6 c0 c1 c2 c3
      cases bn
      · have HH := Lib.hid (show headT t = (t, nameT trueS []) from by unfold headT; rw [if_neg (by rw [HBN.out]; simp)])
        have HTT := Lib.hid (And.intro (TmV.ext (Ext.trans' HBW.out HB6.out) _ _ HV.out) (show TmV w6 (nameT trueS []) (.agg #[.int .i64 2, .int .i64 0, .string trueS, .slice none 0 0]) from leaf_tm _ (i64_of 2 (by omega) (by omega)) i64_0 (by unfold BIG; decide)))
        have HFR := Lib.hid (fun (D : Nat → Bool) (wz : World) (hD : ∀ k, k < w.heap.size → D k = false) (hb : Below w.heap.size w wz) => (show TmV (hide D wz) t (.agg #[.int .i64 k, .int .i64 n, .string s, .slice a m c]) ∧ TmV (hide D wz) (nameT trueS []) (.agg #[.int .i64 2, .int .i64 0, .string trueS, .slice none 0 0]) from ⟨old_read HV.out hD hb, leaf_tm _ (i64_of 2 (by omega) (by omega)) i64_0 (by unfold BIG; decide)⟩))
        have HSR := Lib.hid (show sizeN (nameT trueS []) ≤ 2000 from by show 1 ≤ 2000; omega)
        have HHK := Lib.hid (tm_k HTT.out.1)
        obtain ⟨p0, p1, p2, p3, _⟩ := HBX6.out.1.four
        by_cases e0 : k = 0
        · have HR := Lib.hid (show clauseE t = (zeroT, zeroT, 6) by rw [clause_good HG.out HH.out, if_pos (by rw [HHK.out]; exact e0)])
          have e0b : (k == 0) = true := by simpa using e0
          clear e0
          obtain ⟨r0, r1, r2, r3, rf⟩ := (HX.out.2.1.ext HB6.out).four
          obtain ⟨z0, z1, z2, z3, zf⟩ := (HX.out.2.2.ext HB6.out).four
          rw [HZ.out.1] at r0 r1 r2 r3 rf
          rw [HZ2.out] at z0 z1 z2 z3 zf
          have HBE := Lib.hid (Ext.trans' HBW.out HB6.out)
          go_wp2
          refine bodyPost_ret (v := .tuple #[.agg #[.int .i64 0, .int .i64 0, .string ⟨#[]⟩, .slice none 0 0], .agg #[.int .i64 0, .int .i64 0, .string ⟨#[]⟩, .slice none 0 0], .int .i64 6]) (by rw [results_ccT rfl]; go_simp) rfl ?_
          rw [HR.out]
          exact ⟨_, _, rfl, zero_tm _, zero_tm _, Below.set4 (b := w.heap.size + 2) (Below.set4 (b := w.heap.size + 1) HBE.out (by omega) _ _ _ _) (by omega) _ _ _ _⟩
        have e0b : (k == 0) = false := beq_false_of_ne e0
        by_cases e1 : k = 1
        · have HR := Lib.hid (show clauseE t = (zeroT, zeroT, 5) by rw [clause_good HG.out HH.out, if_neg (by rw [HHK.out]; exact e0), if_pos (by rw [HHK.out]; exact e1)])
          have e1b : (k == 1) = true := by simpa using e1
          clear e0 e1
          obtain ⟨r0, r1, r2, r3, rf⟩ := (HX.out.2.1.ext HB6.out).four
          obtain ⟨z0, z1, z2, z3, zf⟩ := (HX.out.2.2.ext HB6.out).four
          rw [HZ.out.1] at r0 r1 r2 r3 rf
          rw [HZ2.out] at z0 z1 z2 z3 zf
          have HBE := Lib.hid (Ext.trans' HBW.out HB6.out)
          go_wp2
          refine bodyPost_ret (v := .tuple #[.agg #[.int .i64 0, .int .i64 0, .string ⟨#[]⟩, .slice none 0 0], .agg #[.int .i64 0, .int .i64 0, .string ⟨#[]⟩, .slice none 0 0], .int .i64 5]) (by rw [results_ccT rfl]; go_simp) rfl ?_
          rw [HR.out]
          exact ⟨_, _, rfl, zero_tm _, zero_tm _, Below.set4 (b := w.heap.size + 2) (Below.set4 (b := w.heap.size + 1) HBE.out (by omega) _ _ _ _) (by omega) _ _ _ _⟩
        have e1b : (k == 1) = false := beq_false_of_ne e1
        have HKN := Lib.hid (show clauseE t = if heldT t = true then (zeroT, zeroT, 8) else if (ofB (nameT trueS [])).isSome = true then (t, (nameT trueS []), 0) else (zeroT, zeroT, 5) by rw [clause_good HG.out HH.out, if_neg (by rw [HHK.out]; exact e0), if_neg (by rw [HHK.out]; exact e1)])
        have IS := Lib.hid (fun (wq : World) (hq : Below w6.heap.size w6 wq) (s' : ByteArray) (m' : Nat) => ris_at (TmV.ext hq _ _ HTT.out.1) s' m')
        have HQ0 := Lib.hid (Below.refl w6.heap.size w6)
        clear e0 e1
        have C1 := IS.out w6 HQ0.out neckS 2
        obtain ⟨bb, hbb⟩ : ∃ b, isT t neckS 2 = b := ⟨_, rfl⟩
        have HD0 := Lib.hid hbb
        rw [hbb] at C1
        clear hbb
        (go_wp2_with fail; go_fit (C1); rintro e w7 ⟨rfl, b7⟩)
        have HQ1 := Lib.hid (Ext.trans' HQ0.out b7)
        clear C1 b7 p0 p1 p2 p3 e0b e1b
        obtain ⟨p0, p1, p2, p3, _⟩ := (HBX6.out.1.ext HQ1.out).four
        cases bb
        rotate_left
        · have HR := Lib.hid (show clauseE t = (zeroT, zeroT, 8) by rw [HKN.out, if_pos (by unfold heldT; rw [HD0.out]; simp)])
          have HBN2 := Lib.hid (Ext.trans' HB6.out HQ1.out)
          obtain ⟨r0, r1, r2, r3, rf⟩ := (HX.out.2.1.ext HBN2.out).four
          obtain ⟨z0, z1, z2, z3, zf⟩ := (HX.out.2.2.ext HBN2.out).four
          rw [HZ.out.1] at r0 r1 r2 r3 rf
          rw [HZ2.out] at z0 z1 z2 z3 zf
          have HBE := Lib.hid (Ext.trans' HBW.out HBN2.out)
          go_wp2
          refine bodyPost_ret (v := .tuple #[.agg #[.int .i64 0, .int .i64 0, .string ⟨#[]⟩, .slice none 0 0], .agg #[.int .i64 0, .int .i64 0, .string ⟨#[]⟩, .slice none 0 0], .int .i64 8]) (by rw [results_ccT rfl]; go_simp) rfl ?_
          rw [HR.out]
          exact ⟨_, _, rfl, zero_tm _, zero_tm _, Below.set4 (b := w.heap.size + 2) (Below.set4 (b := w.heap.size + 1) HBE.out (by omega) _ _ _ _) (by omega) _ _ _ _⟩
        have C1 := IS.out w7 HQ1.out commaS 2
        obtain ⟨bb, hbb⟩ : ∃ b, isT t commaS 2 = b := ⟨_, rfl⟩
        have HD1 := Lib.hid hbb
        rw [hbb] at C1
        clear hbb
        (go_wp2_with fail; go_fit (C1); rintro e w8 ⟨rfl, b7⟩)
        have HQ2 := Lib.hid (Ext.trans' HQ1.out b7)
        clear C1 b7 p0 p1 p2 p3
        obtain ⟨p0, p1, p2, p3, _⟩ := (HBX6.out.1.ext HQ2.out).four
        cases bb
        rotate_left
        · have HR := Lib.hid (show clauseE t = (zeroT, zeroT, 8) by rw [HKN.out, if_pos (by unfold heldT; rw [HD1.out]; simp)])
          have HBN2 := Lib.hid (Ext.trans' HB6.out HQ2.out)
          obtain ⟨r0, r1, r2, r3, rf⟩ := (HX.out.2.1.ext HBN2.out).four
          obtain ⟨z0, z1, z2, z3, zf⟩ := (HX.out.2.2.ext HBN2.out).four
          rw [HZ.out.1] at r0 r1 r2 r3 rf
          rw [HZ2.out] at z0 z1 z2 z3 zf
          have HBE := Lib.hid (Ext.trans' HBW.out HBN2.out)
          go_wp2
          refine bodyPost_ret (v := .tuple #[.agg #[.int .i64 0, .int .i64 0, .string ⟨#[]⟩, .slice none 0 0], .agg #[.int .i64 0, .int .i64 0, .string ⟨#[]⟩, .slice none 0 0], .int .i64 8]) (by rw [results_ccT rfl]; go_simp) rfl ?_
          rw [HR.out]
          exact ⟨_, _, rfl, zero_tm _, zero_tm _, Below.set4 (b := w.heap.size + 2) (Below.set4 (b := w.heap.size + 1) HBE.out (by omega) _ _ _ _) (by omega) _ _ _ _⟩
        have C1 := IS.out w8 HQ2.out semiS 2
        obtain ⟨bb, hbb⟩ : ∃ b, isT t semiS 2 = b := ⟨_, rfl⟩
        have HD2 := Lib.hid hbb
        rw [hbb] at C1
        clear hbb
        (go_wp2_with fail; go_fit (C1); rintro e w9 ⟨rfl, b7⟩)
        have HQ3 := Lib.hid (Ext.trans' HQ2.out b7)
        clear C1 b7 p0 p1 p2 p3
        obtain ⟨p0, p1, p2, p3, _⟩ := (HBX6.out.1.ext HQ3.out).four
        cases bb
        rotate_left
        · have HR := Lib.hid (show clauseE t = (zeroT, zeroT, 8) by rw [HKN.out, if_pos (by unfold heldT; rw [HD2.out]; simp)])
          have HBN2 := Lib.hid (Ext.trans' HB6.out HQ3.out)
          obtain ⟨r0, r1, r2, r3, rf⟩ := (HX.out.2.1.ext HBN2.out).four
          obtain ⟨z0, z1, z2, z3, zf⟩ := (HX.out.2.2.ext HBN2.out).four
          rw [HZ.out.1] at r0 r1 r2 r3 rf
          rw [HZ2.out] at z0 z1 z2 z3 zf
          have HBE := Lib.hid (Ext.trans' HBW.out HBN2.out)
          go_wp2
          refine bodyPost_ret (v := .tuple #[.agg #[.int .i64 0, .int .i64 0, .string ⟨#[]⟩, .slice none 0 0], .agg #[.int .i64 0, .int .i64 0, .string ⟨#[]⟩, .slice none 0 0], .int .i64 8]) (by rw [results_ccT rfl]; go_simp) rfl ?_
          rw [HR.out]
          exact ⟨_, _, rfl, zero_tm _, zero_tm _, Below.set4 (b := w.heap.size + 2) (Below.set4 (b := w.heap.size + 1) HBE.out (by omega) _ _ _ _) (by omega) _ _ _ _⟩
        have C1 := IS.out w9 HQ3.out arrowS 2
        obtain ⟨bb, hbb⟩ : ∃ b, isT t arrowS 2 = b := ⟨_, rfl⟩
        have HD3 := Lib.hid hbb
        rw [hbb] at C1
        clear hbb
        (go_wp2_with fail; go_fit (C1); rintro e w10 ⟨rfl, b7⟩)
        have HQ4 := Lib.hid (Ext.trans' HQ3.out b7)
        clear C1 b7 p0 p1 p2 p3
        obtain ⟨p0, p1, p2, p3, _⟩ := (HBX6.out.1.ext HQ4.out).four
        cases bb
        rotate_left
        · have HR := Lib.hid (show clauseE t = (zeroT, zeroT, 8) by rw [HKN.out, if_pos (by unfold heldT; rw [HD3.out]; simp)])
          have HBN2 := Lib.hid (Ext.trans' HB6.out HQ4.out)
          obtain ⟨r0, r1, r2, r3, rf⟩ := (HX.out.2.1.ext HBN2.out).four
          obtain ⟨z0, z1, z2, z3, zf⟩ := (HX.out.2.2.ext HBN2.out).four
          rw [HZ.out.1] at r0 r1 r2 r3 rf
          rw [HZ2.out] at z0 z1 z2 z3 zf
          have HBE := Lib.hid (Ext.trans' HBW.out HBN2.out)
          go_wp2
          refine bodyPost_ret (v := .tuple #[.agg #[.int .i64 0, .int .i64 0, .string ⟨#[]⟩, .slice none 0 0], .agg #[.int .i64 0, .int .i64 0, .string ⟨#[]⟩, .slice none 0 0], .int .i64 8]) (by rw [results_ccT rfl]; go_simp) rfl ?_
          rw [HR.out]
          exact ⟨_, _, rfl, zero_tm _, zero_tm _, Below.set4 (b := w.heap.size + 2) (Below.set4 (b := w.heap.size + 1) HBE.out (by omega) _ _ _ _) (by omega) _ _ _ _⟩
        have C1 := IS.out w10 HQ4.out negS 1
        obtain ⟨bb, hbb⟩ : ∃ b, isT t negS 1 = b := ⟨_, rfl⟩
        have HD4 := Lib.hid hbb
        rw [hbb] at C1
        clear hbb
        (go_wp2_with fail; go_fit (C1); rintro e w11 ⟨rfl, b7⟩)
        have HQ5 := Lib.hid (Ext.trans' HQ4.out b7)
        clear C1 b7 p0 p1 p2 p3
        obtain ⟨p0, p1, p2, p3, _⟩ := (HBX6.out.1.ext HQ5.out).four
        cases bb
        rotate_left
        · have HR := Lib.hid (show clauseE t = (zeroT, zeroT, 8) by rw [HKN.out, if_pos (by unfold heldT; rw [HD4.out]; simp)])
          have HBN2 := Lib.hid (Ext.trans' HB6.out HQ5.out)
          obtain ⟨r0, r1, r2, r3, rf⟩ := (HX.out.2.1.ext HBN2.out).four
          obtain ⟨z0, z1, z2, z3, zf⟩ := (HX.out.2.2.ext HBN2.out).four
          rw [HZ.out.1] at r0 r1 r2 r3 rf
          rw [HZ2.out] at z0 z1 z2 z3 zf
          have HBE := Lib.hid (Ext.trans' HBW.out HBN2.out)
          go_wp2
          refine bodyPost_ret (v := .tuple #[.agg #[.int .i64 0, .int .i64 0, .string ⟨#[]⟩, .slice none 0 0], .agg #[.int .i64 0, .int .i64 0, .string ⟨#[]⟩, .slice none 0 0], .int .i64 8]) (by rw [results_ccT rfl]; go_simp) rfl ?_
          rw [HR.out]
          exact ⟨_, _, rfl, zero_tm _, zero_tm _, Below.set4 (b := w.heap.size + 2) (Below.set4 (b := w.heap.size + 1) HBE.out (by omega) _ _ _ _) (by omega) _ _ _ _⟩
        have C1 := IS.out w11 HQ5.out bangS 0
        obtain ⟨bb, hbb⟩ : ∃ b, isT t bangS 0 = b := ⟨_, rfl⟩
        have HD5 := Lib.hid hbb
        rw [hbb] at C1
        clear hbb
        (go_wp2_with fail; go_fit (C1); rintro e w12 ⟨rfl, b7⟩)
        have HQ6 := Lib.hid (Ext.trans' HQ5.out b7)
        clear C1 b7 p0 p1 p2 p3
        obtain ⟨p0, p1, p2, p3, _⟩ := (HBX6.out.1.ext HQ6.out).four
        cases bb
        rotate_left
        · have HR := Lib.hid (show clauseE t = (zeroT, zeroT, 8) by rw [HKN.out, if_pos (by unfold heldT; rw [HD5.out]; simp)])
          have HBN2 := Lib.hid (Ext.trans' HB6.out HQ6.out)
          obtain ⟨r0, r1, r2, r3, rf⟩ := (HX.out.2.1.ext HBN2.out).four
          obtain ⟨z0, z1, z2, z3, zf⟩ := (HX.out.2.2.ext HBN2.out).four
          rw [HZ.out.1] at r0 r1 r2 r3 rf
          rw [HZ2.out] at z0 z1 z2 z3 zf
          have HBE := Lib.hid (Ext.trans' HBW.out HBN2.out)
          go_wp2
          refine bodyPost_ret (v := .tuple #[.agg #[.int .i64 0, .int .i64 0, .string ⟨#[]⟩, .slice none 0 0], .agg #[.int .i64 0, .int .i64 0, .string ⟨#[]⟩, .slice none 0 0], .int .i64 8]) (by rw [results_ccT rfl]; go_simp) rfl ?_
          rw [HR.out]
          exact ⟨_, _, rfl, zero_tm _, zero_tm _, Below.set4 (b := w.heap.size + 2) (Below.set4 (b := w.heap.size + 1) HBE.out (by omega) _ _ _ _) (by omega) _ _ _ _⟩
        have C1 := IS.out w12 HQ6.out trueS 0
        obtain ⟨bb, hbb⟩ : ∃ b, isT t trueS 0 = b := ⟨_, rfl⟩
        have HD6 := Lib.hid hbb
        rw [hbb] at C1
        clear hbb
        (go_wp2_with fail; go_fit (C1); rintro e w13 ⟨rfl, b7⟩)
        have HQ7 := Lib.hid (Ext.trans' HQ6.out b7)
        clear C1 b7 p0 p1 p2 p3
        obtain ⟨p0, p1, p2, p3, _⟩ := (HBX6.out.1.ext HQ7.out).four
        cases bb
        rotate_left
        · have HR := Lib.hid (show clauseE t = (zeroT, zeroT, 8) by rw [HKN.out, if_pos (by unfold heldT; rw [HD6.out]; simp)])
          have HBN2 := Lib.hid (Ext.trans' HB6.out HQ7.out)
          obtain ⟨r0, r1, r2, r3, rf⟩ := (HX.out.2.1.ext HBN2.out).four
          obtain ⟨z0, z1, z2, z3, zf⟩ := (HX.out.2.2.ext HBN2.out).four
          rw [HZ.out.1] at r0 r1 r2 r3 rf
          rw [HZ2.out] at z0 z1 z2 z3 zf
          have HBE := Lib.hid (Ext.trans' HBW.out HBN2.out)
          go_wp2
          refine bodyPost_ret (v := .tuple #[.agg #[.int .i64 0, .int .i64 0, .string ⟨#[]⟩, .slice none 0 0], .agg #[.int .i64 0, .int .i64 0, .string ⟨#[]⟩, .slice none 0 0], .int .i64 8]) (by rw [results_ccT rfl]; go_simp) rfl ?_
          rw [HR.out]
          exact ⟨_, _, rfl, zero_tm _, zero_tm _, Below.set4 (b := w.heap.size + 2) (Below.set4 (b := w.heap.size + 1) HBE.out (by omega) _ _ _ _) (by omega) _ _ _ _⟩
        have C1 := IS.out w13 HQ7.out failS 0
        obtain ⟨bb, hbb⟩ : ∃ b, isT t failS 0 = b := ⟨_, rfl⟩
        have HD7 := Lib.hid hbb
        rw [hbb] at C1
        clear hbb
        (go_wp2_with fail; go_fit (C1); rintro e w14 ⟨rfl, b7⟩)
        have HQ8 := Lib.hid (Ext.trans' HQ7.out b7)
        clear C1 b7 p0 p1 p2 p3
        obtain ⟨p0, p1, p2, p3, _⟩ := (HBX6.out.1.ext HQ8.out).four
        cases bb
        rotate_left
        · have HR := Lib.hid (show clauseE t = (zeroT, zeroT, 8) by rw [HKN.out, if_pos (by unfold heldT; rw [HD7.out]; simp)])
          have HBN2 := Lib.hid (Ext.trans' HB6.out HQ8.out)
          obtain ⟨r0, r1, r2, r3, rf⟩ := (HX.out.2.1.ext HBN2.out).four
          obtain ⟨z0, z1, z2, z3, zf⟩ := (HX.out.2.2.ext HBN2.out).four
          rw [HZ.out.1] at r0 r1 r2 r3 rf
          rw [HZ2.out] at z0 z1 z2 z3 zf
          have HBE := Lib.hid (Ext.trans' HBW.out HBN2.out)
          go_wp2
          refine bodyPost_ret (v := .tuple #[.agg #[.int .i64 0, .int .i64 0, .string ⟨#[]⟩, .slice none 0 0], .agg #[.int .i64 0, .int .i64 0, .string ⟨#[]⟩, .slice none 0 0], .int .i64 8]) (by rw [results_ccT rfl]; go_simp) rfl ?_
          rw [HR.out]
          exact ⟨_, _, rfl, zero_tm _, zero_tm _, Below.set4 (b := w.heap.size + 2) (Below.set4 (b := w.heap.size + 1) HBE.out (by omega) _ _ _ _) (by omega) _ _ _ _⟩
        have HHF := Lib.hid (show heldT t = false from by unfold heldT; rw [HD0.out, HD1.out, HD2.out, HD3.out, HD4.out, HD5.out, HD6.out, HD7.out]; rfl)
        obtain ⟨q0, q1, q2, q3, _⟩ := (HBX6.out.2.ext HQ8.out).four
        have C1 := rof_plain HSR.out w14 _ (TmV.ext HQ8.out _ _ HTT.out.2)
        obtain ⟨o, ho⟩ : ∃ o, ofB (nameT trueS []) = o := ⟨_, rfl⟩
        have HO := Lib.hid ho
        rw [ho] at C1
        clear ho
        (go_wp2_with fail; go_fit (C1); rintro e w20 ⟨⟨g, rfl⟩, b7⟩)
        have HQ9 := Lib.hid (Ext.trans' HQ8.out b7)
        have HBN2 := Lib.hid (Ext.trans' HB6.out HQ9.out)
        clear C1 b7 p0 p1 p2 p3 q0 q1 q2 q3
        cases o with
        | none =>
          have her : erO none = 5 := rfl
          rw [her]
          have HR := Lib.hid (show clauseE t = (zeroT, zeroT, 5) by rw [HKN.out, if_neg (by rw [HHF.out]; simp), HO.out]; rfl)
          obtain ⟨r0, r1, r2, r3, rf⟩ := (HX.out.2.1.ext HBN2.out).four
          obtain ⟨z0, z1, z2, z3, zf⟩ := (HX.out.2.2.ext HBN2.out).four
          rw [HZ.out.1] at r0 r1 r2 r3 rf
          rw [HZ2.out] at z0 z1 z2 z3 zf
          have HBE := Lib.hid (Ext.trans' HBW.out HBN2.out)
          go_wp2
          refine bodyPost_ret (v := .tuple #[.agg #[.int .i64 0, .int .i64 0, .string ⟨#[]⟩, .slice none 0 0], .agg #[.int .i64 0, .int .i64 0, .string ⟨#[]⟩, .slice none 0 0], .int .i64 5]) (by rw [results_ccT rfl]; go_simp) rfl ?_
          rw [HR.out]
          exact ⟨_, _, rfl, zero_tm _, zero_tm _, Below.set4 (b := w.heap.size + 2) (Below.set4 (b := w.heap.size + 1) HBE.out (by omega) _ _ _ _) (by omega) _ _ _ _⟩
        | some l =>
          have her : erO (some l) = 0 := rfl
          rw [her]
          have HR := Lib.hid (show clauseE t = (t, (nameT trueS []), 0) by rw [HKN.out, if_neg (by rw [HHF.out]; simp), HO.out]; rfl)
          obtain ⟨p0, p1, p2, p3, _⟩ := (HBX6.out.1.ext HQ9.out).four
          obtain ⟨q0, q1, q2, q3, _⟩ := (HBX6.out.2.ext HQ9.out).four
          have HNE := Lib.hid (show p ≠ w.heap.size + 1 ∧ p ≠ w.heap.size + 2 ∧ q ≠ w.heap.size + 1 ∧ q ≠ w.heap.size + 2 by have h1 := HPQ.out.2.1; have h2 := HPQ.out.2.2; have h3 := HZ2.out; have h4 := HX.out.2.2.lt; omega)
          go_wp2_with fail
          refine wp_region_held_drew (S := fun w' => ((w'.cell? ⟨p, 0, none⟩ = some (.int .i64 k) ∧ w'.cell? ⟨p, 1, none⟩ = some (.int .i64 n) ∧ w'.cell? ⟨p, 2, none⟩ = some (.string s) ∧ w'.cell? ⟨p, 3, none⟩ = some (.slice a m c)) ∧ (w'.cell? ⟨q, 0, none⟩ = some (.int .i64 2) ∧ w'.cell? ⟨q, 1, none⟩ = some (.int .i64 0) ∧ w'.cell? ⟨q, 2, none⟩ = some (.string trueS) ∧ w'.cell? ⟨q, 3, none⟩ = some (.slice none 0 0))) ∧ True) (by kernel_rfl) (⟨⟨⟨p0, p1, p2, p3⟩, q0, q1, q2, q3⟩, trivial⟩) (fun hHeld => ?_)
          first | (refine held_t (i := 0) hHeld ?_; apply Exists.intro; refine ⟨fun wq hq => ?_, ?_⟩; (focus ((try dsimp only at hq); go_simp; (first | done | with_reducible rfl | fail)))) | refine held_s (i := 0) hHeld ?_ | fail
          first | (refine held_t (i := 1) hHeld ?_; apply Exists.intro; refine ⟨fun wq hq => ?_, ?_⟩; (focus ((try dsimp only at hq); go_simp; (first | done | with_reducible rfl | fail)))) | refine held_s (i := 1) hHeld ?_ | fail
          try simp only [Act.put, List.setIfInBounds_toArray, List.set_cons_zero, List.set_cons_succ]
          refine held_c 2 fun K hK => ?_
          (obtain ⟨wd, hwd⟩ : ∃ wd, w20.drew = wd := ⟨_, rfl⟩; rw [hwd] at hHeld ⊢; have hbd : Below w20.heap.size w20 wd := (by rw [← hwd]; exact (Below.refl _ _).drew); have HBD := Lib.hid (And.intro (Ext.trans' HBN2.out hbd) (Ext.trans' HQ9.out hbd)); obtain ⟨r0, r1, r2, r3, rf⟩ := (HX.out.2.1.ext HBD.out.1).four; rw [HZ.out.1] at r0 r1 r2 r3 rf; go_simp)
          refine hK.out _ _ (⟨⟨Box.cells4 ((HBX6.out.1.ext HBD.out.2).far4g HNE.out.1 _ _ _ _), Box.cells4 ((HBX6.out.2.ext HBD.out.2).far4g HNE.out.2.2.1 _ _ _ _)⟩, trivial⟩) (fun hHeld => ?_)
          clear hK K
          try simp only [Act.put, List.setIfInBounds_toArray, List.set_cons_zero, List.set_cons_succ]
          refine held_c 3 fun K hK => ?_
          (have hx3 := (HX.out.2.2.ext HBD.out.1); rw [HZ2.out] at hx3; obtain ⟨z0, z1, z2, z3, zf⟩ := (hx3.far4g (c := w.heap.size + 1) (by omega) (.int .i64 k) (.int .i64 n) (.string s) (.slice a m c)).four; go_simp)
          refine hK.out _ _ (⟨⟨Box.cells4 (((HBX6.out.1.ext HBD.out.2).far4g HNE.out.1 _ _ _ _).far4g HNE.out.2.1 _ _ _ _), Box.cells4 (((HBX6.out.2.ext HBD.out.2).far4g HNE.out.2.2.1 _ _ _ _).far4g HNE.out.2.2.2 _ _ _ _)⟩, trivial⟩) (fun hHeld => ?_)
          clear hK K
          try simp only [Act.put, List.setIfInBounds_toArray, List.set_cons_zero, List.set_cons_succ]
          first | (refine held_t (i := 4) hHeld ?_; apply Exists.intro; refine ⟨fun wq hq => ?_, ?_⟩; (focus ((try dsimp only at hq); go_simp; (first | done | with_reducible rfl | fail)))) | refine held_s (i := 4) hHeld ?_ | fail
          try simp only [Act.put, List.setIfInBounds_toArray, List.set_cons_zero, List.set_cons_succ]
          refine wpAnyH_done (by kernel_rfl) ?_ _
          clear hHeld p0 p1 p2 p3 q0 q1 q2 q3
          go_wp2
          refine bodyPost_ret (v := .tuple #[.agg #[.int .i64 k, .int .i64 n, .string s, .slice a m c], .agg #[.int .i64 2, .int .i64 0, .string trueS, .slice none 0 0], .int .i64 0]) (by rw [results_ccT rfl]; go_simp) rfl ?_
          rw [HR.out]
          refine ⟨_, _, rfl, ?_, ?_, Below.set4 (b := w.heap.size + 2) (Below.set4 (b := w.heap.size + 1) (Ext.trans' HBW.out HBD.out.1) (by omega) _ _ _ _) (by omega) _ _ _ _⟩
          · exact TmV.stay (Stays.unhide _ _) _ _ ((((HFR.out DD _ HDD.out (Ext.trans' HBW.out HBD.out.1)).1.put4 (b := w.heap.size + 1) HDa.out _ _ _ _).put4 (b := w.heap.size + 2) HDb.out _ _ _ _))
          · exact TmV.stay (Stays.unhide _ _) _ _ ((((HFR.out DD _ HDD.out (Ext.trans' HBW.out HBD.out.1)).2.put4 (b := w.heap.size + 1) HDa.out _ _ _ _).put4 (b := w.heap.size + 2) HDb.out _ _ _ _))
      · have hlen := isT_iff.1 HBN.out
        obtain ⟨x, y, hxy⟩ := two_args hlen.2.2
        have HH := Lib.hid (show headT t = (x, y) from by
          unfold headT
          rw [if_pos HBN.out]
          obtain ⟨tk, tn, ts, ta⟩ := t
          cases (show ta = [x, y] from hxy)
          rfl)
        obtain ⟨u', eu, _, _, _, hu⟩ := tmV_iff.1 (show TmV w (.mk t.k t.n t.s t.args) (.agg #[.int .i64 k, .int .i64 n, .string s, .slice a m c]) from by have h := HV.out; cases t; exact h)
        obtain ⟨_, _, _, rfl⟩ : _ ∧ _ ∧ _ ∧ Value.slice a m c = u' := by
          have h3 := congrArg Array.toList (Value.agg.inj eu)
          simp only [List.cons.injEq, and_true] at h3
          exact h3
        rw [hxy] at hu
        obtain rfl : m = 2 := by obtain ⟨_, _, e, _⟩ := hu.len; cases e; rfl
        have hu0 : Tms (hide (fun _ => false) w) (.slice a 2 c) [x, y] := by rw [hide_none]; exact hu
        obtain ⟨b, off, k1, n1, s1, a1, m1, c1, k2, n2, s2, a2, m2, c2, rfl, d0, d1, d2, d3, f0, f1, f2, f3, ht1, ht2, _⟩ := args_two hu0
        rw [hide_none] at ht1 ht2
        have HTW := Lib.hid (And.intro ht1 ht2)
        have HCA := Lib.hid (fun (wx : World) (hb : Below w.heap.size w wx) => (show wx.cell? ⟨b, off, none⟩ = some (.int .i64 k1) ∧ wx.cell? ⟨b, off + 1, none⟩ = some (.int .i64 n1) ∧ wx.cell? ⟨b, off + 2, none⟩ = some (.string s1) ∧ wx.cell? ⟨b, off + 3, none⟩ = some (.slice a1 m1 c1) ∧ wx.cell? ⟨b, off + 4, none⟩ = some (.int .i64 k2) ∧ wx.cell? ⟨b, off + 4 + 1, none⟩ = some (.int .i64 n2) ∧ wx.cell? ⟨b, off + 4 + 2, none⟩ = some (.string s2) ∧ wx.cell? ⟨b, off + 4 + 3, none⟩ = some (.slice a2 m2 c2) from ⟨cell_later hb d0, cell_later hb d1, cell_later hb d2, cell_later hb d3, cell_later hb f0, cell_later hb f1, cell_later hb f2, cell_later hb f3⟩))
        have HBLT := Lib.hid (World.block_lt_of_cell? _ _ d0)
        have HSR := Lib.hid (show sizeN y ≤ 2000 from by
          have h1 := (good_parts HG.out).1
          have h2 := size_args hxy
          rw [sizesN, sizesN, sizesN] at h2
          omega)
        have HFR := Lib.hid (fun (D : Nat → Bool) (wz : World) (hD : ∀ k, k < w.heap.size → D k = false) (hb : Below w.heap.size w wz) => (show TmV (hide D wz) x (.agg #[.int .i64 k1, .int .i64 n1, .string s1, .slice a1 m1 c1]) ∧ TmV (hide D wz) y (.agg #[.int .i64 k2, .int .i64 n2, .string s2, .slice a2 m2 c2]) from ⟨old_read HTW.out.1 hD hb, old_read HTW.out.2 hD hb⟩))
        clear hlen hxy eu hu hu0 ht1 ht2 d0 d1 d2 d3 f0 f1 f2 f3
        obtain ⟨c0, c1', c2', c3⟩ := HC.out w6 HB6.out
        obtain ⟨d0, d1, d2, d3, f0, f1, f2, f3⟩ := HCA.out w6 (Ext.trans' HBW.out HB6.out)
        have HNP := Lib.hid (show w.heap.size ≠ p ∧ b ≠ p ∧ w.heap.size ≠ q ∧ b ≠ q by have h1 := HPQ.out.2.1; have h2 := HPQ.out.2.2; have h3 := HBLT.out; have h4 := HX.out.2.2.lt; have h5 := HZ2.out; dsimp only at h3; omega)
        go_wp2_with fail
        refine wp_region_held_drew (S := fun w' => (w'.cell? ⟨w.heap.size, 3, none⟩ = some (.slice (some ⟨b, off, none⟩) 2 c) ∧ w'.cell? ⟨b, off, none⟩ = some (.int .i64 k1) ∧ w'.cell? ⟨b, off + 1, none⟩ = some (.int .i64 n1) ∧ w'.cell? ⟨b, off + 2, none⟩ = some (.string s1) ∧ w'.cell? ⟨b, off + 3, none⟩ = some (.slice a1 m1 c1) ∧ w'.cell? ⟨b, off + 4, none⟩ = some (.int .i64 k2) ∧ w'.cell? ⟨b, off + 4 + 1, none⟩ = some (.int .i64 n2) ∧ w'.cell? ⟨b, off + 4 + 2, none⟩ = some (.string s2) ∧ w'.cell? ⟨b, off + 4 + 3, none⟩ = some (.slice a2 m2 c2)) ∧ True) (by kernel_rfl) (⟨⟨c3, d0, d1, d2, d3, f0, f1, f2, f3⟩, trivial⟩) (fun hHeld => ?_)
        first | (refine held_t (i := 0) hHeld ?_; apply Exists.intro; refine ⟨fun wq hq => ?_, ?_⟩; (focus ((try dsimp only at hq); go_simp; (first | done | with_reducible rfl | fail)))) | refine held_s (i := 0) hHeld ?_ | fail
        first | (refine held_t (i := 1) hHeld ?_; apply Exists.intro; refine ⟨fun wq hq => ?_, ?_⟩; (focus ((try dsimp only at hq); go_simp; (first | done | with_reducible rfl | fail)))) | refine held_s (i := 1) hHeld ?_ | fail
        first | (refine held_t (i := 2) hHeld ?_; apply Exists.intro; refine ⟨fun wq hq => ?_, ?_⟩; (focus ((try dsimp only at hq); go_simp; (first | done | with_reducible rfl | fail)))) | refine held_s (i := 2) hHeld ?_ | fail
        first | (refine held_t (i := 3) hHeld ?_; apply Exists.intro; refine ⟨fun wq hq => ?_, ?_⟩; (focus ((try dsimp only at hq); go_simp; (first | done | with_reducible rfl | fail)))) | refine held_s (i := 3) hHeld ?_ | fail
        first | (refine held_t (i := 4) hHeld ?_; apply Exists.intro; refine ⟨fun wq hq => ?_, ?_⟩; (focus ((try dsimp only at hq); go_simp; (first | done | with_reducible rfl | fail)))) | refine held_s (i := 4) hHeld ?_ | fail
        first | (refine held_t (i := 5) hHeld ?_; apply Exists.intro; refine ⟨fun wq hq => ?_, ?_⟩; (focus ((try dsimp only at hq); go_simp; (first | done | with_reducible rfl | fail)))) | refine held_s (i := 5) hHeld ?_ | fail
        first | (refine held_t (i := 6) hHeld ?_; apply Exists.intro; refine ⟨fun wq hq => ?_, ?_⟩; (focus ((try dsimp only at hq); go_simp; (first | done | with_reducible rfl | fail)))) | refine held_s (i := 6) hHeld ?_ | fail
        first | (refine held_t (i := 7) hHeld ?_; apply Exists.intro; refine ⟨fun wq hq => ?_, ?_⟩; (focus ((try dsimp only at hq); go_simp; (first | done | with_reducible rfl | fail)))) | refine held_s (i := 7) hHeld ?_ | fail
        try simp only [Act.put, List.setIfInBounds_toArray, List.set_cons_zero, List.set_cons_succ]
        refine held_c 8 fun K hK => ?_
        (obtain ⟨wd, hwd⟩ : ∃ wd, w6.drew = wd := ⟨_, rfl⟩; rw [hwd] at hHeld ⊢; have hbd : Below w6.heap.size w6 wd := (by rw [← hwd]; exact (Below.refl _ _).drew); have HBD6 := Lib.hid hbd; obtain ⟨p0, p1, p2, p3, pf⟩ := (HBX6.out.1.ext hbd).four; go_simp)
        refine hK.out _ _ (⟨⟨far1 hHeld.1.1 HNP.out.1, far1 hHeld.1.2.1 HNP.out.2.1, far1 hHeld.1.2.2.1 HNP.out.2.1, far1 hHeld.1.2.2.2.1 HNP.out.2.1, far1 hHeld.1.2.2.2.2.1 HNP.out.2.1, far1 hHeld.1.2.2.2.2.2.1 HNP.out.2.1, far1 hHeld.1.2.2.2.2.2.2.1 HNP.out.2.1, far1 hHeld.1.2.2.2.2.2.2.2.1 HNP.out.2.1, far1 hHeld.1.2.2.2.2.2.2.2.2 HNP.out.2.1⟩, trivial⟩) (fun hHeld => ?_)
        clear hK K
        try simp only [Act.put, List.setIfInBounds_toArray, List.set_cons_zero, List.set_cons_succ]
        refine held_c 9 fun K hK => ?_
        (obtain ⟨q0, q1, q2, q3, qf⟩ := ((HBX6.out.2.ext HBD6.out).far4g (c := p) (Ne.symm HPQ.out.1) (.int .i64 k1) (.int .i64 n1) (.string s1) (.slice a1 m1 c1)).four; go_simp)
        refine hK.out _ _ (⟨⟨far1 hHeld.1.1 HNP.out.2.2.1, far1 hHeld.1.2.1 HNP.out.2.2.2, far1 hHeld.1.2.2.1 HNP.out.2.2.2, far1 hHeld.1.2.2.2.1 HNP.out.2.2.2, far1 hHeld.1.2.2.2.2.1 HNP.out.2.2.2, far1 hHeld.1.2.2.2.2.2.1 HNP.out.2.2.2, far1 hHeld.1.2.2.2.2.2.2.1 HNP.out.2.2.2, far1 hHeld.1.2.2.2.2.2.2.2.1 HNP.out.2.2.2, far1 hHeld.1.2.2.2.2.2.2.2.2 HNP.out.2.2.2⟩, trivial⟩) (fun hHeld => ?_)
        clear hK K
        try simp only [Act.put, List.setIfInBounds_toArray, List.set_cons_zero, List.set_cons_succ]
        refine wpAnyH_done (by kernel_rfl) ?_ _
        obtain ⟨w7, hw7⟩ : ∃ w7, ((((((((wd.setCell ⟨p, 0, none⟩ (.int .i64 k1)).setCell ⟨p, 1, none⟩ (.int .i64 n1)).setCell ⟨p, 2, none⟩ (.string s1)).setCell ⟨p, 3, none⟩ (.slice a1 m1 c1)).setCell ⟨q, 0, none⟩ (.int .i64 k2)).setCell ⟨q, 1, none⟩ (.int .i64 n2)).setCell ⟨q, 2, none⟩ (.string s2)).setCell ⟨q, 3, none⟩ (.slice a2 m2 c2)) = w7 := ⟨_, rfl⟩
        rw [hw7]
        have HB7 := Lib.hid (show Below w3.heap.size w3 w7 from by rw [← hw7]; exact Below.set4 (Below.set4 (Ext.trans' HB6.out HBD6.out) HPQ.out.2.1 _ _ _ _) HPQ.out.2.2 _ _ _ _)
        have HBX7 := Lib.hid (show Box w7 p [.int .i64 k1, .int .i64 n1, .string s1, .slice a1 m1 c1] ∧ Box w7 q [.int .i64 k2, .int .i64 n2, .string s2, .slice a2 m2 c2] from by
          rw [← hw7]
          exact ⟨((HBX6.out.1.ext HBD6.out).all4' _ _ _ _).far4g HPQ.out.1 _ _ _ _, ((HBX6.out.2.ext HBD6.out).far4g (Ne.symm HPQ.out.1) _ _ _ _).all4' _ _ _ _⟩)
        have HTT := Lib.hid (And.intro (TmV.ext (Ext.trans' HBW.out HB7.out) _ _ HTW.out.1) (TmV.ext (Ext.trans' HBW.out HB7.out) _ _ HTW.out.2))
        clear hHeld hw7 c0 c1' c2' c3 d0 d1 d2 d3 f0 f1 f2 f3
        have HHK := Lib.hid (tm_k HTT.out.1)
        obtain ⟨p0, p1, p2, p3, _⟩ := HBX7.out.1.four
        by_cases e0 : k1 = 0
        · have HR := Lib.hid (show clauseE t = (zeroT, zeroT, 6) by rw [clause_good HG.out HH.out, if_pos (by rw [HHK.out]; exact e0)])
          have e0b : (k1 == 0) = true := by simpa using e0
          clear e0
          obtain ⟨r0, r1, r2, r3, rf⟩ := (HX.out.2.1.ext HB7.out).four
          obtain ⟨z0, z1, z2, z3, zf⟩ := (HX.out.2.2.ext HB7.out).four
          rw [HZ.out.1] at r0 r1 r2 r3 rf
          rw [HZ2.out] at z0 z1 z2 z3 zf
          have HBE := Lib.hid (Ext.trans' HBW.out HB7.out)
          go_wp2
          refine bodyPost_ret (v := .tuple #[.agg #[.int .i64 0, .int .i64 0, .string ⟨#[]⟩, .slice none 0 0], .agg #[.int .i64 0, .int .i64 0, .string ⟨#[]⟩, .slice none 0 0], .int .i64 6]) (by rw [results_ccT rfl]; go_simp) rfl ?_
          rw [HR.out]
          exact ⟨_, _, rfl, zero_tm _, zero_tm _, Below.set4 (b := w.heap.size + 2) (Below.set4 (b := w.heap.size + 1) HBE.out (by omega) _ _ _ _) (by omega) _ _ _ _⟩
        have e0b : (k1 == 0) = false := beq_false_of_ne e0
        by_cases e1 : k1 = 1
        · have HR := Lib.hid (show clauseE t = (zeroT, zeroT, 5) by rw [clause_good HG.out HH.out, if_neg (by rw [HHK.out]; exact e0), if_pos (by rw [HHK.out]; exact e1)])
          have e1b : (k1 == 1) = true := by simpa using e1
          clear e0 e1
          obtain ⟨r0, r1, r2, r3, rf⟩ := (HX.out.2.1.ext HB7.out).four
          obtain ⟨z0, z1, z2, z3, zf⟩ := (HX.out.2.2.ext HB7.out).four
          rw [HZ.out.1] at r0 r1 r2 r3 rf
          rw [HZ2.out] at z0 z1 z2 z3 zf
          have HBE := Lib.hid (Ext.trans' HBW.out HB7.out)
          go_wp2
          refine bodyPost_ret (v := .tuple #[.agg #[.int .i64 0, .int .i64 0, .string ⟨#[]⟩, .slice none 0 0], .agg #[.int .i64 0, .int .i64 0, .string ⟨#[]⟩, .slice none 0 0], .int .i64 5]) (by rw [results_ccT rfl]; go_simp) rfl ?_
          rw [HR.out]
          exact ⟨_, _, rfl, zero_tm _, zero_tm _, Below.set4 (b := w.heap.size + 2) (Below.set4 (b := w.heap.size + 1) HBE.out (by omega) _ _ _ _) (by omega) _ _ _ _⟩
        have e1b : (k1 == 1) = false := beq_false_of_ne e1
        have HKN := Lib.hid (show clauseE t = if heldT x = true then (zeroT, zeroT, 8) else if (ofB y).isSome = true then (x, y, 0) else (zeroT, zeroT, 5) by rw [clause_good HG.out HH.out, if_neg (by rw [HHK.out]; exact e0), if_neg (by rw [HHK.out]; exact e1)])
        have IS := Lib.hid (fun (wq : World) (hq : Below w7.heap.size w7 wq) (s' : ByteArray) (m' : Nat) => ris_at (TmV.ext hq _ _ HTT.out.1) s' m')
        have HQ0 := Lib.hid (Below.refl w7.heap.size w7)
        clear e0 e1
        have C1 := IS.out w7 HQ0.out neckS 2
        obtain ⟨bb, hbb⟩ : ∃ b, isT x neckS 2 = b := ⟨_, rfl⟩
        have HD0 := Lib.hid hbb
        rw [hbb] at C1
        clear hbb
        (go_wp2_with fail; go_fit (C1); rintro e w8 ⟨rfl, b7⟩)
        have HQ1 := Lib.hid (Ext.trans' HQ0.out b7)
        clear C1 b7 p0 p1 p2 p3 e0b e1b
        obtain ⟨p0, p1, p2, p3, _⟩ := (HBX7.out.1.ext HQ1.out).four
        cases bb
        rotate_left
        · have HR := Lib.hid (show clauseE t = (zeroT, zeroT, 8) by rw [HKN.out, if_pos (by unfold heldT; rw [HD0.out]; simp)])
          have HBN2 := Lib.hid (Ext.trans' HB7.out HQ1.out)
          obtain ⟨r0, r1, r2, r3, rf⟩ := (HX.out.2.1.ext HBN2.out).four
          obtain ⟨z0, z1, z2, z3, zf⟩ := (HX.out.2.2.ext HBN2.out).four
          rw [HZ.out.1] at r0 r1 r2 r3 rf
          rw [HZ2.out] at z0 z1 z2 z3 zf
          have HBE := Lib.hid (Ext.trans' HBW.out HBN2.out)
          go_wp2
          refine bodyPost_ret (v := .tuple #[.agg #[.int .i64 0, .int .i64 0, .string ⟨#[]⟩, .slice none 0 0], .agg #[.int .i64 0, .int .i64 0, .string ⟨#[]⟩, .slice none 0 0], .int .i64 8]) (by rw [results_ccT rfl]; go_simp) rfl ?_
          rw [HR.out]
          exact ⟨_, _, rfl, zero_tm _, zero_tm _, Below.set4 (b := w.heap.size + 2) (Below.set4 (b := w.heap.size + 1) HBE.out (by omega) _ _ _ _) (by omega) _ _ _ _⟩
        have C1 := IS.out w8 HQ1.out commaS 2
        obtain ⟨bb, hbb⟩ : ∃ b, isT x commaS 2 = b := ⟨_, rfl⟩
        have HD1 := Lib.hid hbb
        rw [hbb] at C1
        clear hbb
        (go_wp2_with fail; go_fit (C1); rintro e w9 ⟨rfl, b7⟩)
        have HQ2 := Lib.hid (Ext.trans' HQ1.out b7)
        clear C1 b7 p0 p1 p2 p3
        obtain ⟨p0, p1, p2, p3, _⟩ := (HBX7.out.1.ext HQ2.out).four
        cases bb
        rotate_left
        · have HR := Lib.hid (show clauseE t = (zeroT, zeroT, 8) by rw [HKN.out, if_pos (by unfold heldT; rw [HD1.out]; simp)])
          have HBN2 := Lib.hid (Ext.trans' HB7.out HQ2.out)
          obtain ⟨r0, r1, r2, r3, rf⟩ := (HX.out.2.1.ext HBN2.out).four
          obtain ⟨z0, z1, z2, z3, zf⟩ := (HX.out.2.2.ext HBN2.out).four
          rw [HZ.out.1] at r0 r1 r2 r3 rf
          rw [HZ2.out] at z0 z1 z2 z3 zf
          have HBE := Lib.hid (Ext.trans' HBW.out HBN2.out)
          go_wp2
          refine bodyPost_ret (v := .tuple #[.agg #[.int .i64 0, .int .i64 0, .string ⟨#[]⟩, .slice none 0 0], .agg #[.int .i64 0, .int .i64 0, .string ⟨#[]⟩, .slice none 0 0], .int .i64 8]) (by rw [results_ccT rfl]; go_simp) rfl ?_
          rw [HR.out]
          exact ⟨_, _, rfl, zero_tm _, zero_tm _, Below.set4 (b := w.heap.size + 2) (Below.set4 (b := w.heap.size + 1) HBE.out (by omega) _ _ _ _) (by omega) _ _ _ _⟩
        have C1 := IS.out w9 HQ2.out semiS 2
        obtain ⟨bb, hbb⟩ : ∃ b, isT x semiS 2 = b := ⟨_, rfl⟩
        have HD2 := Lib.hid hbb
        rw [hbb] at C1
        clear hbb
        (go_wp2_with fail; go_fit (C1); rintro e w10 ⟨rfl, b7⟩)
        have HQ3 := Lib.hid (Ext.trans' HQ2.out b7)
        clear C1 b7 p0 p1 p2 p3
        obtain ⟨p0, p1, p2, p3, _⟩ := (HBX7.out.1.ext HQ3.out).four
        cases bb
        rotate_left
        · have HR := Lib.hid (show clauseE t = (zeroT, zeroT, 8) by rw [HKN.out, if_pos (by unfold heldT; rw [HD2.out]; simp)])
          have HBN2 := Lib.hid (Ext.trans' HB7.out HQ3.out)
          obtain ⟨r0, r1, r2, r3, rf⟩ := (HX.out.2.1.ext HBN2.out).four
          obtain ⟨z0, z1, z2, z3, zf⟩ := (HX.out.2.2.ext HBN2.out).four
          rw [HZ.out.1] at r0 r1 r2 r3 rf
          rw [HZ2.out] at z0 z1 z2 z3 zf
          have HBE := Lib.hid (Ext.trans' HBW.out HBN2.out)
          go_wp2
          refine bodyPost_ret (v := .tuple #[.agg #[.int .i64 0, .int .i64 0, .string ⟨#[]⟩, .slice none 0 0], .agg #[.int .i64 0, .int .i64 0, .string ⟨#[]⟩, .slice none 0 0], .int .i64 8]) (by rw [results_ccT rfl]; go_simp) rfl ?_
          rw [HR.out]
          exact ⟨_, _, rfl, zero_tm _, zero_tm _, Below.set4 (b := w.heap.size + 2) (Below.set4 (b := w.heap.size + 1) HBE.out (by omega) _ _ _ _) (by omega) _ _ _ _⟩
        have C1 := IS.out w10 HQ3.out arrowS 2
        obtain ⟨bb, hbb⟩ : ∃ b, isT x arrowS 2 = b := ⟨_, rfl⟩
        have HD3 := Lib.hid hbb
        rw [hbb] at C1
        clear hbb
        (go_wp2_with fail; go_fit (C1); rintro e w11 ⟨rfl, b7⟩)
        have HQ4 := Lib.hid (Ext.trans' HQ3.out b7)
        clear C1 b7 p0 p1 p2 p3
        obtain ⟨p0, p1, p2, p3, _⟩ := (HBX7.out.1.ext HQ4.out).four
        cases bb
        rotate_left
        · have HR := Lib.hid (show clauseE t = (zeroT, zeroT, 8) by rw [HKN.out, if_pos (by unfold heldT; rw [HD3.out]; simp)])
          have HBN2 := Lib.hid (Ext.trans' HB7.out HQ4.out)
          obtain ⟨r0, r1, r2, r3, rf⟩ := (HX.out.2.1.ext HBN2.out).four
          obtain ⟨z0, z1, z2, z3, zf⟩ := (HX.out.2.2.ext HBN2.out).four
          rw [HZ.out.1] at r0 r1 r2 r3 rf
          rw [HZ2.out] at z0 z1 z2 z3 zf
          have HBE := Lib.hid (Ext.trans' HBW.out HBN2.out)
          go_wp2
          refine bodyPost_ret (v := .tuple #[.agg #[.int .i64 0, .int .i64 0, .string ⟨#[]⟩, .slice none 0 0], .agg #[.int .i64 0, .int .i64 0, .string ⟨#[]⟩, .slice none 0 0], .int .i64 8]) (by rw [results_ccT rfl]; go_simp) rfl ?_
          rw [HR.out]
          exact ⟨_, _, rfl, zero_tm _, zero_tm _, Below.set4 (b := w.heap.size + 2) (Below.set4 (b := w.heap.size + 1) HBE.out (by omega) _ _ _ _) (by omega) _ _ _ _⟩
        have C1 := IS.out w11 HQ4.out negS 1
        obtain ⟨bb, hbb⟩ : ∃ b, isT x negS 1 = b := ⟨_, rfl⟩
        have HD4 := Lib.hid hbb
        rw [hbb] at C1
        clear hbb
        (go_wp2_with fail; go_fit (C1); rintro e w12 ⟨rfl, b7⟩)
        have HQ5 := Lib.hid (Ext.trans' HQ4.out b7)
        clear C1 b7 p0 p1 p2 p3
        obtain ⟨p0, p1, p2, p3, _⟩ := (HBX7.out.1.ext HQ5.out).four
        cases bb
        rotate_left
        · have HR := Lib.hid (show clauseE t = (zeroT, zeroT, 8) by rw [HKN.out, if_pos (by unfold heldT; rw [HD4.out]; simp)])
          have HBN2 := Lib.hid (Ext.trans' HB7.out HQ5.out)
          obtain ⟨r0, r1, r2, r3, rf⟩ := (HX.out.2.1.ext HBN2.out).four
          obtain ⟨z0, z1, z2, z3, zf⟩ := (HX.out.2.2.ext HBN2.out).four
          rw [HZ.out.1] at r0 r1 r2 r3 rf
          rw [HZ2.out] at z0 z1 z2 z3 zf
          have HBE := Lib.hid (Ext.trans' HBW.out HBN2.out)
          go_wp2
          refine bodyPost_ret (v := .tuple #[.agg #[.int .i64 0, .int .i64 0, .string ⟨#[]⟩, .slice none 0 0], .agg #[.int .i64 0, .int .i64 0, .string ⟨#[]⟩, .slice none 0 0], .int .i64 8]) (by rw [results_ccT rfl]; go_simp) rfl ?_
          rw [HR.out]
          exact ⟨_, _, rfl, zero_tm _, zero_tm _, Below.set4 (b := w.heap.size + 2) (Below.set4 (b := w.heap.size + 1) HBE.out (by omega) _ _ _ _) (by omega) _ _ _ _⟩
        have C1 := IS.out w12 HQ5.out bangS 0
        obtain ⟨bb, hbb⟩ : ∃ b, isT x bangS 0 = b := ⟨_, rfl⟩
        have HD5 := Lib.hid hbb
        rw [hbb] at C1
        clear hbb
        (go_wp2_with fail; go_fit (C1); rintro e w13 ⟨rfl, b7⟩)
        have HQ6 := Lib.hid (Ext.trans' HQ5.out b7)
        clear C1 b7 p0 p1 p2 p3
        obtain ⟨p0, p1, p2, p3, _⟩ := (HBX7.out.1.ext HQ6.out).four
        cases bb
        rotate_left
        · have HR := Lib.hid (show clauseE t = (zeroT, zeroT, 8) by rw [HKN.out, if_pos (by unfold heldT; rw [HD5.out]; simp)])
          have HBN2 := Lib.hid (Ext.trans' HB7.out HQ6.out)
          obtain ⟨r0, r1, r2, r3, rf⟩ := (HX.out.2.1.ext HBN2.out).four
          obtain ⟨z0, z1, z2, z3, zf⟩ := (HX.out.2.2.ext HBN2.out).four
          rw [HZ.out.1] at r0 r1 r2 r3 rf
          rw [HZ2.out] at z0 z1 z2 z3 zf
          have HBE := Lib.hid (Ext.trans' HBW.out HBN2.out)
          go_wp2
          refine bodyPost_ret (v := .tuple #[.agg #[.int .i64 0, .int .i64 0, .string ⟨#[]⟩, .slice none 0 0], .agg #[.int .i64 0, .int .i64 0, .string ⟨#[]⟩, .slice none 0 0], .int .i64 8]) (by rw [results_ccT rfl]; go_simp) rfl ?_
          rw [HR.out]
          exact ⟨_, _, rfl, zero_tm _, zero_tm _, Below.set4 (b := w.heap.size + 2) (Below.set4 (b := w.heap.size + 1) HBE.out (by omega) _ _ _ _) (by omega) _ _ _ _⟩
        have C1 := IS.out w13 HQ6.out trueS 0
        obtain ⟨bb, hbb⟩ : ∃ b, isT x trueS 0 = b := ⟨_, rfl⟩
        have HD6 := Lib.hid hbb
        rw [hbb] at C1
        clear hbb
        (go_wp2_with fail; go_fit (C1); rintro e w14 ⟨rfl, b7⟩)
        have HQ7 := Lib.hid (Ext.trans' HQ6.out b7)
        clear C1 b7 p0 p1 p2 p3
        obtain ⟨p0, p1, p2, p3, _⟩ := (HBX7.out.1.ext HQ7.out).four
        cases bb
        rotate_left
        · have HR := Lib.hid (show clauseE t = (zeroT, zeroT, 8) by rw [HKN.out, if_pos (by unfold heldT; rw [HD6.out]; simp)])
          have HBN2 := Lib.hid (Ext.trans' HB7.out HQ7.out)
          obtain ⟨r0, r1, r2, r3, rf⟩ := (HX.out.2.1.ext HBN2.out).four
          obtain ⟨z0, z1, z2, z3, zf⟩ := (HX.out.2.2.ext HBN2.out).four
          rw [HZ.out.1] at r0 r1 r2 r3 rf
          rw [HZ2.out] at z0 z1 z2 z3 zf
          have HBE := Lib.hid (Ext.trans' HBW.out HBN2.out)
          go_wp2
          refine bodyPost_ret (v := .tuple #[.agg #[.int .i64 0, .int .i64 0, .string ⟨#[]⟩, .slice none 0 0], .agg #[.int .i64 0, .int .i64 0, .string ⟨#[]⟩, .slice none 0 0], .int .i64 8]) (by rw [results_ccT rfl]; go_simp) rfl ?_
          rw [HR.out]
          exact ⟨_, _, rfl, zero_tm _, zero_tm _, Below.set4 (b := w.heap.size + 2) (Below.set4 (b := w.heap.size + 1) HBE.out (by omega) _ _ _ _) (by omega) _ _ _ _⟩
        have C1 := IS.out w14 HQ7.out failS 0
        obtain ⟨bb, hbb⟩ : ∃ b, isT x failS 0 = b := ⟨_, rfl⟩
        have HD7 := Lib.hid hbb
        rw [hbb] at C1
        clear hbb
        (go_wp2_with fail; go_fit (C1); rintro e w15 ⟨rfl, b7⟩)
        have HQ8 := Lib.hid (Ext.trans' HQ7.out b7)
        clear C1 b7 p0 p1 p2 p3
        obtain ⟨p0, p1, p2, p3, _⟩ := (HBX7.out.1.ext HQ8.out).four
        cases bb
        rotate_left
        · have HR := Lib.hid (show clauseE t = (zeroT, zeroT, 8) by rw [HKN.out, if_pos (by unfold heldT; rw [HD7.out]; simp)])
          have HBN2 := Lib.hid (Ext.trans' HB7.out HQ8.out)
          obtain ⟨r0, r1, r2, r3, rf⟩ := (HX.out.2.1.ext HBN2.out).four
          obtain ⟨z0, z1, z2, z3, zf⟩ := (HX.out.2.2.ext HBN2.out).four
          rw [HZ.out.1] at r0 r1 r2 r3 rf
          rw [HZ2.out] at z0 z1 z2 z3 zf
          have HBE := Lib.hid (Ext.trans' HBW.out HBN2.out)
          go_wp2
          refine bodyPost_ret (v := .tuple #[.agg #[.int .i64 0, .int .i64 0, .string ⟨#[]⟩, .slice none 0 0], .agg #[.int .i64 0, .int .i64 0, .string ⟨#[]⟩, .slice none 0 0], .int .i64 8]) (by rw [results_ccT rfl]; go_simp) rfl ?_
          rw [HR.out]
          exact ⟨_, _, rfl, zero_tm _, zero_tm _, Below.set4 (b := w.heap.size + 2) (Below.set4 (b := w.heap.size + 1) HBE.out (by omega) _ _ _ _) (by omega) _ _ _ _⟩
        have HHF := Lib.hid (show heldT x = false from by unfold heldT; rw [HD0.out, HD1.out, HD2.out, HD3.out, HD4.out, HD5.out, HD6.out, HD7.out]; rfl)
        obtain ⟨q0, q1, q2, q3, _⟩ := (HBX7.out.2.ext HQ8.out).four
        have C1 := rof_plain HSR.out w15 _ (TmV.ext HQ8.out _ _ HTT.out.2)
        obtain ⟨o, ho⟩ : ∃ o, ofB y = o := ⟨_, rfl⟩
        have HO := Lib.hid ho
        rw [ho] at C1
        clear ho
        (go_wp2_with fail; go_fit (C1); rintro e w20 ⟨⟨g, rfl⟩, b7⟩)
        have HQ9 := Lib.hid (Ext.trans' HQ8.out b7)
        have HBN2 := Lib.hid (Ext.trans' HB7.out HQ9.out)
        clear C1 b7 p0 p1 p2 p3 q0 q1 q2 q3
        cases o with
        | none =>
          have her : erO none = 5 := rfl
          rw [her]
          have HR := Lib.hid (show clauseE t = (zeroT, zeroT, 5) by rw [HKN.out, if_neg (by rw [HHF.out]; simp), HO.out]; rfl)
          obtain ⟨r0, r1, r2, r3, rf⟩ := (HX.out.2.1.ext HBN2.out).four
          obtain ⟨z0, z1, z2, z3, zf⟩ := (HX.out.2.2.ext HBN2.out).four
          rw [HZ.out.1] at r0 r1 r2 r3 rf
          rw [HZ2.out] at z0 z1 z2 z3 zf
          have HBE := Lib.hid (Ext.trans' HBW.out HBN2.out)
          go_wp2
          refine bodyPost_ret (v := .tuple #[.agg #[.int .i64 0, .int .i64 0, .string ⟨#[]⟩, .slice none 0 0], .agg #[.int .i64 0, .int .i64 0, .string ⟨#[]⟩, .slice none 0 0], .int .i64 5]) (by rw [results_ccT rfl]; go_simp) rfl ?_
          rw [HR.out]
          exact ⟨_, _, rfl, zero_tm _, zero_tm _, Below.set4 (b := w.heap.size + 2) (Below.set4 (b := w.heap.size + 1) HBE.out (by omega) _ _ _ _) (by omega) _ _ _ _⟩
        | some l =>
          have her : erO (some l) = 0 := rfl
          rw [her]
          have HR := Lib.hid (show clauseE t = (x, y, 0) by rw [HKN.out, if_neg (by rw [HHF.out]; simp), HO.out]; rfl)
          obtain ⟨p0, p1, p2, p3, _⟩ := (HBX7.out.1.ext HQ9.out).four
          obtain ⟨q0, q1, q2, q3, _⟩ := (HBX7.out.2.ext HQ9.out).four
          have HNE := Lib.hid (show p ≠ w.heap.size + 1 ∧ p ≠ w.heap.size + 2 ∧ q ≠ w.heap.size + 1 ∧ q ≠ w.heap.size + 2 by have h1 := HPQ.out.2.1; have h2 := HPQ.out.2.2; have h3 := HZ2.out; have h4 := HX.out.2.2.lt; omega)
          go_wp2_with fail
          refine wp_region_held_drew (S := fun w' => ((w'.cell? ⟨p, 0, none⟩ = some (.int .i64 k1) ∧ w'.cell? ⟨p, 1, none⟩ = some (.int .i64 n1) ∧ w'.cell? ⟨p, 2, none⟩ = some (.string s1) ∧ w'.cell? ⟨p, 3, none⟩ = some (.slice a1 m1 c1)) ∧ (w'.cell? ⟨q, 0, none⟩ = some (.int .i64 k2) ∧ w'.cell? ⟨q, 1, none⟩ = some (.int .i64 n2) ∧ w'.cell? ⟨q, 2, none⟩ = some (.string s2) ∧ w'.cell? ⟨q, 3, none⟩ = some (.slice a2 m2 c2))) ∧ True) (by kernel_rfl) (⟨⟨⟨p0, p1, p2, p3⟩, q0, q1, q2, q3⟩, trivial⟩) (fun hHeld => ?_)
          first | (refine held_t (i := 0) hHeld ?_; apply Exists.intro; refine ⟨fun wq hq => ?_, ?_⟩; (focus ((try dsimp only at hq); go_simp; (first | done | with_reducible rfl | fail)))) | refine held_s (i := 0) hHeld ?_ | fail
          first | (refine held_t (i := 1) hHeld ?_; apply Exists.intro; refine ⟨fun wq hq => ?_, ?_⟩; (focus ((try dsimp only at hq); go_simp; (first | done | with_reducible rfl | fail)))) | refine held_s (i := 1) hHeld ?_ | fail
          try simp only [Act.put, List.setIfInBounds_toArray, List.set_cons_zero, List.set_cons_succ]
          refine held_c 2 fun K hK => ?_
          (obtain ⟨wd, hwd⟩ : ∃ wd, w20.drew = wd := ⟨_, rfl⟩; rw [hwd] at hHeld ⊢; have hbd : Below w20.heap.size w20 wd := (by rw [← hwd]; exact (Below.refl _ _).drew); have HBD := Lib.hid (And.intro (Ext.trans' HBN2.out hbd) (Ext.trans' HQ9.out hbd)); obtain ⟨r0, r1, r2, r3, rf⟩ := (HX.out.2.1.ext HBD.out.1).four; rw [HZ.out.1] at r0 r1 r2 r3 rf; go_simp)
          refine hK.out _ _ (⟨⟨Box.cells4 ((HBX7.out.1.ext HBD.out.2).far4g HNE.out.1 _ _ _ _), Box.cells4 ((HBX7.out.2.ext HBD.out.2).far4g HNE.out.2.2.1 _ _ _ _)⟩, trivial⟩) (fun hHeld => ?_)
          clear hK K
          try simp only [Act.put, List.setIfInBounds_toArray, List.set_cons_zero, List.set_cons_succ]
          refine held_c 3 fun K hK => ?_
          (have hx3 := (HX.out.2.2.ext HBD.out.1); rw [HZ2.out] at hx3; obtain ⟨z0, z1, z2, z3, zf⟩ := (hx3.far4g (c := w.heap.size + 1) (by omega) (.int .i64 k1) (.int .i64 n1) (.string s1) (.slice a1 m1 c1)).four; go_simp)
          refine hK.out _ _ (⟨⟨Box.cells4 (((HBX7.out.1.ext HBD.out.2).far4g HNE.out.1 _ _ _ _).far4g HNE.out.2.1 _ _ _ _), Box.cells4 (((HBX7.out.2.ext HBD.out.2).far4g HNE.out.2.2.1 _ _ _ _).far4g HNE.out.2.2.2 _ _ _ _)⟩, trivial⟩) (fun hHeld => ?_)
          clear hK K
          try simp only [Act.put, List.setIfInBounds_toArray, List.set_cons_zero, List.set_cons_succ]
          first | (refine held_t (i := 4) hHeld ?_; apply Exists.intro; refine ⟨fun wq hq => ?_, ?_⟩; (focus ((try dsimp only at hq); go_simp; (first | done | with_reducible rfl | fail)))) | refine held_s (i := 4) hHeld ?_ | fail
          try simp only [Act.put, List.setIfInBounds_toArray, List.set_cons_zero, List.set_cons_succ]
          refine wpAnyH_done (by kernel_rfl) ?_ _
          clear hHeld p0 p1 p2 p3 q0 q1 q2 q3
          go_wp2
          refine bodyPost_ret (v := .tuple #[.agg #[.int .i64 k1, .int .i64 n1, .string s1, .slice a1 m1 c1], .agg #[.int .i64 k2, .int .i64 n2, .string s2, .slice a2 m2 c2], .int .i64 0]) (by rw [results_ccT rfl]; go_simp) rfl ?_
          rw [HR.out]
          refine ⟨_, _, rfl, ?_, ?_, Below.set4 (b := w.heap.size + 2) (Below.set4 (b := w.heap.size + 1) (Ext.trans' HBW.out HBD.out.1) (by omega) _ _ _ _) (by omega) _ _ _ _⟩
          · exact TmV.stay (Stays.unhide _ _) _ _ ((((HFR.out DD _ HDD.out (Ext.trans' HBW.out HBD.out.1)).1.put4 (b := w.heap.size + 1) HDa.out _ _ _ _).put4 (b := w.heap.size + 2) HDb.out _ _ _ _))
          · exact TmV.stay (Stays.unhide _ _) _ _ ((((HFR.out DD _ HDD.out (Ext.trans' HBW.out HBD.out.1)).2.put4 (b := w.heap.size + 1) HDa.out _ _ _ _).put4 (b := w.heap.size + 2) HDb.out _ _ _ _))
end Go.Proofs.YtaojalicnnnkmaaGreatDoor
