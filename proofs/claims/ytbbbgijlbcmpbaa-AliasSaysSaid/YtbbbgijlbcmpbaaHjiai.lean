import Derived.Test.YtbbbgijlbcmpbaaHjiaf
import Derived.Test.YtbbbgijlbcmpbaaHjiag
import Derived.Test.YtbbbgijlbcmpbaaHjiah
set_option linter.unusedVariables false
set_option linter.unusedSimpArgs false
/- Stage 13's laws: AliasSays. (gen_aliassays.py) -/
namespace Go.Proofs.Ytbbbgijlbcmpbaa
open Go.RowKit
set_option linter.unusedVariables false

theorem Box.all4' {w : World} {b : Nat} {v0 v1 v2 v3 : Value} (h : Box w b [v0, v1, v2, v3]) (u0 u1 u2 u3 : Value) : Box (set4 w b u0 u1 u2 u3) b [u0, u1, u2, u3] :=
  (((h.set (k := 0) (by simp)).set (k := 1) (by simp)).set (k := 2) (by simp)).set (k := 3) (by simp)
theorem Box.far4 {w : World} {b c : Nat} {vs : List Value} (h : Box w b vs) (hne : b ≠ c) (u0 u1 u2 u3 : Value) : Box (set4 w c u0 u1 u2 u3) b vs := (((h.far hne).far hne).far hne).far hne
def two (p q : Nat) : Nat → Bool := fun k => k == p || k == q
theorem two_old {p q : Nat} {w : World} (hp : p < w.heap.size) (hq : q < w.heap.size) : Old (two p q) w := fun k hk => by
  unfold two
  rw [beq_false_of_ne (by omega : k ≠ p), beq_false_of_ne (by omega : k ≠ q)]
  rfl
theorem two_left (p q : Nat) : two p q p = true := by simp [two]
theorem two_right (p q : Nat) : two p q q = true := by simp [two]
theorem two_no {p q k : Nat} (h : two p q k = false) : k ≠ p ∧ k ≠ q := by simpa [two] using h
theorem two_of {p q k : Nat} (h : k ≠ p) (h' : k ≠ q) : two p q k = false := by simp [two, h, h']
theorem old_no (w : World) : Old noM w := fun _ _ => rfl
/-- It reads as it did, apart from both boxes. -/
theorem fin_two {E : Nat → Bool} {wP wc : World} {x : Tm} {v : Value} {p q : Nat} (h : TmV (hide E wP) x v) (hb : Below wP.heap.size wP wc) (hE : ∀ k, k < wP.heap.size → E k = false → k ≠ p ∧ k ≠ q) : TmV (hide (two p q) wc) x v :=
  TmV.stay (Stays.below hb fun k hk he => two_of (hE k hk he).1 (hE k hk he).2) _ _ h
/-- Both copies in boxes of their own. -/
def twoBox (W : World) (x y : Tm) (u7 u8 : Value) (wx : World) : Prop := ∃ (p q : Nat) (k n : Int) (s : ByteArray) (a : Option Addr) (m c : Nat) (k' n' : Int) (s' : ByteArray) (a' : Option Addr) (m' c' : Nat),
  u7 = .pointer (some ⟨p, 0, none⟩) ∧ u8 = .pointer (some ⟨q, 0, none⟩) ∧ Box wx p [.int .i64 k, .int .i64 n, .string s, .slice a m c] ∧ Box wx q [.int .i64 k', .int .i64 n', .string s', .slice a' m' c'] ∧
  TmV wx x (.agg #[.int .i64 k, .int .i64 n, .string s, .slice a m c]) ∧ TmV wx y (.agg #[.int .i64 k', .int .i64 n', .string s', .slice a' m' c']) ∧ Below W.heap.size W wx
theorem two_done {W wc : World} {x y : Tm} {p q : Nat} {k n : Int} {s : ByteArray} {a : Option Addr} {m c : Nat} {k' n' : Int} {s' : ByteArray} {a' : Option Addr} {m' c' : Nat} (hne : p ≠ q)
    (hp : W.heap.size ≤ p) (hq : W.heap.size ≤ q) (hb : Below W.heap.size W wc) (hx : TmV (hide (two p q) wc) x (.agg #[.int .i64 k, .int .i64 n, .string s, .slice a m c])) (hy : TmV (hide (two p q) wc) y (.agg #[.int .i64 k', .int .i64 n', .string s', .slice a' m' c']))
    {z0 z1 z2 z3 z4 z5 z6 z7 : Value} (bx : Box wc p [z0, z1, z2, z3]) (by_ : Box wc q [z4, z5, z6, z7]) :
    twoBox W x y (.pointer (some ⟨p, 0, none⟩)) (.pointer (some ⟨q, 0, none⟩)) (set4 (set4 wc p (.int .i64 k) (.int .i64 n) (.string s) (.slice a m c)) q (.int .i64 k') (.int .i64 n') (.string s') (.slice a' m' c')) :=
  ⟨p, q, k, n, s, a, m, c, k', n', s', a', m', c', rfl, rfl, (bx.all4' _ _ _ _).far4 hne _ _ _ _, (by_.far4 (Ne.symm hne) _ _ _ _).all4' _ _ _ _,
    ((hx.put4 (two_left p q) _ _ _ _).put4 (two_right p q) _ _ _ _).bare, ((hy.put4 (two_left p q) _ _ _ _).put4 (two_right p q) _ _ _ _).bare, Below.set4 (Below.set4 hb hp _ _ _ _) hq _ _ _ _⟩
set_option maxHeartbeats 32000000 in
set_option maxRecDepth 100000 in
theorem asays_walk {W : World} {v0 v1 : Value} {x y : Tm} (hx : TmV W x v0) (hy : TmV W y v1) {first : Int} (hfi : I64 first) : Calls Try.prog 10 #[v0, v1, .int .i64 first] W fun e w' => IsBool W true e w' := by
  obtain ⟨k, n, s, a, m, c, rfl⟩ := hx.full
  obtain ⟨k', n', s', a', m', c', rfl⟩ := hy.full
  have i70 : I64 70 := by unfold I64; omega
  have DX := Lib.hid (fun (w : World) (hb : Below W.heap.size W w) => deep13_at _ x (Nat.le_refl _) 70 i70 w _ (TmV.ext hb _ _ hx))
  have DY := Lib.hid (fun (w : World) (hb : Below W.heap.size W w) => deep13_at _ y (Nat.le_refl _) 70 i70 w _ (TmV.ext hb _ _ hy))
  have OX := Lib.hid (fun (w : World) (hb : Below W.heap.size W w) (E : Nat → Bool) (hE : Old E w) => own13_at x E w _ hE (TmV.ext hb _ _ hx))
  have OY := Lib.hid (fun (w : World) (hb : Below W.heap.size W w) (E : Nat → Bool) (hE : Old E w) => own13_at y E w _ hE (TmV.ext hb _ _ hy))
  have HXY := Lib.hid (fun (w : World) (hb : Below W.heap.size W w) => And.intro (TmV.ext hb _ _ hx) (TmV.ext hb _ _ hy))
  have HFI := Lib.hid hfi
  obtain ⟨w1', e1, B1', z1, X1⟩ := box_new W #[.int .i64 k, .int .i64 n, .string s, .slice a m c] 31
  obtain ⟨w2', e2, B2', z2, X2⟩ := box_new w1' #[.int .i64 k', .int .i64 n', .string s', .slice a' m' c'] 31
  have X1 := X1.ext B2'
  rw [z1] at X2
  have HE := Lib.hid (And.intro e1 e2)
  have HW := Lib.hid (Ext.trans' B1' B2')
  have HX2 := Lib.hid (And.intro X1 X2)
  have HC := Lib.hid (fun (wq : World) (hb : Below w2'.heap.size w2' wq) => (show (wq.cell? ⟨W.heap.size, 0, none⟩ = some (.int .i64 k) ∧ wq.cell? ⟨W.heap.size, 1, none⟩ = some (.int .i64 n) ∧ wq.cell? ⟨W.heap.size, 2, none⟩ = some (.string s) ∧ wq.cell? ⟨W.heap.size, 3, none⟩ = some (.slice a m c)) ∧ (wq.cell? ⟨W.heap.size + 1, 0, none⟩ = some (.int .i64 k') ∧ wq.cell? ⟨W.heap.size + 1, 1, none⟩ = some (.int .i64 n') ∧ wq.cell? ⟨W.heap.size + 1, 2, none⟩ = some (.string s') ∧ wq.cell? ⟨W.heap.size + 1, 3, none⟩ = some (.slice a' m' c')) from by
    obtain ⟨p0, p1, p2, p3, _⟩ := (HX2.out.1.ext hb).four
    obtain ⟨q0, q1, q2, q3, _⟩ := (HX2.out.2.ext hb).four
    exact ⟨⟨p0, p1, p2, p3⟩, q0, q1, q2, q3⟩))
  clear hx hy i70 hfi e1 B1' z1 X1 e2 B2' z2 X2
  go_enter Try.func10, Try.ntmps10
  go_upto_region 1 with fail
  (try rw [HE.out.1, HE.out.2])
  (go_wp2_with fail; go_fit (aawake_at _); rintro e w1 ⟨rfl, b1⟩)
  have H1 := Lib.hid (Ext.trans' HW.out b1)
  have B1 := Lib.hid b1
  obtain ⟨⟨c0, c1, c2, c3⟩, d0, d1, d2, d3⟩ := HC.out _ b1
  clear b1
  have C := DX.out _ H1.out
  cases hdx : deepT x 70
  rotate_left
  · rw [hdx] at C
    clear hdx
    (go_wp2_with fail; go_fit (C); rintro e w2 ⟨rfl, b2⟩)
    have H2 := Lib.hid (Ext.trans' H1.out b2)
    clear b2 C
    go_wp2
    go_ret
    exact ⟨rfl, H2.out⟩
  rw [hdx] at C
  clear hdx
  (go_wp2_with fail; go_fit (C); rintro e w2 ⟨rfl, b2⟩)
  have H2 := Lib.hid (Ext.trans' H1.out b2)
  have B2 := Lib.hid (Ext.trans' B1.out b2)
  clear b2 H1 B1 C c0 c1 c2 c3 d0 d1 d2 d3
  obtain ⟨⟨c0, c1, c2, c3⟩, d0, d1, d2, d3⟩ := HC.out _ B2.out
  have C := DY.out _ H2.out
  cases hdy : deepT y 70
  rotate_left
  · rw [hdy] at C
    clear hdy
    (go_wp2_with fail; go_fit (C); rintro e w3 ⟨rfl, b3⟩)
    have H3 := Lib.hid (Ext.trans' H2.out b3)
    clear b3 C
    go_wp2
    go_ret
    exact ⟨rfl, H3.out⟩
  rw [hdy] at C
  clear hdy
  (go_wp2_with fail; go_fit (C); rintro e w3 ⟨rfl, b3⟩)
  have H3 := Lib.hid (Ext.trans' H2.out b3)
  have B3 := Lib.hid (Ext.trans' B2.out b3)
  clear b3 H2 B2 C DX DY c0 c1 c2 c3 d0 d1 d2 d3
  obtain ⟨⟨c0, c1, c2, c3⟩, d0, d1, d2, d3⟩ := HC.out _ B3.out
  go_upto_region 5 with fail
  go_cut [7, 8] from 28 to 31 (fun u7 u8 wx => twoBox w3 x y u7 u8 wx)
  case first =>
    refine wp_region_held_drew (S := fun wq => ((wq.cell? ⟨W.heap.size, 0, none⟩ = some (.int .i64 k) ∧ wq.cell? ⟨W.heap.size, 1, none⟩ = some (.int .i64 n) ∧ wq.cell? ⟨W.heap.size, 2, none⟩ = some (.string s) ∧ wq.cell? ⟨W.heap.size, 3, none⟩ = some (.slice a m c)) ∧ (wq.cell? ⟨W.heap.size + 1, 0, none⟩ = some (.int .i64 k') ∧ wq.cell? ⟨W.heap.size + 1, 1, none⟩ = some (.int .i64 n') ∧ wq.cell? ⟨W.heap.size + 1, 2, none⟩ = some (.string s') ∧ wq.cell? ⟨W.heap.size + 1, 3, none⟩ = some (.slice a' m' c'))) ∧ Below w3.heap.size w3 wq) (by kernel_rfl) ⟨⟨⟨c0, c1, c2, c3⟩, d0, d1, d2, d3⟩, (Below.refl _ _).drew⟩ (fun hHeld => ?_)
    first | (refine held_t (i := 0) hHeld ?_; apply Exists.intro; refine ⟨fun wq hq => ?_, ?_⟩; (focus ((try dsimp only at hq); go_simp; (first | done | with_reducible rfl | fail)))) | refine held_s (i := 0) hHeld ?_ | fail
    first | (refine held_t (i := 2) hHeld ?_; apply Exists.intro; refine ⟨fun wq hq => ?_, ?_⟩; (focus ((try dsimp only at hq); go_simp; (first | done | with_reducible rfl | fail)))) | refine held_s (i := 2) hHeld ?_ | fail
    try simp only [Act.put, List.setIfInBounds_toArray, List.set_cons_zero, List.set_cons_succ]
    obtain ⟨wd, hwd⟩ : ∃ wd, w3.drew = wd := ⟨_, rfl⟩
    rw [hwd] at hHeld ⊢
    clear hwd
    have L0 := Lib.hid hHeld.2
    have z0 := hHeld.2.size
    refine wpAnyH_ready (rs := [1, 4, 5]) (by kernel_rfl) (by simp) ?_
    refine AllReadyH.cons (by simp only [List.getElem?_toArray, List.getElem?_cons_zero, List.getElem?_cons_succ]; rfl) (fun K hK => ?_) (AllReadyH.cons (by simp only [List.getElem?_toArray, List.getElem?_cons_zero, List.getElem?_cons_succ]; rfl) (fun K hK => ?_) (AllReadyH.cons (by simp only [List.getElem?_toArray, List.getElem?_cons_zero, List.getElem?_cons_succ]; rfl) (fun K hK => ?_) AllReadyH.nil))
    · go_simp
      (go_at_call 58; refine (OX.out _ (Ext.trans' H3.out hHeld.2) noM (old_no _)).mono ?_; rintro e w11_ ⟨vv1, rfl, hv1, hb1⟩; obtain ⟨k1, n1, s1, a1, m1, cz1, rfl⟩ := hv1.full; have HV1 := Lib.hid hv1; have HB1 := Lib.hid hb1; have hs1 := hb1.size; clear hv1)
      refine hK.out _ _ (⟨HC.out _ (Ext.trans' B3.out (Ext.trans' hHeld.2 (HB1.out))), Ext.trans' hHeld.2 (HB1.out)⟩) (fun hHeld => ?_)
      clear hK K
      try simp only [Act.put, List.setIfInBounds_toArray, List.set_cons_zero, List.set_cons_succ]
      have HR1 := Lib.hid (Below.refl w11_.heap.size w11_)
      clear hb1
      refine wpAnyH_ready (rs := [3, 4, 5]) (by kernel_rfl) (by simp) ?_
      refine AllReadyH.cons (by simp only [List.getElem?_toArray, List.getElem?_cons_zero, List.getElem?_cons_succ]; rfl) (fun K hK => ?_) (AllReadyH.cons (by simp only [List.getElem?_toArray, List.getElem?_cons_zero, List.getElem?_cons_succ]; rfl) (fun K hK => ?_) (AllReadyH.cons (by simp only [List.getElem?_toArray, List.getElem?_cons_zero, List.getElem?_cons_succ]; rfl) (fun K hK => ?_) AllReadyH.nil))
      · go_simp
        (go_at_call 58; refine (OY.out _ (Ext.trans' H3.out hHeld.2) noM (old_no _)).mono ?_; rintro e w12_ ⟨vv2, rfl, hv2, hb2⟩; obtain ⟨k2, n2, s2, a2, m2, cz2, rfl⟩ := hv2.full; have HV2 := Lib.hid hv2; have HB2 := Lib.hid hb2; have hs2 := hb2.size; clear hv2)
        refine hK.out _ _ (⟨HC.out _ (Ext.trans' B3.out (Ext.trans' hHeld.2 (HB2.out))), Ext.trans' hHeld.2 (HB2.out)⟩) (fun hHeld => ?_)
        clear hK K
        try simp only [Act.put, List.setIfInBounds_toArray, List.set_cons_zero, List.set_cons_succ]
        have HR1_2 := Lib.hid (Ext.trans' HR1.out HB2.out)
        have HR2 := Lib.hid (Below.refl w12_.heap.size w12_)
        clear hb2
        refine wpAnyH_ready (rs := [4, 5]) (by kernel_rfl) (by simp) ?_
        refine AllReadyH.cons (by simp only [List.getElem?_toArray, List.getElem?_cons_zero, List.getElem?_cons_succ]; rfl) (fun K hK => ?_) (AllReadyH.cons (by simp only [List.getElem?_toArray, List.getElem?_cons_zero, List.getElem?_cons_succ]; rfl) (fun K hK => ?_) AllReadyH.nil)
        · go_simp
          skip
          refine hK.out _ _ (⟨HC.out _ (Ext.trans' B3.out (Ext.trans' hHeld.2 (bel1' _ _))), Ext.trans' hHeld.2 (bel1' _ _)⟩) (fun hHeld => ?_)
          clear hK K
          try simp only [Act.put, List.setIfInBounds_toArray, List.set_cons_zero, List.set_cons_succ]
          obtain ⟨w13_, hw3, hb3, hz3, hx3⟩ := box_new w12_ #[.int .i64 0, .int .i64 0, .string ⟨#[]⟩, .slice none 0 0] 48
          rw [hw3] at hHeld ⊢
          clear hw3
          have HX3 := Lib.hid hx3
          have HR1_2_3 := Lib.hid (Ext.trans' HR1_2.out hb3)
          have HR2_3 := Lib.hid (Ext.trans' HR2.out hb3)
          have hs3 := hb3.size
          have hl3 := hx3.lt
          clear hb3 hx3 hz3
          refine held_c 5 fun K hK => ?_
          go_simp
          skip
          refine hK.out _ _ (⟨HC.out _ (Ext.trans' B3.out (Ext.trans' hHeld.2 (bel1' _ _))), Ext.trans' hHeld.2 (bel1' _ _)⟩) (fun hHeld => ?_)
          clear hK K
          try simp only [Act.put, List.setIfInBounds_toArray, List.set_cons_zero, List.set_cons_succ]
          obtain ⟨w14_, hw4, hb4, hz4, hx4⟩ := box_new w13_ #[.int .i64 0, .int .i64 0, .string ⟨#[]⟩, .slice none 0 0] 48
          rw [hw4] at hHeld ⊢
          clear hw4
          have HX3_4 := Lib.hid (HX3.out.ext hb4)
          have HX4 := Lib.hid hx4
          have HR1_2_3_4 := Lib.hid (Ext.trans' HR1_2_3.out hb4)
          have HR2_3_4 := Lib.hid (Ext.trans' HR2_3.out hb4)
          have hs4 := hb4.size
          have hl4 := hx4.lt
          clear hb4 hx4 hz4
          obtain ⟨p0, p1, p2, p3, pf⟩ := HX3_4.out.four
          have hne : (w12_.heap.size) ≠ w13_.heap.size := by omega
          have hne' : (w13_.heap.size) ≠ w12_.heap.size := by omega
          obtain ⟨q0, q1, q2, q3, qf⟩ := (HX4.out.far4 (c := w12_.heap.size) hne' (.int .i64 k1) (.int .i64 n1) (.string s1) (.slice a1 m1 cz1)).four
          have FP := Lib.hid (fin_two (p := w12_.heap.size) (q := w13_.heap.size) HV1.out HR1_2_3_4.out (fun k hk _ => ⟨by omega, by omega⟩))
          have FR := Lib.hid (fin_two (p := w12_.heap.size) (q := w13_.heap.size) HV2.out HR2_3_4.out (fun k hk _ => ⟨by omega, by omega⟩))
          have TD := Lib.hid (two_done hne (by omega) (by omega) hHeld.2 FP.out FR.out HX3_4.out HX4.out)
          have hS4 := Lib.hid hHeld.2
          refine held_c 6 fun K hK => ?_
          go_simp
          skip
          refine hK.out _ _ (⟨HC.out _ (Ext.trans' B3.out (Below.set4 hS4.out (by omega) _ _ _ _)), Below.set4 hS4.out (by omega) _ _ _ _⟩) (fun hHeld => ?_)
          clear hK K
          try simp only [Act.put, List.setIfInBounds_toArray, List.set_cons_zero, List.set_cons_succ]
          refine held_c 7 fun K hK => ?_
          go_simp
          skip
          refine hK.out _ _ (⟨HC.out _ (Ext.trans' B3.out (Below.set4 (Below.set4 hS4.out (by omega) _ _ _ _) (by omega) _ _ _ _)), Below.set4 (Below.set4 hS4.out (by omega) _ _ _ _) (by omega) _ _ _ _⟩) (fun hHeld => ?_)
          clear hK K
          try simp only [Act.put, List.setIfInBounds_toArray, List.set_cons_zero, List.set_cons_succ]
          refine wpAnyH_done (by kernel_rfl) ?_ _
          clear hHeld p0 p1 p2 p3 pf q0 q1 q2 q3 qf FP FR hS4 c0 c1 c2 c3 d0 d1 d2 d3
          go_wp2
          all_goals go_meet
          exact TD.out
        · go_simp
          skip
          refine hK.out _ _ (⟨HC.out _ (Ext.trans' B3.out (Ext.trans' hHeld.2 (bel1' _ _))), Ext.trans' hHeld.2 (bel1' _ _)⟩) (fun hHeld => ?_)
          clear hK K
          try simp only [Act.put, List.setIfInBounds_toArray, List.set_cons_zero, List.set_cons_succ]
          obtain ⟨w15_, hw5, hb5, hz5, hx5⟩ := box_new w12_ #[.int .i64 0, .int .i64 0, .string ⟨#[]⟩, .slice none 0 0] 48
          rw [hw5] at hHeld ⊢
          clear hw5
          have HX5 := Lib.hid hx5
          have HR1_2_5 := Lib.hid (Ext.trans' HR1_2.out hb5)
          have HR2_5 := Lib.hid (Ext.trans' HR2.out hb5)
          have hs5 := hb5.size
          have hl5 := hx5.lt
          clear hb5 hx5 hz5
          refine held_c 4 fun K hK => ?_
          go_simp
          skip
          refine hK.out _ _ (⟨HC.out _ (Ext.trans' B3.out (Ext.trans' hHeld.2 (bel1' _ _))), Ext.trans' hHeld.2 (bel1' _ _)⟩) (fun hHeld => ?_)
          clear hK K
          try simp only [Act.put, List.setIfInBounds_toArray, List.set_cons_zero, List.set_cons_succ]
          obtain ⟨w16_, hw6, hb6, hz6, hx6⟩ := box_new w15_ #[.int .i64 0, .int .i64 0, .string ⟨#[]⟩, .slice none 0 0] 48
          rw [hw6] at hHeld ⊢
          clear hw6
          have HX5_6 := Lib.hid (HX5.out.ext hb6)
          have HX6 := Lib.hid hx6
          have HR1_2_5_6 := Lib.hid (Ext.trans' HR1_2_5.out hb6)
          have HR2_5_6 := Lib.hid (Ext.trans' HR2_5.out hb6)
          have hs6 := hb6.size
          have hl6 := hx6.lt
          clear hb6 hx6 hz6
          obtain ⟨p0, p1, p2, p3, pf⟩ := HX6.out.four
          have hne : (w15_.heap.size) ≠ w12_.heap.size := by omega
          have hne' : (w12_.heap.size) ≠ w15_.heap.size := by omega
          obtain ⟨q0, q1, q2, q3, qf⟩ := (HX5_6.out.far4 (c := w15_.heap.size) hne' (.int .i64 k1) (.int .i64 n1) (.string s1) (.slice a1 m1 cz1)).four
          have FP := Lib.hid (fin_two (p := w15_.heap.size) (q := w12_.heap.size) HV1.out HR1_2_5_6.out (fun k hk _ => ⟨by omega, by omega⟩))
          have FR := Lib.hid (fin_two (p := w15_.heap.size) (q := w12_.heap.size) HV2.out HR2_5_6.out (fun k hk _ => ⟨by omega, by omega⟩))
          have TD := Lib.hid (two_done hne (by omega) (by omega) hHeld.2 FP.out FR.out HX6.out HX5_6.out)
          have hS4 := Lib.hid hHeld.2
          refine held_c 6 fun K hK => ?_
          go_simp
          skip
          refine hK.out _ _ (⟨HC.out _ (Ext.trans' B3.out (Below.set4 hS4.out (by omega) _ _ _ _)), Below.set4 hS4.out (by omega) _ _ _ _⟩) (fun hHeld => ?_)
          clear hK K
          try simp only [Act.put, List.setIfInBounds_toArray, List.set_cons_zero, List.set_cons_succ]
          refine held_c 7 fun K hK => ?_
          go_simp
          skip
          refine hK.out _ _ (⟨HC.out _ (Ext.trans' B3.out (Below.set4 (Below.set4 hS4.out (by omega) _ _ _ _) (by omega) _ _ _ _)), Below.set4 (Below.set4 hS4.out (by omega) _ _ _ _) (by omega) _ _ _ _⟩) (fun hHeld => ?_)
          clear hK K
          try simp only [Act.put, List.setIfInBounds_toArray, List.set_cons_zero, List.set_cons_succ]
          refine wpAnyH_done (by kernel_rfl) ?_ _
          clear hHeld p0 p1 p2 p3 pf q0 q1 q2 q3 qf FP FR hS4 c0 c1 c2 c3 d0 d1 d2 d3
          go_wp2
          all_goals go_meet
          exact TD.out
      · go_simp
        skip
        refine hK.out _ _ (⟨HC.out _ (Ext.trans' B3.out (Ext.trans' hHeld.2 (bel1' _ _))), Ext.trans' hHeld.2 (bel1' _ _)⟩) (fun hHeld => ?_)
        clear hK K
        try simp only [Act.put, List.setIfInBounds_toArray, List.set_cons_zero, List.set_cons_succ]
        obtain ⟨w17_, hw7, hb7, hz7, hx7⟩ := box_new w11_ #[.int .i64 0, .int .i64 0, .string ⟨#[]⟩, .slice none 0 0] 48
        rw [hw7] at hHeld ⊢
        clear hw7
        have HX7 := Lib.hid hx7
        have HR1_7 := Lib.hid (Ext.trans' HR1.out hb7)
        have hs7 := hb7.size
        have hl7 := hx7.lt
        clear hb7 hx7 hz7
        refine wpAnyH_ready (rs := [3, 5]) (by kernel_rfl) (by simp) ?_
        refine AllReadyH.cons (by simp only [List.getElem?_toArray, List.getElem?_cons_zero, List.getElem?_cons_succ]; rfl) (fun K hK => ?_) (AllReadyH.cons (by simp only [List.getElem?_toArray, List.getElem?_cons_zero, List.getElem?_cons_succ]; rfl) (fun K hK => ?_) AllReadyH.nil)
        · go_simp
          (go_at_call 58; refine (OY.out _ (Ext.trans' H3.out hHeld.2) (two (w11_.heap.size) (w11_.heap.size)) (two_old (by omega) (by omega))).mono ?_; rintro e w18_ ⟨vv8, rfl, hv8, hb8⟩; obtain ⟨k8, n8, s8, a8, m8, cz8, rfl⟩ := hv8.full; have HV8 := Lib.hid hv8; have HB8 := Lib.hid hb8; have hs8 := hb8.size; clear hv8)
          refine hK.out _ _ (⟨HC.out _ (Ext.trans' B3.out (Ext.trans' hHeld.2 (HB8.out))), Ext.trans' hHeld.2 (HB8.out)⟩) (fun hHeld => ?_)
          clear hK K
          try simp only [Act.put, List.setIfInBounds_toArray, List.set_cons_zero, List.set_cons_succ]
          have HX7_8 := Lib.hid (HX7.out.ext HB8.out)
          have HR1_7_8 := Lib.hid (Ext.trans' HR1_7.out HB8.out)
          have HR8 := Lib.hid (Below.refl w18_.heap.size w18_)
          clear hb8
          refine held_c 5 fun K hK => ?_
          go_simp
          skip
          refine hK.out _ _ (⟨HC.out _ (Ext.trans' B3.out (Ext.trans' hHeld.2 (bel1' _ _))), Ext.trans' hHeld.2 (bel1' _ _)⟩) (fun hHeld => ?_)
          clear hK K
          try simp only [Act.put, List.setIfInBounds_toArray, List.set_cons_zero, List.set_cons_succ]
          obtain ⟨w19_, hw9, hb9, hz9, hx9⟩ := box_new w18_ #[.int .i64 0, .int .i64 0, .string ⟨#[]⟩, .slice none 0 0] 48
          rw [hw9] at hHeld ⊢
          clear hw9
          have HX7_8_9 := Lib.hid (HX7_8.out.ext hb9)
          have HX9 := Lib.hid hx9
          have HR1_7_8_9 := Lib.hid (Ext.trans' HR1_7_8.out hb9)
          have HR8_9 := Lib.hid (Ext.trans' HR8.out hb9)
          have hs9 := hb9.size
          have hl9 := hx9.lt
          clear hb9 hx9 hz9
          obtain ⟨p0, p1, p2, p3, pf⟩ := HX7_8_9.out.four
          have hne : (w11_.heap.size) ≠ w18_.heap.size := by omega
          have hne' : (w18_.heap.size) ≠ w11_.heap.size := by omega
          obtain ⟨q0, q1, q2, q3, qf⟩ := (HX9.out.far4 (c := w11_.heap.size) hne' (.int .i64 k1) (.int .i64 n1) (.string s1) (.slice a1 m1 cz1)).four
          have FP := Lib.hid (fin_two (p := w11_.heap.size) (q := w18_.heap.size) HV1.out HR1_7_8_9.out (fun k hk _ => ⟨by omega, by omega⟩))
          have FR := Lib.hid (fin_two (p := w11_.heap.size) (q := w18_.heap.size) HV8.out HR8_9.out (fun k hk he => by have := two_no he; exact ⟨by omega, by omega⟩))
          have TD := Lib.hid (two_done hne (by omega) (by omega) hHeld.2 FP.out FR.out HX7_8_9.out HX9.out)
          have hS4 := Lib.hid hHeld.2
          refine held_c 6 fun K hK => ?_
          go_simp
          skip
          refine hK.out _ _ (⟨HC.out _ (Ext.trans' B3.out (Below.set4 hS4.out (by omega) _ _ _ _)), Below.set4 hS4.out (by omega) _ _ _ _⟩) (fun hHeld => ?_)
          clear hK K
          try simp only [Act.put, List.setIfInBounds_toArray, List.set_cons_zero, List.set_cons_succ]
          refine held_c 7 fun K hK => ?_
          go_simp
          skip
          refine hK.out _ _ (⟨HC.out _ (Ext.trans' B3.out (Below.set4 (Below.set4 hS4.out (by omega) _ _ _ _) (by omega) _ _ _ _)), Below.set4 (Below.set4 hS4.out (by omega) _ _ _ _) (by omega) _ _ _ _⟩) (fun hHeld => ?_)
          clear hK K
          try simp only [Act.put, List.setIfInBounds_toArray, List.set_cons_zero, List.set_cons_succ]
          refine wpAnyH_done (by kernel_rfl) ?_ _
          clear hHeld p0 p1 p2 p3 pf q0 q1 q2 q3 qf FP FR hS4 c0 c1 c2 c3 d0 d1 d2 d3
          go_wp2
          all_goals go_meet
          exact TD.out
        · go_simp
          skip
          refine hK.out _ _ (⟨HC.out _ (Ext.trans' B3.out (Ext.trans' hHeld.2 (bel1' _ _))), Ext.trans' hHeld.2 (bel1' _ _)⟩) (fun hHeld => ?_)
          clear hK K
          try simp only [Act.put, List.setIfInBounds_toArray, List.set_cons_zero, List.set_cons_succ]
          obtain ⟨w20_, hw10, hb10, hz10, hx10⟩ := box_new w17_ #[.int .i64 0, .int .i64 0, .string ⟨#[]⟩, .slice none 0 0] 48
          rw [hw10] at hHeld ⊢
          clear hw10
          have HX7_10 := Lib.hid (HX7.out.ext hb10)
          have HX10 := Lib.hid hx10
          have HR1_7_10 := Lib.hid (Ext.trans' HR1_7.out hb10)
          have hs10 := hb10.size
          have hl10 := hx10.lt
          clear hb10 hx10 hz10
          refine held_c 3 fun K hK => ?_
          go_simp
          (go_at_call 58; refine (OY.out _ (Ext.trans' H3.out hHeld.2) (two (w11_.heap.size) (w17_.heap.size)) (two_old (by omega) (by omega))).mono ?_; rintro e w21_ ⟨vv11, rfl, hv11, hb11⟩; obtain ⟨k11, n11, s11, a11, m11, cz11, rfl⟩ := hv11.full; have HV11 := Lib.hid hv11; have HB11 := Lib.hid hb11; have hs11 := hb11.size; clear hv11)
          refine hK.out _ _ (⟨HC.out _ (Ext.trans' B3.out (Ext.trans' hHeld.2 (HB11.out))), Ext.trans' hHeld.2 (HB11.out)⟩) (fun hHeld => ?_)
          clear hK K
          try simp only [Act.put, List.setIfInBounds_toArray, List.set_cons_zero, List.set_cons_succ]
          have HX7_10_11 := Lib.hid (HX7_10.out.ext HB11.out)
          have HX10_11 := Lib.hid (HX10.out.ext HB11.out)
          have HR1_7_10_11 := Lib.hid (Ext.trans' HR1_7_10.out HB11.out)
          have HR11 := Lib.hid (Below.refl w21_.heap.size w21_)
          clear hb11
          obtain ⟨p0, p1, p2, p3, pf⟩ := HX7_10_11.out.four
          have hne : (w11_.heap.size) ≠ w17_.heap.size := by omega
          have hne' : (w17_.heap.size) ≠ w11_.heap.size := by omega
          obtain ⟨q0, q1, q2, q3, qf⟩ := (HX10_11.out.far4 (c := w11_.heap.size) hne' (.int .i64 k1) (.int .i64 n1) (.string s1) (.slice a1 m1 cz1)).four
          have FP := Lib.hid (fin_two (p := w11_.heap.size) (q := w17_.heap.size) HV1.out HR1_7_10_11.out (fun k hk _ => ⟨by omega, by omega⟩))
          have FR := Lib.hid (fin_two (p := w11_.heap.size) (q := w17_.heap.size) HV11.out HR11.out (fun k hk he => by have := two_no he; exact ⟨by omega, by omega⟩))
          have TD := Lib.hid (two_done hne (by omega) (by omega) hHeld.2 FP.out FR.out HX7_10_11.out HX10_11.out)
          have hS4 := Lib.hid hHeld.2
          refine held_c 6 fun K hK => ?_
          go_simp
          skip
          refine hK.out _ _ (⟨HC.out _ (Ext.trans' B3.out (Below.set4 hS4.out (by omega) _ _ _ _)), Below.set4 hS4.out (by omega) _ _ _ _⟩) (fun hHeld => ?_)
          clear hK K
          try simp only [Act.put, List.setIfInBounds_toArray, List.set_cons_zero, List.set_cons_succ]
          refine held_c 7 fun K hK => ?_
          go_simp
          skip
          refine hK.out _ _ (⟨HC.out _ (Ext.trans' B3.out (Below.set4 (Below.set4 hS4.out (by omega) _ _ _ _) (by omega) _ _ _ _)), Below.set4 (Below.set4 hS4.out (by omega) _ _ _ _) (by omega) _ _ _ _⟩) (fun hHeld => ?_)
          clear hK K
          try simp only [Act.put, List.setIfInBounds_toArray, List.set_cons_zero, List.set_cons_succ]
          refine wpAnyH_done (by kernel_rfl) ?_ _
          clear hHeld p0 p1 p2 p3 pf q0 q1 q2 q3 qf FP FR hS4 c0 c1 c2 c3 d0 d1 d2 d3
          go_wp2
          all_goals go_meet
          exact TD.out
      · go_simp
        skip
        refine hK.out _ _ (⟨HC.out _ (Ext.trans' B3.out (Ext.trans' hHeld.2 (bel1' _ _))), Ext.trans' hHeld.2 (bel1' _ _)⟩) (fun hHeld => ?_)
        clear hK K
        try simp only [Act.put, List.setIfInBounds_toArray, List.set_cons_zero, List.set_cons_succ]
        obtain ⟨w22_, hw12, hb12, hz12, hx12⟩ := box_new w11_ #[.int .i64 0, .int .i64 0, .string ⟨#[]⟩, .slice none 0 0] 48
        rw [hw12] at hHeld ⊢
        clear hw12
        have HX12 := Lib.hid hx12
        have HR1_12 := Lib.hid (Ext.trans' HR1.out hb12)
        have hs12 := hb12.size
        have hl12 := hx12.lt
        clear hb12 hx12 hz12
        refine wpAnyH_ready (rs := [3, 4]) (by kernel_rfl) (by simp) ?_
        refine AllReadyH.cons (by simp only [List.getElem?_toArray, List.getElem?_cons_zero, List.getElem?_cons_succ]; rfl) (fun K hK => ?_) (AllReadyH.cons (by simp only [List.getElem?_toArray, List.getElem?_cons_zero, List.getElem?_cons_succ]; rfl) (fun K hK => ?_) AllReadyH.nil)
        · go_simp
          (go_at_call 58; refine (OY.out _ (Ext.trans' H3.out hHeld.2) (two (w11_.heap.size) (w11_.heap.size)) (two_old (by omega) (by omega))).mono ?_; rintro e w23_ ⟨vv13, rfl, hv13, hb13⟩; obtain ⟨k13, n13, s13, a13, m13, cz13, rfl⟩ := hv13.full; have HV13 := Lib.hid hv13; have HB13 := Lib.hid hb13; have hs13 := hb13.size; clear hv13)
          refine hK.out _ _ (⟨HC.out _ (Ext.trans' B3.out (Ext.trans' hHeld.2 (HB13.out))), Ext.trans' hHeld.2 (HB13.out)⟩) (fun hHeld => ?_)
          clear hK K
          try simp only [Act.put, List.setIfInBounds_toArray, List.set_cons_zero, List.set_cons_succ]
          have HX12_13 := Lib.hid (HX12.out.ext HB13.out)
          have HR1_12_13 := Lib.hid (Ext.trans' HR1_12.out HB13.out)
          have HR13 := Lib.hid (Below.refl w23_.heap.size w23_)
          clear hb13
          refine held_c 4 fun K hK => ?_
          go_simp
          skip
          refine hK.out _ _ (⟨HC.out _ (Ext.trans' B3.out (Ext.trans' hHeld.2 (bel1' _ _))), Ext.trans' hHeld.2 (bel1' _ _)⟩) (fun hHeld => ?_)
          clear hK K
          try simp only [Act.put, List.setIfInBounds_toArray, List.set_cons_zero, List.set_cons_succ]
          obtain ⟨w24_, hw14, hb14, hz14, hx14⟩ := box_new w23_ #[.int .i64 0, .int .i64 0, .string ⟨#[]⟩, .slice none 0 0] 48
          rw [hw14] at hHeld ⊢
          clear hw14
          have HX12_13_14 := Lib.hid (HX12_13.out.ext hb14)
          have HX14 := Lib.hid hx14
          have HR1_12_13_14 := Lib.hid (Ext.trans' HR1_12_13.out hb14)
          have HR13_14 := Lib.hid (Ext.trans' HR13.out hb14)
          have hs14 := hb14.size
          have hl14 := hx14.lt
          clear hb14 hx14 hz14
          obtain ⟨p0, p1, p2, p3, pf⟩ := HX14.out.four
          have hne : (w23_.heap.size) ≠ w11_.heap.size := by omega
          have hne' : (w11_.heap.size) ≠ w23_.heap.size := by omega
          obtain ⟨q0, q1, q2, q3, qf⟩ := (HX12_13_14.out.far4 (c := w23_.heap.size) hne' (.int .i64 k1) (.int .i64 n1) (.string s1) (.slice a1 m1 cz1)).four
          have FP := Lib.hid (fin_two (p := w23_.heap.size) (q := w11_.heap.size) HV1.out HR1_12_13_14.out (fun k hk _ => ⟨by omega, by omega⟩))
          have FR := Lib.hid (fin_two (p := w23_.heap.size) (q := w11_.heap.size) HV13.out HR13_14.out (fun k hk he => by have := two_no he; exact ⟨by omega, by omega⟩))
          have TD := Lib.hid (two_done hne (by omega) (by omega) hHeld.2 FP.out FR.out HX14.out HX12_13_14.out)
          have hS4 := Lib.hid hHeld.2
          refine held_c 6 fun K hK => ?_
          go_simp
          skip
          refine hK.out _ _ (⟨HC.out _ (Ext.trans' B3.out (Below.set4 hS4.out (by omega) _ _ _ _)), Below.set4 hS4.out (by omega) _ _ _ _⟩) (fun hHeld => ?_)
          clear hK K
          try simp only [Act.put, List.setIfInBounds_toArray, List.set_cons_zero, List.set_cons_succ]
          refine held_c 7 fun K hK => ?_
          go_simp
          skip
          refine hK.out _ _ (⟨HC.out _ (Ext.trans' B3.out (Below.set4 (Below.set4 hS4.out (by omega) _ _ _ _) (by omega) _ _ _ _)), Below.set4 (Below.set4 hS4.out (by omega) _ _ _ _) (by omega) _ _ _ _⟩) (fun hHeld => ?_)
          clear hK K
          try simp only [Act.put, List.setIfInBounds_toArray, List.set_cons_zero, List.set_cons_succ]
          refine wpAnyH_done (by kernel_rfl) ?_ _
          clear hHeld p0 p1 p2 p3 pf q0 q1 q2 q3 qf FP FR hS4 c0 c1 c2 c3 d0 d1 d2 d3
          go_wp2
          all_goals go_meet
          exact TD.out
        · go_simp
          skip
          refine hK.out _ _ (⟨HC.out _ (Ext.trans' B3.out (Ext.trans' hHeld.2 (bel1' _ _))), Ext.trans' hHeld.2 (bel1' _ _)⟩) (fun hHeld => ?_)
          clear hK K
          try simp only [Act.put, List.setIfInBounds_toArray, List.set_cons_zero, List.set_cons_succ]
          obtain ⟨w25_, hw15, hb15, hz15, hx15⟩ := box_new w22_ #[.int .i64 0, .int .i64 0, .string ⟨#[]⟩, .slice none 0 0] 48
          rw [hw15] at hHeld ⊢
          clear hw15
          have HX12_15 := Lib.hid (HX12.out.ext hb15)
          have HX15 := Lib.hid hx15
          have HR1_12_15 := Lib.hid (Ext.trans' HR1_12.out hb15)
          have hs15 := hb15.size
          have hl15 := hx15.lt
          clear hb15 hx15 hz15
          refine held_c 3 fun K hK => ?_
          go_simp
          (go_at_call 58; refine (OY.out _ (Ext.trans' H3.out hHeld.2) (two (w11_.heap.size) (w22_.heap.size)) (two_old (by omega) (by omega))).mono ?_; rintro e w26_ ⟨vv16, rfl, hv16, hb16⟩; obtain ⟨k16, n16, s16, a16, m16, cz16, rfl⟩ := hv16.full; have HV16 := Lib.hid hv16; have HB16 := Lib.hid hb16; have hs16 := hb16.size; clear hv16)
          refine hK.out _ _ (⟨HC.out _ (Ext.trans' B3.out (Ext.trans' hHeld.2 (HB16.out))), Ext.trans' hHeld.2 (HB16.out)⟩) (fun hHeld => ?_)
          clear hK K
          try simp only [Act.put, List.setIfInBounds_toArray, List.set_cons_zero, List.set_cons_succ]
          have HX12_15_16 := Lib.hid (HX12_15.out.ext HB16.out)
          have HX15_16 := Lib.hid (HX15.out.ext HB16.out)
          have HR1_12_15_16 := Lib.hid (Ext.trans' HR1_12_15.out HB16.out)
          have HR16 := Lib.hid (Below.refl w26_.heap.size w26_)
          clear hb16
          obtain ⟨p0, p1, p2, p3, pf⟩ := HX15_16.out.four
          have hne : (w22_.heap.size) ≠ w11_.heap.size := by omega
          have hne' : (w11_.heap.size) ≠ w22_.heap.size := by omega
          obtain ⟨q0, q1, q2, q3, qf⟩ := (HX12_15_16.out.far4 (c := w22_.heap.size) hne' (.int .i64 k1) (.int .i64 n1) (.string s1) (.slice a1 m1 cz1)).four
          have FP := Lib.hid (fin_two (p := w22_.heap.size) (q := w11_.heap.size) HV1.out HR1_12_15_16.out (fun k hk _ => ⟨by omega, by omega⟩))
          have FR := Lib.hid (fin_two (p := w22_.heap.size) (q := w11_.heap.size) HV16.out HR16.out (fun k hk he => by have := two_no he; exact ⟨by omega, by omega⟩))
          have TD := Lib.hid (two_done hne (by omega) (by omega) hHeld.2 FP.out FR.out HX15_16.out HX12_15_16.out)
          have hS4 := Lib.hid hHeld.2
          refine held_c 6 fun K hK => ?_
          go_simp
          skip
          refine hK.out _ _ (⟨HC.out _ (Ext.trans' B3.out (Below.set4 hS4.out (by omega) _ _ _ _)), Below.set4 hS4.out (by omega) _ _ _ _⟩) (fun hHeld => ?_)
          clear hK K
          try simp only [Act.put, List.setIfInBounds_toArray, List.set_cons_zero, List.set_cons_succ]
          refine held_c 7 fun K hK => ?_
          go_simp
          skip
          refine hK.out _ _ (⟨HC.out _ (Ext.trans' B3.out (Below.set4 (Below.set4 hS4.out (by omega) _ _ _ _) (by omega) _ _ _ _)), Below.set4 (Below.set4 hS4.out (by omega) _ _ _ _) (by omega) _ _ _ _⟩) (fun hHeld => ?_)
          clear hK K
          try simp only [Act.put, List.setIfInBounds_toArray, List.set_cons_zero, List.set_cons_succ]
          refine wpAnyH_done (by kernel_rfl) ?_ _
          clear hHeld p0 p1 p2 p3 pf q0 q1 q2 q3 qf FP FR hS4 c0 c1 c2 c3 d0 d1 d2 d3
          go_wp2
          all_goals go_meet
          exact TD.out
    · go_simp
      skip
      refine hK.out _ _ (⟨HC.out _ (Ext.trans' B3.out (Ext.trans' hHeld.2 (bel1' _ _))), Ext.trans' hHeld.2 (bel1' _ _)⟩) (fun hHeld => ?_)
      clear hK K
      try simp only [Act.put, List.setIfInBounds_toArray, List.set_cons_zero, List.set_cons_succ]
      obtain ⟨w27_, hw17, hb17, hz17, hx17⟩ := box_new wd #[.int .i64 0, .int .i64 0, .string ⟨#[]⟩, .slice none 0 0] 48
      rw [hw17] at hHeld ⊢
      clear hw17
      have HX17 := Lib.hid hx17
      have hs17 := hb17.size
      have hl17 := hx17.lt
      clear hb17 hx17 hz17
      refine wpAnyH_ready (rs := [1, 5]) (by kernel_rfl) (by simp) ?_
      refine AllReadyH.cons (by simp only [List.getElem?_toArray, List.getElem?_cons_zero, List.getElem?_cons_succ]; rfl) (fun K hK => ?_) (AllReadyH.cons (by simp only [List.getElem?_toArray, List.getElem?_cons_zero, List.getElem?_cons_succ]; rfl) (fun K hK => ?_) AllReadyH.nil)
      · go_simp
        (go_at_call 58; refine (OX.out _ (Ext.trans' H3.out hHeld.2) (two (wd.heap.size) (wd.heap.size)) (two_old (by omega) (by omega))).mono ?_; rintro e w28_ ⟨vv18, rfl, hv18, hb18⟩; obtain ⟨k18, n18, s18, a18, m18, cz18, rfl⟩ := hv18.full; have HV18 := Lib.hid hv18; have HB18 := Lib.hid hb18; have hs18 := hb18.size; clear hv18)
        refine hK.out _ _ (⟨HC.out _ (Ext.trans' B3.out (Ext.trans' hHeld.2 (HB18.out))), Ext.trans' hHeld.2 (HB18.out)⟩) (fun hHeld => ?_)
        clear hK K
        try simp only [Act.put, List.setIfInBounds_toArray, List.set_cons_zero, List.set_cons_succ]
        have HX17_18 := Lib.hid (HX17.out.ext HB18.out)
        have HR18 := Lib.hid (Below.refl w28_.heap.size w28_)
        clear hb18
        refine wpAnyH_ready (rs := [3, 5]) (by kernel_rfl) (by simp) ?_
        refine AllReadyH.cons (by simp only [List.getElem?_toArray, List.getElem?_cons_zero, List.getElem?_cons_succ]; rfl) (fun K hK => ?_) (AllReadyH.cons (by simp only [List.getElem?_toArray, List.getElem?_cons_zero, List.getElem?_cons_succ]; rfl) (fun K hK => ?_) AllReadyH.nil)
        · go_simp
          (go_at_call 58; refine (OY.out _ (Ext.trans' H3.out hHeld.2) (two (wd.heap.size) (wd.heap.size)) (two_old (by omega) (by omega))).mono ?_; rintro e w29_ ⟨vv19, rfl, hv19, hb19⟩; obtain ⟨k19, n19, s19, a19, m19, cz19, rfl⟩ := hv19.full; have HV19 := Lib.hid hv19; have HB19 := Lib.hid hb19; have hs19 := hb19.size; clear hv19)
          refine hK.out _ _ (⟨HC.out _ (Ext.trans' B3.out (Ext.trans' hHeld.2 (HB19.out))), Ext.trans' hHeld.2 (HB19.out)⟩) (fun hHeld => ?_)
          clear hK K
          try simp only [Act.put, List.setIfInBounds_toArray, List.set_cons_zero, List.set_cons_succ]
          have HX17_18_19 := Lib.hid (HX17_18.out.ext HB19.out)
          have HR18_19 := Lib.hid (Ext.trans' HR18.out HB19.out)
          have HR19 := Lib.hid (Below.refl w29_.heap.size w29_)
          clear hb19
          refine held_c 5 fun K hK => ?_
          go_simp
          skip
          refine hK.out _ _ (⟨HC.out _ (Ext.trans' B3.out (Ext.trans' hHeld.2 (bel1' _ _))), Ext.trans' hHeld.2 (bel1' _ _)⟩) (fun hHeld => ?_)
          clear hK K
          try simp only [Act.put, List.setIfInBounds_toArray, List.set_cons_zero, List.set_cons_succ]
          obtain ⟨w30_, hw20, hb20, hz20, hx20⟩ := box_new w29_ #[.int .i64 0, .int .i64 0, .string ⟨#[]⟩, .slice none 0 0] 48
          rw [hw20] at hHeld ⊢
          clear hw20
          have HX17_18_19_20 := Lib.hid (HX17_18_19.out.ext hb20)
          have HX20 := Lib.hid hx20
          have HR18_19_20 := Lib.hid (Ext.trans' HR18_19.out hb20)
          have HR19_20 := Lib.hid (Ext.trans' HR19.out hb20)
          have hs20 := hb20.size
          have hl20 := hx20.lt
          clear hb20 hx20 hz20
          obtain ⟨p0, p1, p2, p3, pf⟩ := HX17_18_19_20.out.four
          have hne : (wd.heap.size) ≠ w29_.heap.size := by omega
          have hne' : (w29_.heap.size) ≠ wd.heap.size := by omega
          obtain ⟨q0, q1, q2, q3, qf⟩ := (HX20.out.far4 (c := wd.heap.size) hne' (.int .i64 k18) (.int .i64 n18) (.string s18) (.slice a18 m18 cz18)).four
          have FP := Lib.hid (fin_two (p := wd.heap.size) (q := w29_.heap.size) HV18.out HR18_19_20.out (fun k hk he => by have := two_no he; exact ⟨by omega, by omega⟩))
          have FR := Lib.hid (fin_two (p := wd.heap.size) (q := w29_.heap.size) HV19.out HR19_20.out (fun k hk he => by have := two_no he; exact ⟨by omega, by omega⟩))
          have TD := Lib.hid (two_done hne (by omega) (by omega) hHeld.2 FP.out FR.out HX17_18_19_20.out HX20.out)
          have hS4 := Lib.hid hHeld.2
          refine held_c 6 fun K hK => ?_
          go_simp
          skip
          refine hK.out _ _ (⟨HC.out _ (Ext.trans' B3.out (Below.set4 hS4.out (by omega) _ _ _ _)), Below.set4 hS4.out (by omega) _ _ _ _⟩) (fun hHeld => ?_)
          clear hK K
          try simp only [Act.put, List.setIfInBounds_toArray, List.set_cons_zero, List.set_cons_succ]
          refine held_c 7 fun K hK => ?_
          go_simp
          skip
          refine hK.out _ _ (⟨HC.out _ (Ext.trans' B3.out (Below.set4 (Below.set4 hS4.out (by omega) _ _ _ _) (by omega) _ _ _ _)), Below.set4 (Below.set4 hS4.out (by omega) _ _ _ _) (by omega) _ _ _ _⟩) (fun hHeld => ?_)
          clear hK K
          try simp only [Act.put, List.setIfInBounds_toArray, List.set_cons_zero, List.set_cons_succ]
          refine wpAnyH_done (by kernel_rfl) ?_ _
          clear hHeld p0 p1 p2 p3 pf q0 q1 q2 q3 qf FP FR hS4 c0 c1 c2 c3 d0 d1 d2 d3
          go_wp2
          all_goals go_meet
          exact TD.out
        · go_simp
          skip
          refine hK.out _ _ (⟨HC.out _ (Ext.trans' B3.out (Ext.trans' hHeld.2 (bel1' _ _))), Ext.trans' hHeld.2 (bel1' _ _)⟩) (fun hHeld => ?_)
          clear hK K
          try simp only [Act.put, List.setIfInBounds_toArray, List.set_cons_zero, List.set_cons_succ]
          obtain ⟨w31_, hw21, hb21, hz21, hx21⟩ := box_new w28_ #[.int .i64 0, .int .i64 0, .string ⟨#[]⟩, .slice none 0 0] 48
          rw [hw21] at hHeld ⊢
          clear hw21
          have HX17_18_21 := Lib.hid (HX17_18.out.ext hb21)
          have HX21 := Lib.hid hx21
          have HR18_21 := Lib.hid (Ext.trans' HR18.out hb21)
          have hs21 := hb21.size
          have hl21 := hx21.lt
          clear hb21 hx21 hz21
          refine held_c 3 fun K hK => ?_
          go_simp
          (go_at_call 58; refine (OY.out _ (Ext.trans' H3.out hHeld.2) (two (wd.heap.size) (w28_.heap.size)) (two_old (by omega) (by omega))).mono ?_; rintro e w32_ ⟨vv22, rfl, hv22, hb22⟩; obtain ⟨k22, n22, s22, a22, m22, cz22, rfl⟩ := hv22.full; have HV22 := Lib.hid hv22; have HB22 := Lib.hid hb22; have hs22 := hb22.size; clear hv22)
          refine hK.out _ _ (⟨HC.out _ (Ext.trans' B3.out (Ext.trans' hHeld.2 (HB22.out))), Ext.trans' hHeld.2 (HB22.out)⟩) (fun hHeld => ?_)
          clear hK K
          try simp only [Act.put, List.setIfInBounds_toArray, List.set_cons_zero, List.set_cons_succ]
          have HX17_18_21_22 := Lib.hid (HX17_18_21.out.ext HB22.out)
          have HX21_22 := Lib.hid (HX21.out.ext HB22.out)
          have HR18_21_22 := Lib.hid (Ext.trans' HR18_21.out HB22.out)
          have HR22 := Lib.hid (Below.refl w32_.heap.size w32_)
          clear hb22
          obtain ⟨p0, p1, p2, p3, pf⟩ := HX17_18_21_22.out.four
          have hne : (wd.heap.size) ≠ w28_.heap.size := by omega
          have hne' : (w28_.heap.size) ≠ wd.heap.size := by omega
          obtain ⟨q0, q1, q2, q3, qf⟩ := (HX21_22.out.far4 (c := wd.heap.size) hne' (.int .i64 k18) (.int .i64 n18) (.string s18) (.slice a18 m18 cz18)).four
          have FP := Lib.hid (fin_two (p := wd.heap.size) (q := w28_.heap.size) HV18.out HR18_21_22.out (fun k hk he => by have := two_no he; exact ⟨by omega, by omega⟩))
          have FR := Lib.hid (fin_two (p := wd.heap.size) (q := w28_.heap.size) HV22.out HR22.out (fun k hk he => by have := two_no he; exact ⟨by omega, by omega⟩))
          have TD := Lib.hid (two_done hne (by omega) (by omega) hHeld.2 FP.out FR.out HX17_18_21_22.out HX21_22.out)
          have hS4 := Lib.hid hHeld.2
          refine held_c 6 fun K hK => ?_
          go_simp
          skip
          refine hK.out _ _ (⟨HC.out _ (Ext.trans' B3.out (Below.set4 hS4.out (by omega) _ _ _ _)), Below.set4 hS4.out (by omega) _ _ _ _⟩) (fun hHeld => ?_)
          clear hK K
          try simp only [Act.put, List.setIfInBounds_toArray, List.set_cons_zero, List.set_cons_succ]
          refine held_c 7 fun K hK => ?_
          go_simp
          skip
          refine hK.out _ _ (⟨HC.out _ (Ext.trans' B3.out (Below.set4 (Below.set4 hS4.out (by omega) _ _ _ _) (by omega) _ _ _ _)), Below.set4 (Below.set4 hS4.out (by omega) _ _ _ _) (by omega) _ _ _ _⟩) (fun hHeld => ?_)
          clear hK K
          try simp only [Act.put, List.setIfInBounds_toArray, List.set_cons_zero, List.set_cons_succ]
          refine wpAnyH_done (by kernel_rfl) ?_ _
          clear hHeld p0 p1 p2 p3 pf q0 q1 q2 q3 qf FP FR hS4 c0 c1 c2 c3 d0 d1 d2 d3
          go_wp2
          all_goals go_meet
          exact TD.out
      · go_simp
        skip
        refine hK.out _ _ (⟨HC.out _ (Ext.trans' B3.out (Ext.trans' hHeld.2 (bel1' _ _))), Ext.trans' hHeld.2 (bel1' _ _)⟩) (fun hHeld => ?_)
        clear hK K
        try simp only [Act.put, List.setIfInBounds_toArray, List.set_cons_zero, List.set_cons_succ]
        obtain ⟨w33_, hw23, hb23, hz23, hx23⟩ := box_new w27_ #[.int .i64 0, .int .i64 0, .string ⟨#[]⟩, .slice none 0 0] 48
        rw [hw23] at hHeld ⊢
        clear hw23
        have HX17_23 := Lib.hid (HX17.out.ext hb23)
        have HX23 := Lib.hid hx23
        have hs23 := hb23.size
        have hl23 := hx23.lt
        clear hb23 hx23 hz23
        refine held_c 1 fun K hK => ?_
        go_simp
        (go_at_call 58; refine (OX.out _ (Ext.trans' H3.out hHeld.2) (two (wd.heap.size) (w27_.heap.size)) (two_old (by omega) (by omega))).mono ?_; rintro e w34_ ⟨vv24, rfl, hv24, hb24⟩; obtain ⟨k24, n24, s24, a24, m24, cz24, rfl⟩ := hv24.full; have HV24 := Lib.hid hv24; have HB24 := Lib.hid hb24; have hs24 := hb24.size; clear hv24)
        refine hK.out _ _ (⟨HC.out _ (Ext.trans' B3.out (Ext.trans' hHeld.2 (HB24.out))), Ext.trans' hHeld.2 (HB24.out)⟩) (fun hHeld => ?_)
        clear hK K
        try simp only [Act.put, List.setIfInBounds_toArray, List.set_cons_zero, List.set_cons_succ]
        have HX17_23_24 := Lib.hid (HX17_23.out.ext HB24.out)
        have HX23_24 := Lib.hid (HX23.out.ext HB24.out)
        have HR24 := Lib.hid (Below.refl w34_.heap.size w34_)
        clear hb24
        refine held_c 3 fun K hK => ?_
        go_simp
        (go_at_call 58; refine (OY.out _ (Ext.trans' H3.out hHeld.2) (two (wd.heap.size) (w27_.heap.size)) (two_old (by omega) (by omega))).mono ?_; rintro e w35_ ⟨vv25, rfl, hv25, hb25⟩; obtain ⟨k25, n25, s25, a25, m25, cz25, rfl⟩ := hv25.full; have HV25 := Lib.hid hv25; have HB25 := Lib.hid hb25; have hs25 := hb25.size; clear hv25)
        refine hK.out _ _ (⟨HC.out _ (Ext.trans' B3.out (Ext.trans' hHeld.2 (HB25.out))), Ext.trans' hHeld.2 (HB25.out)⟩) (fun hHeld => ?_)
        clear hK K
        try simp only [Act.put, List.setIfInBounds_toArray, List.set_cons_zero, List.set_cons_succ]
        have HX17_23_24_25 := Lib.hid (HX17_23_24.out.ext HB25.out)
        have HX23_24_25 := Lib.hid (HX23_24.out.ext HB25.out)
        have HR24_25 := Lib.hid (Ext.trans' HR24.out HB25.out)
        have HR25 := Lib.hid (Below.refl w35_.heap.size w35_)
        clear hb25
        obtain ⟨p0, p1, p2, p3, pf⟩ := HX17_23_24_25.out.four
        have hne : (wd.heap.size) ≠ w27_.heap.size := by omega
        have hne' : (w27_.heap.size) ≠ wd.heap.size := by omega
        obtain ⟨q0, q1, q2, q3, qf⟩ := (HX23_24_25.out.far4 (c := wd.heap.size) hne' (.int .i64 k24) (.int .i64 n24) (.string s24) (.slice a24 m24 cz24)).four
        have FP := Lib.hid (fin_two (p := wd.heap.size) (q := w27_.heap.size) HV24.out HR24_25.out (fun k hk he => by have := two_no he; exact ⟨by omega, by omega⟩))
        have FR := Lib.hid (fin_two (p := wd.heap.size) (q := w27_.heap.size) HV25.out HR25.out (fun k hk he => by have := two_no he; exact ⟨by omega, by omega⟩))
        have TD := Lib.hid (two_done hne (by omega) (by omega) hHeld.2 FP.out FR.out HX17_23_24_25.out HX23_24_25.out)
        have hS4 := Lib.hid hHeld.2
        refine held_c 6 fun K hK => ?_
        go_simp
        skip
        refine hK.out _ _ (⟨HC.out _ (Ext.trans' B3.out (Below.set4 hS4.out (by omega) _ _ _ _)), Below.set4 hS4.out (by omega) _ _ _ _⟩) (fun hHeld => ?_)
        clear hK K
        try simp only [Act.put, List.setIfInBounds_toArray, List.set_cons_zero, List.set_cons_succ]
        refine held_c 7 fun K hK => ?_
        go_simp
        skip
        refine hK.out _ _ (⟨HC.out _ (Ext.trans' B3.out (Below.set4 (Below.set4 hS4.out (by omega) _ _ _ _) (by omega) _ _ _ _)), Below.set4 (Below.set4 hS4.out (by omega) _ _ _ _) (by omega) _ _ _ _⟩) (fun hHeld => ?_)
        clear hK K
        try simp only [Act.put, List.setIfInBounds_toArray, List.set_cons_zero, List.set_cons_succ]
        refine wpAnyH_done (by kernel_rfl) ?_ _
        clear hHeld p0 p1 p2 p3 pf q0 q1 q2 q3 qf FP FR hS4 c0 c1 c2 c3 d0 d1 d2 d3
        go_wp2
        all_goals go_meet
        exact TD.out
    · go_simp
      skip
      refine hK.out _ _ (⟨HC.out _ (Ext.trans' B3.out (Ext.trans' hHeld.2 (bel1' _ _))), Ext.trans' hHeld.2 (bel1' _ _)⟩) (fun hHeld => ?_)
      clear hK K
      try simp only [Act.put, List.setIfInBounds_toArray, List.set_cons_zero, List.set_cons_succ]
      obtain ⟨w36_, hw26, hb26, hz26, hx26⟩ := box_new wd #[.int .i64 0, .int .i64 0, .string ⟨#[]⟩, .slice none 0 0] 48
      rw [hw26] at hHeld ⊢
      clear hw26
      have HX26 := Lib.hid hx26
      have hs26 := hb26.size
      have hl26 := hx26.lt
      clear hb26 hx26 hz26
      refine wpAnyH_ready (rs := [1, 4]) (by kernel_rfl) (by simp) ?_
      refine AllReadyH.cons (by simp only [List.getElem?_toArray, List.getElem?_cons_zero, List.getElem?_cons_succ]; rfl) (fun K hK => ?_) (AllReadyH.cons (by simp only [List.getElem?_toArray, List.getElem?_cons_zero, List.getElem?_cons_succ]; rfl) (fun K hK => ?_) AllReadyH.nil)
      · go_simp
        (go_at_call 58; refine (OX.out _ (Ext.trans' H3.out hHeld.2) (two (wd.heap.size) (wd.heap.size)) (two_old (by omega) (by omega))).mono ?_; rintro e w37_ ⟨vv27, rfl, hv27, hb27⟩; obtain ⟨k27, n27, s27, a27, m27, cz27, rfl⟩ := hv27.full; have HV27 := Lib.hid hv27; have HB27 := Lib.hid hb27; have hs27 := hb27.size; clear hv27)
        refine hK.out _ _ (⟨HC.out _ (Ext.trans' B3.out (Ext.trans' hHeld.2 (HB27.out))), Ext.trans' hHeld.2 (HB27.out)⟩) (fun hHeld => ?_)
        clear hK K
        try simp only [Act.put, List.setIfInBounds_toArray, List.set_cons_zero, List.set_cons_succ]
        have HX26_27 := Lib.hid (HX26.out.ext HB27.out)
        have HR27 := Lib.hid (Below.refl w37_.heap.size w37_)
        clear hb27
        refine wpAnyH_ready (rs := [3, 4]) (by kernel_rfl) (by simp) ?_
        refine AllReadyH.cons (by simp only [List.getElem?_toArray, List.getElem?_cons_zero, List.getElem?_cons_succ]; rfl) (fun K hK => ?_) (AllReadyH.cons (by simp only [List.getElem?_toArray, List.getElem?_cons_zero, List.getElem?_cons_succ]; rfl) (fun K hK => ?_) AllReadyH.nil)
        · go_simp
          (go_at_call 58; refine (OY.out _ (Ext.trans' H3.out hHeld.2) (two (wd.heap.size) (wd.heap.size)) (two_old (by omega) (by omega))).mono ?_; rintro e w38_ ⟨vv28, rfl, hv28, hb28⟩; obtain ⟨k28, n28, s28, a28, m28, cz28, rfl⟩ := hv28.full; have HV28 := Lib.hid hv28; have HB28 := Lib.hid hb28; have hs28 := hb28.size; clear hv28)
          refine hK.out _ _ (⟨HC.out _ (Ext.trans' B3.out (Ext.trans' hHeld.2 (HB28.out))), Ext.trans' hHeld.2 (HB28.out)⟩) (fun hHeld => ?_)
          clear hK K
          try simp only [Act.put, List.setIfInBounds_toArray, List.set_cons_zero, List.set_cons_succ]
          have HX26_27_28 := Lib.hid (HX26_27.out.ext HB28.out)
          have HR27_28 := Lib.hid (Ext.trans' HR27.out HB28.out)
          have HR28 := Lib.hid (Below.refl w38_.heap.size w38_)
          clear hb28
          refine held_c 4 fun K hK => ?_
          go_simp
          skip
          refine hK.out _ _ (⟨HC.out _ (Ext.trans' B3.out (Ext.trans' hHeld.2 (bel1' _ _))), Ext.trans' hHeld.2 (bel1' _ _)⟩) (fun hHeld => ?_)
          clear hK K
          try simp only [Act.put, List.setIfInBounds_toArray, List.set_cons_zero, List.set_cons_succ]
          obtain ⟨w39_, hw29, hb29, hz29, hx29⟩ := box_new w38_ #[.int .i64 0, .int .i64 0, .string ⟨#[]⟩, .slice none 0 0] 48
          rw [hw29] at hHeld ⊢
          clear hw29
          have HX26_27_28_29 := Lib.hid (HX26_27_28.out.ext hb29)
          have HX29 := Lib.hid hx29
          have HR27_28_29 := Lib.hid (Ext.trans' HR27_28.out hb29)
          have HR28_29 := Lib.hid (Ext.trans' HR28.out hb29)
          have hs29 := hb29.size
          have hl29 := hx29.lt
          clear hb29 hx29 hz29
          obtain ⟨p0, p1, p2, p3, pf⟩ := HX29.out.four
          have hne : (w38_.heap.size) ≠ wd.heap.size := by omega
          have hne' : (wd.heap.size) ≠ w38_.heap.size := by omega
          obtain ⟨q0, q1, q2, q3, qf⟩ := (HX26_27_28_29.out.far4 (c := w38_.heap.size) hne' (.int .i64 k27) (.int .i64 n27) (.string s27) (.slice a27 m27 cz27)).four
          have FP := Lib.hid (fin_two (p := w38_.heap.size) (q := wd.heap.size) HV27.out HR27_28_29.out (fun k hk he => by have := two_no he; exact ⟨by omega, by omega⟩))
          have FR := Lib.hid (fin_two (p := w38_.heap.size) (q := wd.heap.size) HV28.out HR28_29.out (fun k hk he => by have := two_no he; exact ⟨by omega, by omega⟩))
          have TD := Lib.hid (two_done hne (by omega) (by omega) hHeld.2 FP.out FR.out HX29.out HX26_27_28_29.out)
          have hS4 := Lib.hid hHeld.2
          refine held_c 6 fun K hK => ?_
          go_simp
          skip
          refine hK.out _ _ (⟨HC.out _ (Ext.trans' B3.out (Below.set4 hS4.out (by omega) _ _ _ _)), Below.set4 hS4.out (by omega) _ _ _ _⟩) (fun hHeld => ?_)
          clear hK K
          try simp only [Act.put, List.setIfInBounds_toArray, List.set_cons_zero, List.set_cons_succ]
          refine held_c 7 fun K hK => ?_
          go_simp
          skip
          refine hK.out _ _ (⟨HC.out _ (Ext.trans' B3.out (Below.set4 (Below.set4 hS4.out (by omega) _ _ _ _) (by omega) _ _ _ _)), Below.set4 (Below.set4 hS4.out (by omega) _ _ _ _) (by omega) _ _ _ _⟩) (fun hHeld => ?_)
          clear hK K
          try simp only [Act.put, List.setIfInBounds_toArray, List.set_cons_zero, List.set_cons_succ]
          refine wpAnyH_done (by kernel_rfl) ?_ _
          clear hHeld p0 p1 p2 p3 pf q0 q1 q2 q3 qf FP FR hS4 c0 c1 c2 c3 d0 d1 d2 d3
          go_wp2
          all_goals go_meet
          exact TD.out
        · go_simp
          skip
          refine hK.out _ _ (⟨HC.out _ (Ext.trans' B3.out (Ext.trans' hHeld.2 (bel1' _ _))), Ext.trans' hHeld.2 (bel1' _ _)⟩) (fun hHeld => ?_)
          clear hK K
          try simp only [Act.put, List.setIfInBounds_toArray, List.set_cons_zero, List.set_cons_succ]
          obtain ⟨w40_, hw30, hb30, hz30, hx30⟩ := box_new w37_ #[.int .i64 0, .int .i64 0, .string ⟨#[]⟩, .slice none 0 0] 48
          rw [hw30] at hHeld ⊢
          clear hw30
          have HX26_27_30 := Lib.hid (HX26_27.out.ext hb30)
          have HX30 := Lib.hid hx30
          have HR27_30 := Lib.hid (Ext.trans' HR27.out hb30)
          have hs30 := hb30.size
          have hl30 := hx30.lt
          clear hb30 hx30 hz30
          refine held_c 3 fun K hK => ?_
          go_simp
          (go_at_call 58; refine (OY.out _ (Ext.trans' H3.out hHeld.2) (two (wd.heap.size) (w37_.heap.size)) (two_old (by omega) (by omega))).mono ?_; rintro e w41_ ⟨vv31, rfl, hv31, hb31⟩; obtain ⟨k31, n31, s31, a31, m31, cz31, rfl⟩ := hv31.full; have HV31 := Lib.hid hv31; have HB31 := Lib.hid hb31; have hs31 := hb31.size; clear hv31)
          refine hK.out _ _ (⟨HC.out _ (Ext.trans' B3.out (Ext.trans' hHeld.2 (HB31.out))), Ext.trans' hHeld.2 (HB31.out)⟩) (fun hHeld => ?_)
          clear hK K
          try simp only [Act.put, List.setIfInBounds_toArray, List.set_cons_zero, List.set_cons_succ]
          have HX26_27_30_31 := Lib.hid (HX26_27_30.out.ext HB31.out)
          have HX30_31 := Lib.hid (HX30.out.ext HB31.out)
          have HR27_30_31 := Lib.hid (Ext.trans' HR27_30.out HB31.out)
          have HR31 := Lib.hid (Below.refl w41_.heap.size w41_)
          clear hb31
          obtain ⟨p0, p1, p2, p3, pf⟩ := HX30_31.out.four
          have hne : (w37_.heap.size) ≠ wd.heap.size := by omega
          have hne' : (wd.heap.size) ≠ w37_.heap.size := by omega
          obtain ⟨q0, q1, q2, q3, qf⟩ := (HX26_27_30_31.out.far4 (c := w37_.heap.size) hne' (.int .i64 k27) (.int .i64 n27) (.string s27) (.slice a27 m27 cz27)).four
          have FP := Lib.hid (fin_two (p := w37_.heap.size) (q := wd.heap.size) HV27.out HR27_30_31.out (fun k hk he => by have := two_no he; exact ⟨by omega, by omega⟩))
          have FR := Lib.hid (fin_two (p := w37_.heap.size) (q := wd.heap.size) HV31.out HR31.out (fun k hk he => by have := two_no he; exact ⟨by omega, by omega⟩))
          have TD := Lib.hid (two_done hne (by omega) (by omega) hHeld.2 FP.out FR.out HX30_31.out HX26_27_30_31.out)
          have hS4 := Lib.hid hHeld.2
          refine held_c 6 fun K hK => ?_
          go_simp
          skip
          refine hK.out _ _ (⟨HC.out _ (Ext.trans' B3.out (Below.set4 hS4.out (by omega) _ _ _ _)), Below.set4 hS4.out (by omega) _ _ _ _⟩) (fun hHeld => ?_)
          clear hK K
          try simp only [Act.put, List.setIfInBounds_toArray, List.set_cons_zero, List.set_cons_succ]
          refine held_c 7 fun K hK => ?_
          go_simp
          skip
          refine hK.out _ _ (⟨HC.out _ (Ext.trans' B3.out (Below.set4 (Below.set4 hS4.out (by omega) _ _ _ _) (by omega) _ _ _ _)), Below.set4 (Below.set4 hS4.out (by omega) _ _ _ _) (by omega) _ _ _ _⟩) (fun hHeld => ?_)
          clear hK K
          try simp only [Act.put, List.setIfInBounds_toArray, List.set_cons_zero, List.set_cons_succ]
          refine wpAnyH_done (by kernel_rfl) ?_ _
          clear hHeld p0 p1 p2 p3 pf q0 q1 q2 q3 qf FP FR hS4 c0 c1 c2 c3 d0 d1 d2 d3
          go_wp2
          all_goals go_meet
          exact TD.out
      · go_simp
        skip
        refine hK.out _ _ (⟨HC.out _ (Ext.trans' B3.out (Ext.trans' hHeld.2 (bel1' _ _))), Ext.trans' hHeld.2 (bel1' _ _)⟩) (fun hHeld => ?_)
        clear hK K
        try simp only [Act.put, List.setIfInBounds_toArray, List.set_cons_zero, List.set_cons_succ]
        obtain ⟨w42_, hw32, hb32, hz32, hx32⟩ := box_new w36_ #[.int .i64 0, .int .i64 0, .string ⟨#[]⟩, .slice none 0 0] 48
        rw [hw32] at hHeld ⊢
        clear hw32
        have HX26_32 := Lib.hid (HX26.out.ext hb32)
        have HX32 := Lib.hid hx32
        have hs32 := hb32.size
        have hl32 := hx32.lt
        clear hb32 hx32 hz32
        refine held_c 1 fun K hK => ?_
        go_simp
        (go_at_call 58; refine (OX.out _ (Ext.trans' H3.out hHeld.2) (two (wd.heap.size) (w36_.heap.size)) (two_old (by omega) (by omega))).mono ?_; rintro e w43_ ⟨vv33, rfl, hv33, hb33⟩; obtain ⟨k33, n33, s33, a33, m33, cz33, rfl⟩ := hv33.full; have HV33 := Lib.hid hv33; have HB33 := Lib.hid hb33; have hs33 := hb33.size; clear hv33)
        refine hK.out _ _ (⟨HC.out _ (Ext.trans' B3.out (Ext.trans' hHeld.2 (HB33.out))), Ext.trans' hHeld.2 (HB33.out)⟩) (fun hHeld => ?_)
        clear hK K
        try simp only [Act.put, List.setIfInBounds_toArray, List.set_cons_zero, List.set_cons_succ]
        have HX26_32_33 := Lib.hid (HX26_32.out.ext HB33.out)
        have HX32_33 := Lib.hid (HX32.out.ext HB33.out)
        have HR33 := Lib.hid (Below.refl w43_.heap.size w43_)
        clear hb33
        refine held_c 3 fun K hK => ?_
        go_simp
        (go_at_call 58; refine (OY.out _ (Ext.trans' H3.out hHeld.2) (two (wd.heap.size) (w36_.heap.size)) (two_old (by omega) (by omega))).mono ?_; rintro e w44_ ⟨vv34, rfl, hv34, hb34⟩; obtain ⟨k34, n34, s34, a34, m34, cz34, rfl⟩ := hv34.full; have HV34 := Lib.hid hv34; have HB34 := Lib.hid hb34; have hs34 := hb34.size; clear hv34)
        refine hK.out _ _ (⟨HC.out _ (Ext.trans' B3.out (Ext.trans' hHeld.2 (HB34.out))), Ext.trans' hHeld.2 (HB34.out)⟩) (fun hHeld => ?_)
        clear hK K
        try simp only [Act.put, List.setIfInBounds_toArray, List.set_cons_zero, List.set_cons_succ]
        have HX26_32_33_34 := Lib.hid (HX26_32_33.out.ext HB34.out)
        have HX32_33_34 := Lib.hid (HX32_33.out.ext HB34.out)
        have HR33_34 := Lib.hid (Ext.trans' HR33.out HB34.out)
        have HR34 := Lib.hid (Below.refl w44_.heap.size w44_)
        clear hb34
        obtain ⟨p0, p1, p2, p3, pf⟩ := HX32_33_34.out.four
        have hne : (w36_.heap.size) ≠ wd.heap.size := by omega
        have hne' : (wd.heap.size) ≠ w36_.heap.size := by omega
        obtain ⟨q0, q1, q2, q3, qf⟩ := (HX26_32_33_34.out.far4 (c := w36_.heap.size) hne' (.int .i64 k33) (.int .i64 n33) (.string s33) (.slice a33 m33 cz33)).four
        have FP := Lib.hid (fin_two (p := w36_.heap.size) (q := wd.heap.size) HV33.out HR33_34.out (fun k hk he => by have := two_no he; exact ⟨by omega, by omega⟩))
        have FR := Lib.hid (fin_two (p := w36_.heap.size) (q := wd.heap.size) HV34.out HR34.out (fun k hk he => by have := two_no he; exact ⟨by omega, by omega⟩))
        have TD := Lib.hid (two_done hne (by omega) (by omega) hHeld.2 FP.out FR.out HX32_33_34.out HX26_32_33_34.out)
        have hS4 := Lib.hid hHeld.2
        refine held_c 6 fun K hK => ?_
        go_simp
        skip
        refine hK.out _ _ (⟨HC.out _ (Ext.trans' B3.out (Below.set4 hS4.out (by omega) _ _ _ _)), Below.set4 hS4.out (by omega) _ _ _ _⟩) (fun hHeld => ?_)
        clear hK K
        try simp only [Act.put, List.setIfInBounds_toArray, List.set_cons_zero, List.set_cons_succ]
        refine held_c 7 fun K hK => ?_
        go_simp
        skip
        refine hK.out _ _ (⟨HC.out _ (Ext.trans' B3.out (Below.set4 (Below.set4 hS4.out (by omega) _ _ _ _) (by omega) _ _ _ _)), Below.set4 (Below.set4 hS4.out (by omega) _ _ _ _) (by omega) _ _ _ _⟩) (fun hHeld => ?_)
        clear hK K
        try simp only [Act.put, List.setIfInBounds_toArray, List.set_cons_zero, List.set_cons_succ]
        refine wpAnyH_done (by kernel_rfl) ?_ _
        clear hHeld p0 p1 p2 p3 pf q0 q1 q2 q3 qf FP FR hS4 c0 c1 c2 c3 d0 d1 d2 d3
        go_wp2
        all_goals go_meet
        exact TD.out
  case rest =>
    obtain ⟨p, q, k1, n1, s1, a1, m1, c1', k2, n2, s2, a2, m2, c2', rfl, rfl, hbx, hby, hv1, hv2, hbw⟩ := hcut
    have H4 := Lib.hid (And.intro (Ext.trans' H3.out hbw) (Ext.trans' B3.out hbw))
    have HX4 := Lib.hid (And.intro hbx hby)
    have HT4 := Lib.hid (And.intro hv1 hv2)
    clear hbx hby hv1 hv2 hbw H3 B3 OX OY c0 c1 c2 c3 d0 d1 d2 d3
    generalize wc = w4 at *
    obtain ⟨T, z, er, hfr⟩ : ∃ T z er, fromE first x = (T, z, er) := ⟨_, _, _, rfl⟩
    obtain ⟨z0, hpl⟩ := from_plain x
    obtain ⟨P, pe, hpp⟩ : ∃ P pe, plainE x = (P, pe) := ⟨_, _, rfl⟩
    rw [hpp] at hpl
    obtain ⟨⟨c0, c1, c2, c3⟩, d0, d1, d2, d3⟩ := HC.out _ H4.out.2
    have C := pFrom_at x first HFI.out w4 _ (HXY.out w4 H4.out.1).1
    unfold FromP at C
    rw [hfr] at C
    (go_wp2_with fail; go_fit (C); rintro e w5 ⟨r, rfl, ht, b5⟩)
    obtain ⟨k5, n5, s5, a5, m5, c5, rfl, f1, f2, f3, f4⟩ := four_of ht
    obtain ⟨w6, e6, b6, zz, x6⟩ := box_new w5 #[.int .i64 k5, .int .i64 n5, .string s5, .slice a5 m5 c5] 31
    have hb6 := Ext.trans' b5 b6
    have HB6 := Lib.hid hb6
    have HX6 := Lib.hid x6
    have HT6 := Lib.hid (TmV.ext b6 _ _ ht.bare)
    have HE6 := Lib.hid e6
    obtain ⟨b9, hb9⟩ : ∃ b, w5.heap.size = b := ⟨_, rfl⟩
    rw [hb9] at HX6
    have HEB := Lib.hid hb9
    clear f1 f2 f3 f4 ht b5 b6 zz x6 e6 C hb6 hb9 c0 c1 c2 c3 d0 d1 d2 d3
    go_upto_region 7 with fail
    (try rw [HE6.out])
    (try rw [HEB.out])
    obtain ⟨p0, p1, p2, p3, _⟩ := (HX4.out.1.ext HB6.out).four
    have C := rFrom_at x first HFI.out w6 _ (TmV.ext HB6.out _ _ HT4.out.1)
    unfold FromP at C
    rw [hfr] at C
    clear HEB HE6
    (go_wp2_with fail; go_fit (C); rintro e w7 ⟨r, rfl, ht, b7⟩)
    obtain ⟨k7, n7, s7, a7, m7, c7, rfl, f1, f2, f3, f4⟩ := four_of ht
    obtain ⟨w8, e8, b8, zz, x8⟩ := box_new w7 #[.int .i64 k7, .int .i64 n7, .string s7, .slice a7 m7 c7] 48
    have hb8 := Ext.trans' b7 b8
    have HB8 := Lib.hid (And.intro (Ext.trans' HB6.out hb8) hb8)
    have HX8 := Lib.hid x8
    have HT8 := Lib.hid (TmV.ext b8 _ _ ht.bare)
    have HE8 := Lib.hid e8
    obtain ⟨b12, hb12⟩ : ∃ b, w7.heap.size = b := ⟨_, rfl⟩
    rw [hb12] at HX8
    have HEB := Lib.hid hb12
    clear f1 f2 f3 f4 ht b7 b8 zz x8 e8 C hb8 hb12 p0 p1 p2 p3
    go_upto_region 8 with fail
    (try rw [HE8.out])
    (try rw [HEB.out])
    obtain ⟨⟨c0, c1, c2, c3⟩, d0, d1, d2, d3⟩ := HC.out _ (Ext.trans' H4.out.2 HB8.out.1)
    have C := Plain_at x w8 _ (HXY.out w8 (Ext.trans' H4.out.1 HB8.out.1)).1
    unfold PlainP at C
    rw [hpp] at C
    clear HEB HE8
    (go_wp2_with fail; go_fit (C); rintro e w9 ⟨r, rfl, ht, b9_⟩)
    obtain ⟨k9, n9, s9, a9, m9, c9, rfl, f1, f2, f3, f4⟩ := four_of ht
    obtain ⟨w10, e10, b10, zz, x10⟩ := box_new w9 #[.int .i64 k9, .int .i64 n9, .string s9, .slice a9 m9 c9] 31
    have hb10 := Ext.trans' b9_ b10
    have HB10 := Lib.hid (And.intro (Ext.trans' HB8.out.1 hb10) (And.intro (Ext.trans' HB8.out.2 hb10) hb10))
    have HX10 := Lib.hid x10
    have HT10 := Lib.hid (TmV.ext b10 _ _ ht.bare)
    have HE10 := Lib.hid e10
    obtain ⟨b15, hb15⟩ : ∃ b, w9.heap.size = b := ⟨_, rfl⟩
    rw [hb15] at HX10
    have HEB := Lib.hid hb15
    clear f1 f2 f3 f4 ht b9_ b10 zz x10 e10 C hb10 hb15 c0 c1 c2 c3 d0 d1 d2 d3
    go_upto_region 9 with fail
    (try rw [HE10.out])
    (try rw [HEB.out])
    obtain ⟨p0, p1, p2, p3, _⟩ := (HX4.out.1.ext HB10.out.1).four
    have C := rFrom_at x 0 i64_0 w10 _ (TmV.ext HB10.out.1 _ _ HT4.out.1)
    unfold FromP at C
    rw [hpl] at C
    clear HEB HE10
    (go_wp2_with fail; go_fit (C); rintro e w11 ⟨r, rfl, ht, b11⟩)
    obtain ⟨k11, n11, s11, a11, m11, c11, rfl, f1, f2, f3, f4⟩ := four_of ht
    obtain ⟨w12, e12, b12_, zz, x12⟩ := box_new w11 #[.int .i64 k11, .int .i64 n11, .string s11, .slice a11 m11 c11] 48
    have hb12 := Ext.trans' b11 b12_
    have h4 := Ext.trans' HB10.out.1 hb12
    have HBW := Lib.hid (Ext.trans' H4.out.1 h4)
    have HX12 := Lib.hid (And.intro ((HX4.out.1.ext h4)) (And.intro (HX4.out.2.ext h4) (And.intro (HX6.out.ext (Ext.trans' HB10.out.2.1 hb12 |> fun h => Ext.trans' HB8.out.2 (Ext.trans' HB10.out.2.2 hb12))) (And.intro (HX8.out.ext (Ext.trans' HB10.out.2.2 hb12)) (And.intro (HX10.out.ext hb12) x12)))))
    have HT12 := Lib.hid (And.intro (TmV.ext h4 _ _ HT4.out.1) (And.intro (TmV.ext h4 _ _ HT4.out.2) (And.intro (TmV.ext (Ext.trans' HB8.out.2 (Ext.trans' HB10.out.2.2 hb12)) _ _ HT6.out) (And.intro (TmV.ext (Ext.trans' HB10.out.2.2 hb12) _ _ HT8.out) (And.intro (TmV.ext hb12 _ _ HT10.out) (TmV.ext b12_ _ _ ht.bare))))))
    have HC4 := Lib.hid (Ext.trans' H4.out.2 h4)
    have HE12 := Lib.hid e12
    obtain ⟨b17, hb17⟩ : ∃ b, w11.heap.size = b := ⟨_, rfl⟩
    rw [hb17] at HX12
    have HEB := Lib.hid hb17
    clear f1 f2 f3 f4 ht b11 b12_ zz x12 e12 C hb12 h4 hb17 p0 p1 p2 p3 HT4 HX4 HT6 HT8 HT10 HX6 HX8 HX10 HB6 HB8 HB10 H4
    go_upto_region 10 with fail
    (try rw [HE12.out])
    (try rw [HEB.out])
    clear HEB HE12 hfr hpl hpp
    have HC9 := Lib.hid (fun (wq : World) (hb : Below w12.heap.size w12 wq) => (show ((wq.cell? ⟨W.heap.size, 0, none⟩ = some (.int .i64 k) ∧ wq.cell? ⟨W.heap.size, 1, none⟩ = some (.int .i64 n) ∧ wq.cell? ⟨W.heap.size, 2, none⟩ = some (.string s) ∧ wq.cell? ⟨W.heap.size, 3, none⟩ = some (.slice a m c)) ∧ (wq.cell? ⟨W.heap.size + 1, 0, none⟩ = some (.int .i64 k') ∧ wq.cell? ⟨W.heap.size + 1, 1, none⟩ = some (.int .i64 n') ∧ wq.cell? ⟨W.heap.size + 1, 2, none⟩ = some (.string s') ∧ wq.cell? ⟨W.heap.size + 1, 3, none⟩ = some (.slice a' m' c')) ∧ (wq.cell? ⟨p, 0, none⟩ = some (.int .i64 k1) ∧ wq.cell? ⟨p, 1, none⟩ = some (.int .i64 n1) ∧ wq.cell? ⟨p, 2, none⟩ = some (.string s1) ∧ wq.cell? ⟨p, 3, none⟩ = some (.slice a1 m1 c1')) ∧ (wq.cell? ⟨q, 0, none⟩ = some (.int .i64 k2) ∧ wq.cell? ⟨q, 1, none⟩ = some (.int .i64 n2) ∧ wq.cell? ⟨q, 2, none⟩ = some (.string s2) ∧ wq.cell? ⟨q, 3, none⟩ = some (.slice a2 m2 c2')) ∧ (wq.cell? ⟨b9, 0, none⟩ = some (.int .i64 k5) ∧ wq.cell? ⟨b9, 1, none⟩ = some (.int .i64 n5) ∧ wq.cell? ⟨b9, 2, none⟩ = some (.string s5) ∧ wq.cell? ⟨b9, 3, none⟩ = some (.slice a5 m5 c5)) ∧ (wq.cell? ⟨b12, 0, none⟩ = some (.int .i64 k7) ∧ wq.cell? ⟨b12, 1, none⟩ = some (.int .i64 n7) ∧ wq.cell? ⟨b12, 2, none⟩ = some (.string s7) ∧ wq.cell? ⟨b12, 3, none⟩ = some (.slice a7 m7 c7)) ∧ (wq.cell? ⟨b15, 0, none⟩ = some (.int .i64 k9) ∧ wq.cell? ⟨b15, 1, none⟩ = some (.int .i64 n9) ∧ wq.cell? ⟨b15, 2, none⟩ = some (.string s9) ∧ wq.cell? ⟨b15, 3, none⟩ = some (.slice a9 m9 c9)) ∧ (wq.cell? ⟨b17, 0, none⟩ = some (.int .i64 k11) ∧ wq.cell? ⟨b17, 1, none⟩ = some (.int .i64 n11) ∧ wq.cell? ⟨b17, 2, none⟩ = some (.string s11) ∧ wq.cell? ⟨b17, 3, none⟩ = some (.slice a11 m11 c11))) ∧ Below w12.heap.size w12 wq from by
      have hc := HC.out _ (Ext.trans' HC4.out hb)
      obtain ⟨p0, p1, p2, p3, _⟩ := (HX12.out.1.ext hb).four
      obtain ⟨q0, q1, q2, q3, _⟩ := (HX12.out.2.1.ext hb).four
      obtain ⟨r0, r1, r2, r3, _⟩ := (HX12.out.2.2.1.ext hb).four
      obtain ⟨t0, t1, t2, t3, _⟩ := (HX12.out.2.2.2.1.ext hb).four
      obtain ⟨u0, u1, u2, u3, _⟩ := (HX12.out.2.2.2.2.1.ext hb).four
      obtain ⟨v0, v1, v2, v3, _⟩ := (HX12.out.2.2.2.2.2.ext hb).four
      exact ⟨⟨hc.1, hc.2, ⟨p0, p1, p2, p3⟩, ⟨q0, q1, q2, q3⟩, ⟨r0, r1, r2, r3⟩, ⟨t0, t1, t2, t3⟩, ⟨u0, u1, u2, u3⟩, v0, v1, v2, v3⟩, hb⟩))
    have HTX := Lib.hid (fun (wq : World) (hb : Below w12.heap.size w12 wq) => (HXY.out wq (Ext.trans' HBW.out hb)))
    have hz1 : (z == z) = true := by simp
    have hz2 : (er == er) = true := by simp
    have hz3 : (pe == pe) = true := by simp
    obtain ⟨A, hA⟩ : ∃ A, alikeB x y = A := ⟨_, rfl⟩
    obtain ⟨M, hM⟩ : ∃ A, moreB x y = A := ⟨_, rfl⟩
    have HA := Lib.hid (And.intro hA hM)
    have hz4 : (A == A) = true := by simp
    have hz5 : (M == M) = true := by simp
    clear hA hM HC HX2 HE HW
    refine wp_region_held_drew (S := fun wq => ((wq.cell? ⟨W.heap.size, 0, none⟩ = some (.int .i64 k) ∧ wq.cell? ⟨W.heap.size, 1, none⟩ = some (.int .i64 n) ∧ wq.cell? ⟨W.heap.size, 2, none⟩ = some (.string s) ∧ wq.cell? ⟨W.heap.size, 3, none⟩ = some (.slice a m c)) ∧ (wq.cell? ⟨W.heap.size + 1, 0, none⟩ = some (.int .i64 k') ∧ wq.cell? ⟨W.heap.size + 1, 1, none⟩ = some (.int .i64 n') ∧ wq.cell? ⟨W.heap.size + 1, 2, none⟩ = some (.string s') ∧ wq.cell? ⟨W.heap.size + 1, 3, none⟩ = some (.slice a' m' c')) ∧ (wq.cell? ⟨p, 0, none⟩ = some (.int .i64 k1) ∧ wq.cell? ⟨p, 1, none⟩ = some (.int .i64 n1) ∧ wq.cell? ⟨p, 2, none⟩ = some (.string s1) ∧ wq.cell? ⟨p, 3, none⟩ = some (.slice a1 m1 c1')) ∧ (wq.cell? ⟨q, 0, none⟩ = some (.int .i64 k2) ∧ wq.cell? ⟨q, 1, none⟩ = some (.int .i64 n2) ∧ wq.cell? ⟨q, 2, none⟩ = some (.string s2) ∧ wq.cell? ⟨q, 3, none⟩ = some (.slice a2 m2 c2')) ∧ (wq.cell? ⟨b9, 0, none⟩ = some (.int .i64 k5) ∧ wq.cell? ⟨b9, 1, none⟩ = some (.int .i64 n5) ∧ wq.cell? ⟨b9, 2, none⟩ = some (.string s5) ∧ wq.cell? ⟨b9, 3, none⟩ = some (.slice a5 m5 c5)) ∧ (wq.cell? ⟨b12, 0, none⟩ = some (.int .i64 k7) ∧ wq.cell? ⟨b12, 1, none⟩ = some (.int .i64 n7) ∧ wq.cell? ⟨b12, 2, none⟩ = some (.string s7) ∧ wq.cell? ⟨b12, 3, none⟩ = some (.slice a7 m7 c7)) ∧ (wq.cell? ⟨b15, 0, none⟩ = some (.int .i64 k9) ∧ wq.cell? ⟨b15, 1, none⟩ = some (.int .i64 n9) ∧ wq.cell? ⟨b15, 2, none⟩ = some (.string s9) ∧ wq.cell? ⟨b15, 3, none⟩ = some (.slice a9 m9 c9)) ∧ (wq.cell? ⟨b17, 0, none⟩ = some (.int .i64 k11) ∧ wq.cell? ⟨b17, 1, none⟩ = some (.int .i64 n11) ∧ wq.cell? ⟨b17, 2, none⟩ = some (.string s11) ∧ wq.cell? ⟨b17, 3, none⟩ = some (.slice a11 m11 c11))) ∧ Below w12.heap.size w12 wq) (by kernel_rfl) (HC9.out _ (Below.refl _ _).drew) (fun hHeld => ?_)
    first | (refine held_t (i := 0) hHeld ?_; apply Exists.intro; refine ⟨fun wq hq => ?_, ?_⟩; (focus ((try dsimp only at hq); go_simp; (first | done | with_reducible rfl | fail)))) | refine held_s (i := 0) hHeld ?_ | fail
    first | (refine held_t (i := 2) hHeld ?_; apply Exists.intro; refine ⟨fun wq hq => ?_, ?_⟩; (focus ((try dsimp only at hq); go_simp; (first | done | with_reducible rfl | fail)))) | refine held_s (i := 2) hHeld ?_ | fail
    try simp only [Act.put, List.setIfInBounds_toArray, List.set_cons_zero, List.set_cons_succ]
    refine held_c 1 fun K hK => ?_
    go_simp
    (go_at_call 58; refine (own13_at T (fun _ => false) _ _ (fun _ _ => rfl) (TmV.ext hHeld.2 _ _ HT12.out.2.2.1)).mono ?_; rintro e u1 ⟨vv, rfl, hvv, h6⟩; have HU1 := Lib.hid (And.intro hvv.bare (Below.refl u1.heap.size u1)); clear hvv)
    refine hK.out _ _ (HC9.out _ (Ext.trans' hHeld.2 h6)) (fun hHeld => ?_)
    clear hK K
    try simp only [Act.put, List.setIfInBounds_toArray, List.set_cons_zero, List.set_cons_succ]
    refine held_c 3 fun K hK => ?_
    go_simp
    (go_at_call 36; refine (rsame_at _ T (Nat.le_refl _) T _ _ _ HU1.out.1 (TmV.ext hHeld.2 _ _ HT12.out.2.2.2.1)).mono ?_; rintro e u2 ⟨rfl, h6⟩; rw [same_self])
    refine hK.out _ _ (HC9.out _ (Ext.trans' hHeld.2 h6)) (fun hHeld => ?_)
    clear hK K
    try simp only [Act.put, List.setIfInBounds_toArray, List.set_cons_zero, List.set_cons_succ]
    first | (refine held_t (i := 4) hHeld ?_; apply Exists.intro; refine ⟨fun wq hq => ?_, ?_⟩; (focus ((try dsimp only at hq); go_simp; (first | done | with_reducible rfl | fail)))) | refine held_s (i := 4) hHeld ?_ | fail
    first | (refine held_t (i := 5) hHeld ?_; apply Exists.intro; refine ⟨fun wq hq => ?_, ?_⟩; (focus ((try dsimp only at hq); go_simp; (first | done | with_reducible rfl | fail)))) | refine held_s (i := 5) hHeld ?_ | fail
    first | (refine held_t (i := 6) hHeld ?_; apply Exists.intro; refine ⟨fun wq hq => ?_, ?_⟩; (focus ((try dsimp only at hq); go_simp; (first | done | with_reducible rfl | fail)))) | refine held_s (i := 6) hHeld ?_ | fail
    try simp only [Act.put, List.setIfInBounds_toArray, List.set_cons_zero, List.set_cons_succ]
    first | (refine held_t (i := 7) hHeld ?_; apply Exists.intro; refine ⟨fun wq hq => ?_, ?_⟩; (focus ((try dsimp only at hq); go_simp; (first | done | with_reducible rfl | fail)))) | refine held_s (i := 7) hHeld ?_ | fail
    first | (refine held_t (i := 8) hHeld ?_; apply Exists.intro; refine ⟨fun wq hq => ?_, ?_⟩; (focus ((try dsimp only at hq); go_simp; (first | done | with_reducible rfl | fail)))) | refine held_s (i := 8) hHeld ?_ | fail
    first | (refine held_t (i := 9) hHeld ?_; apply Exists.intro; refine ⟨fun wq hq => ?_, ?_⟩; (focus ((try dsimp only at hq); go_simp; (first | done | with_reducible rfl | fail)))) | refine held_s (i := 9) hHeld ?_ | fail
    try simp only [Act.put, List.setIfInBounds_toArray, List.set_cons_zero, List.set_cons_succ]
    first | (refine held_t (i := 10) hHeld ?_; apply Exists.intro; refine ⟨fun wq hq => ?_, ?_⟩; (focus ((try dsimp only at hq); go_simp; (first | done | with_reducible rfl | fail)))) | refine held_s (i := 10) hHeld ?_ | fail
    first | (refine held_t (i := 11) hHeld ?_; apply Exists.intro; refine ⟨fun wq hq => ?_, ?_⟩; (focus ((try dsimp only at hq); go_simp; (first | done | with_reducible rfl | fail)))) | refine held_s (i := 11) hHeld ?_ | fail
    first | (refine held_t (i := 12) hHeld ?_; apply Exists.intro; refine ⟨fun wq hq => ?_, ?_⟩; (focus ((try dsimp only at hq); go_simp; (first | done | with_reducible rfl | fail)))) | refine held_s (i := 12) hHeld ?_ | fail
    try simp only [Act.put, List.setIfInBounds_toArray, List.set_cons_zero, List.set_cons_succ]
    first | (refine held_t (i := 13) hHeld ?_; apply Exists.intro; refine ⟨fun wq hq => ?_, ?_⟩; (focus ((try dsimp only at hq); go_simp; (first | done | with_reducible rfl | fail)))) | refine held_s (i := 13) hHeld ?_ | fail
    first | (refine held_t (i := 14) hHeld ?_; apply Exists.intro; refine ⟨fun wq hq => ?_, ?_⟩; (focus ((try dsimp only at hq); go_simp; (first | done | with_reducible rfl | fail)))) | refine held_s (i := 14) hHeld ?_ | fail
    first | (refine held_t (i := 15) hHeld ?_; apply Exists.intro; refine ⟨fun wq hq => ?_, ?_⟩; (focus ((try dsimp only at hq); go_simp; (first | done | with_reducible rfl | fail)))) | refine held_s (i := 15) hHeld ?_ | fail
    try simp only [Act.put, List.setIfInBounds_toArray, List.set_cons_zero, List.set_cons_succ]
    first | (refine held_t (i := 17) hHeld ?_; apply Exists.intro; refine ⟨fun wq hq => ?_, ?_⟩; (focus ((try dsimp only at hq); go_simp; (first | done | with_reducible rfl | fail)))) | refine held_s (i := 17) hHeld ?_ | fail
    try simp only [Act.put, List.setIfInBounds_toArray, List.set_cons_zero, List.set_cons_succ]
    refine held_c 16 fun K hK => ?_
    go_simp
    (go_at_call 58; refine (own13_at P (fun _ => false) _ _ (fun _ _ => rfl) (TmV.ext hHeld.2 _ _ HT12.out.2.2.2.2.1)).mono ?_; rintro e u3 ⟨vv, rfl, hvv, h6⟩; have HU3 := Lib.hid (And.intro hvv.bare (Below.refl u3.heap.size u3)); clear hvv)
    refine hK.out _ _ (HC9.out _ (Ext.trans' hHeld.2 h6)) (fun hHeld => ?_)
    clear hK K
    try simp only [Act.put, List.setIfInBounds_toArray, List.set_cons_zero, List.set_cons_succ]
    refine held_c 18 fun K hK => ?_
    go_simp
    (go_at_call 36; refine (rsame_at _ P (Nat.le_refl _) P _ _ _ HU3.out.1 (TmV.ext hHeld.2 _ _ HT12.out.2.2.2.2.2)).mono ?_; rintro e u4 ⟨rfl, h6⟩; rw [same_self])
    refine hK.out _ _ (HC9.out _ (Ext.trans' hHeld.2 h6)) (fun hHeld => ?_)
    clear hK K
    try simp only [Act.put, List.setIfInBounds_toArray, List.set_cons_zero, List.set_cons_succ]
    first | (refine held_t (i := 19) hHeld ?_; apply Exists.intro; refine ⟨fun wq hq => ?_, ?_⟩; (focus ((try dsimp only at hq); go_simp; (first | done | with_reducible rfl | fail)))) | refine held_s (i := 19) hHeld ?_ | fail
    first | (refine held_t (i := 20) hHeld ?_; apply Exists.intro; refine ⟨fun wq hq => ?_, ?_⟩; (focus ((try dsimp only at hq); go_simp; (first | done | with_reducible rfl | fail)))) | refine held_s (i := 20) hHeld ?_ | fail
    first | (refine held_t (i := 21) hHeld ?_; apply Exists.intro; refine ⟨fun wq hq => ?_, ?_⟩; (focus ((try dsimp only at hq); go_simp; (first | done | with_reducible rfl | fail)))) | refine held_s (i := 21) hHeld ?_ | fail
    try simp only [Act.put, List.setIfInBounds_toArray, List.set_cons_zero, List.set_cons_succ]
    first | (refine held_t (i := 22) hHeld ?_; apply Exists.intro; refine ⟨fun wq hq => ?_, ?_⟩; (focus ((try dsimp only at hq); go_simp; (first | done | with_reducible rfl | fail)))) | refine held_s (i := 22) hHeld ?_ | fail
    first | (refine held_t (i := 23) hHeld ?_; apply Exists.intro; refine ⟨fun wq hq => ?_, ?_⟩; (focus ((try dsimp only at hq); go_simp; (first | done | with_reducible rfl | fail)))) | refine held_s (i := 23) hHeld ?_ | fail
    first | (refine held_t (i := 24) hHeld ?_; apply Exists.intro; refine ⟨fun wq hq => ?_, ?_⟩; (focus ((try dsimp only at hq); go_simp; (first | done | with_reducible rfl | fail)))) | refine held_s (i := 24) hHeld ?_ | fail
    try simp only [Act.put, List.setIfInBounds_toArray, List.set_cons_zero, List.set_cons_succ]
    first | (refine held_t (i := 25) hHeld ?_; apply Exists.intro; refine ⟨fun wq hq => ?_, ?_⟩; (focus ((try dsimp only at hq); go_simp; (first | done | with_reducible rfl | fail)))) | refine held_s (i := 25) hHeld ?_ | fail
    first | (refine held_t (i := 26) hHeld ?_; apply Exists.intro; refine ⟨fun wq hq => ?_, ?_⟩; (focus ((try dsimp only at hq); go_simp; (first | done | with_reducible rfl | fail)))) | refine held_s (i := 26) hHeld ?_ | fail
    first | (refine held_t (i := 27) hHeld ?_; apply Exists.intro; refine ⟨fun wq hq => ?_, ?_⟩; (focus ((try dsimp only at hq); go_simp; (first | done | with_reducible rfl | fail)))) | refine held_s (i := 27) hHeld ?_ | fail
    try simp only [Act.put, List.setIfInBounds_toArray, List.set_cons_zero, List.set_cons_succ]
    first | (refine held_t (i := 29) hHeld ?_; apply Exists.intro; refine ⟨fun wq hq => ?_, ?_⟩; (focus ((try dsimp only at hq); go_simp; (first | done | with_reducible rfl | fail)))) | refine held_s (i := 29) hHeld ?_ | fail
    first | (refine held_t (i := 30) hHeld ?_; apply Exists.intro; refine ⟨fun wq hq => ?_, ?_⟩; (focus ((try dsimp only at hq); go_simp; (first | done | with_reducible rfl | fail)))) | refine held_s (i := 30) hHeld ?_ | fail
    try simp only [Act.put, List.setIfInBounds_toArray, List.set_cons_zero, List.set_cons_succ]
    refine held_c 28 fun K hK => ?_
    go_simp
    (go_at_call 55; refine (pAlike_at x y _ _ _ (HTX.out _ hHeld.2).1 (HTX.out _ hHeld.2).2).mono ?_; rintro e u5 ⟨rfl, h6⟩; rw [HA.out.1])
    refine hK.out _ _ (HC9.out _ (Ext.trans' hHeld.2 h6)) (fun hHeld => ?_)
    clear hK K
    try simp only [Act.put, List.setIfInBounds_toArray, List.set_cons_zero, List.set_cons_succ]
    refine held_c 31 fun K hK => ?_
    go_simp
    (go_at_call 51; refine (rAlike_at x y _ _ _ (TmV.ext hHeld.2 _ _ HT12.out.1) (TmV.ext hHeld.2 _ _ HT12.out.2.1)).mono ?_; rintro e u6 ⟨rfl, h6⟩; rw [HA.out.1])
    refine hK.out _ _ (HC9.out _ (Ext.trans' hHeld.2 h6)) (fun hHeld => ?_)
    clear hK K
    try simp only [Act.put, List.setIfInBounds_toArray, List.set_cons_zero, List.set_cons_succ]
    first | (refine held_t (i := 32) hHeld ?_; apply Exists.intro; refine ⟨fun wq hq => ?_, ?_⟩; (focus ((try dsimp only at hq); go_simp; (first | done | with_reducible rfl | fail)))) | refine held_s (i := 32) hHeld ?_ | fail
    first | (refine held_t (i := 33) hHeld ?_; apply Exists.intro; refine ⟨fun wq hq => ?_, ?_⟩; (focus ((try dsimp only at hq); go_simp; (first | done | with_reducible rfl | fail)))) | refine held_s (i := 33) hHeld ?_ | fail
    first | (refine held_t (i := 34) hHeld ?_; apply Exists.intro; refine ⟨fun wq hq => ?_, ?_⟩; (focus ((try dsimp only at hq); go_simp; (first | done | with_reducible rfl | fail)))) | refine held_s (i := 34) hHeld ?_ | fail
    try simp only [Act.put, List.setIfInBounds_toArray, List.set_cons_zero, List.set_cons_succ]
    first | (refine held_t (i := 35) hHeld ?_; apply Exists.intro; refine ⟨fun wq hq => ?_, ?_⟩; (focus ((try dsimp only at hq); go_simp; (first | done | with_reducible rfl | fail)))) | refine held_s (i := 35) hHeld ?_ | fail
    first | (refine held_t (i := 36) hHeld ?_; apply Exists.intro; refine ⟨fun wq hq => ?_, ?_⟩; (focus ((try dsimp only at hq); go_simp; (first | done | with_reducible rfl | fail)))) | refine held_s (i := 36) hHeld ?_ | fail
    try simp only [Act.put, List.setIfInBounds_toArray, List.set_cons_zero, List.set_cons_succ]
    first | (refine held_t (i := 38) hHeld ?_; apply Exists.intro; refine ⟨fun wq hq => ?_, ?_⟩; (focus ((try dsimp only at hq); go_simp; (first | done | with_reducible rfl | fail)))) | refine held_s (i := 38) hHeld ?_ | fail
    first | (refine held_t (i := 39) hHeld ?_; apply Exists.intro; refine ⟨fun wq hq => ?_, ?_⟩; (focus ((try dsimp only at hq); go_simp; (first | done | with_reducible rfl | fail)))) | refine held_s (i := 39) hHeld ?_ | fail
    try simp only [Act.put, List.setIfInBounds_toArray, List.set_cons_zero, List.set_cons_succ]
    refine held_c 37 fun K hK => ?_
    go_simp
    (go_at_call 54; refine (pMore_at x y _ _ _ (HTX.out _ hHeld.2).1 (HTX.out _ hHeld.2).2).mono ?_; rintro e u7 ⟨rfl, h6⟩; rw [HA.out.2])
    refine hK.out _ _ (HC9.out _ (Ext.trans' hHeld.2 h6)) (fun hHeld => ?_)
    clear hK K
    try simp only [Act.put, List.setIfInBounds_toArray, List.set_cons_zero, List.set_cons_succ]
    refine held_c 40 fun K hK => ?_
    go_simp
    (go_at_call 61; refine (rMore_at x y _ _ _ (TmV.ext hHeld.2 _ _ HT12.out.1) (TmV.ext hHeld.2 _ _ HT12.out.2.1)).mono ?_; rintro e u8 ⟨rfl, h6⟩; rw [HA.out.2])
    refine hK.out _ _ (HC9.out _ (Ext.trans' hHeld.2 h6)) (fun hHeld => ?_)
    clear hK K
    try simp only [Act.put, List.setIfInBounds_toArray, List.set_cons_zero, List.set_cons_succ]
    first | (refine held_t (i := 41) hHeld ?_; apply Exists.intro; refine ⟨fun wq hq => ?_, ?_⟩; (focus ((try dsimp only at hq); go_simp; (first | done | with_reducible rfl | fail)))) | refine held_s (i := 41) hHeld ?_ | fail
    first | (refine held_t (i := 42) hHeld ?_; apply Exists.intro; refine ⟨fun wq hq => ?_, ?_⟩; (focus ((try dsimp only at hq); go_simp; (first | done | with_reducible rfl | fail)))) | refine held_s (i := 42) hHeld ?_ | fail
    first | (refine held_t (i := 43) hHeld ?_; apply Exists.intro; refine ⟨fun wq hq => ?_, ?_⟩; (focus ((try dsimp only at hq); go_simp; (first | done | with_reducible rfl | fail)))) | refine held_s (i := 43) hHeld ?_ | fail
    try simp only [Act.put, List.setIfInBounds_toArray, List.set_cons_zero, List.set_cons_succ]
    first | (refine held_t (i := 44) hHeld ?_; apply Exists.intro; refine ⟨fun wq hq => ?_, ?_⟩; (focus ((try dsimp only at hq); go_simp; (first | done | with_reducible rfl | fail)))) | refine held_s (i := 44) hHeld ?_ | fail
    first | (refine held_t (i := 46) hHeld ?_; apply Exists.intro; refine ⟨fun wq hq => ?_, ?_⟩; (focus ((try dsimp only at hq); go_simp; (first | done | with_reducible rfl | fail)))) | refine held_s (i := 46) hHeld ?_ | fail
    try simp only [Act.put, List.setIfInBounds_toArray, List.set_cons_zero, List.set_cons_succ]
    have CG := fun (wq : World) (hb : Below w12.heap.size w12 wq) => Ground_at x wq _ (HTX.out wq hb).1
    have CR := fun (wq : World) (hb : Below w12.heap.size w12 wq) => rgood_at x wq _ (TmV.ext hb _ _ HT12.out.1)
    have CV := fun (wq : World) (hb : Below w12.heap.size w12 wq) => rVars_at x wq _ (TmV.ext hb _ _ HT12.out.1)
    cases hg : goodT x
    · rw [hg] at CG CR
      clear hg CV
      refine held_c 45 fun K hK => ?_
      go_simp
      (go_at_call 56; refine (CG _ hHeld.2).mono ?_; rintro e u9 ⟨rfl, h6⟩; rw [show (false && decide (varsT x [] = [])) = false from rfl])
      refine hK.out _ _ (HC9.out _ (Ext.trans' hHeld.2 h6)) (fun hHeld => ?_)
      clear hK K
      try simp only [Act.put, List.setIfInBounds_toArray, List.set_cons_zero, List.set_cons_succ]
      refine held_c 47 fun K hK => ?_
      go_simp
      (go_at_call 62; refine (CR _ hHeld.2).mono ?_; rintro e u10 ⟨rfl, h6⟩)
      refine hK.out _ _ (HC9.out _ (Ext.trans' hHeld.2 h6)) (fun hHeld => ?_)
      clear hK K
      try simp only [Act.put, List.setIfInBounds_toArray, List.set_cons_zero, List.set_cons_succ]
      first | (refine held_t (i := 48) hHeld ?_; apply Exists.intro; refine ⟨fun wq hq => ?_, ?_⟩; (focus ((try dsimp only at hq); go_simp; (first | done | with_reducible rfl | fail)))) | refine held_s (i := 48) hHeld ?_ | fail
      first | (refine held_t (i := 49) hHeld ?_; apply Exists.intro; refine ⟨fun wq hq => ?_, ?_⟩; (focus ((try dsimp only at hq); go_simp; (first | done | with_reducible rfl | fail)))) | refine held_s (i := 49) hHeld ?_ | fail
      try simp only [Act.put, List.setIfInBounds_toArray, List.set_cons_zero, List.set_cons_succ]
      first | (refine held_t (i := 50) hHeld ?_; apply Exists.intro; refine ⟨fun wq hq => ?_, ?_⟩; (focus ((try dsimp only at hq); go_simp; (first | done | with_reducible rfl | fail)))) | refine held_s (i := 50) hHeld ?_ | fail
      first | (refine held_t (i := 51) hHeld ?_; apply Exists.intro; refine ⟨fun wq hq => ?_, ?_⟩; (focus ((try dsimp only at hq); go_simp; (first | done | with_reducible rfl | fail)))) | refine held_s (i := 51) hHeld ?_ | fail
      try simp only [Act.put, List.setIfInBounds_toArray, List.set_cons_zero, List.set_cons_succ]
      first | (refine held_t (i := 52) hHeld ?_; apply Exists.intro; refine ⟨fun wq hq => ?_, ?_⟩; (focus ((try dsimp only at hq); go_simp; (first | done | with_reducible rfl | fail)))) | refine held_s (i := 52) hHeld ?_ | fail
      first | (refine held_t (i := 53) hHeld ?_; apply Exists.intro; refine ⟨fun wq hq => ?_, ?_⟩; (focus ((try dsimp only at hq); go_simp; (first | done | with_reducible rfl | fail)))) | refine held_s (i := 53) hHeld ?_ | fail
      try simp only [Act.put, List.setIfInBounds_toArray, List.set_cons_zero, List.set_cons_succ]
      first | (refine held_t (i := 54) hHeld ?_; apply Exists.intro; refine ⟨fun wq hq => ?_, ?_⟩; (focus ((try dsimp only at hq); go_simp; (first | done | with_reducible rfl | fail)))) | refine held_s (i := 54) hHeld ?_ | fail
      first | (refine held_t (i := 55) hHeld ?_; apply Exists.intro; refine ⟨fun wq hq => ?_, ?_⟩; (focus ((try dsimp only at hq); go_simp; (first | done | with_reducible rfl | fail)))) | refine held_s (i := 55) hHeld ?_ | fail
      try simp only [Act.put, List.setIfInBounds_toArray, List.set_cons_zero, List.set_cons_succ]
      first | (refine held_t (i := 56) hHeld ?_; apply Exists.intro; refine ⟨fun wq hq => ?_, ?_⟩; (focus ((try dsimp only at hq); go_simp; (first | done | with_reducible rfl | fail)))) | refine held_s (i := 56) hHeld ?_ | fail
      try simp only [Act.put, List.setIfInBounds_toArray, List.set_cons_zero, List.set_cons_succ]
      have HEND := Lib.hid (Ext.trans' HBW.out hHeld.2)
      clear hHeld
      refine wpAnyH_done (by kernel_rfl) ?_ _
      go_wp2
      go_ret
      exact ⟨rfl, HEND.out⟩
    · have hgr : (goodT x && decide (varsT x [] = [])) = (((varsT x []).length : Int) == 0) := by
        rw [hg, Bool.true_and]
        cases varsT x [] <;> simp <;> omega
      obtain ⟨L, hL⟩ : ∃ L, (varsT x []).length = L := ⟨_, rfl⟩
      rw [hL] at hgr
      obtain ⟨G, hG⟩ : ∃ G, ((L : Int) == 0) = G := ⟨_, rfl⟩
      rw [hG] at hgr
      have HGR := Lib.hid hgr
      have HL := Lib.hid hL
      have hz6 : (G == G) = true := by simp
      rw [hg] at CR
      rw [hg, if_pos rfl] at CV
      clear hg hgr hL
      refine held_c 45 fun K hK => ?_
      go_simp
      (go_at_call 56; refine (CG _ hHeld.2).mono ?_; rintro e u9 ⟨rfl, h6⟩; rw [HGR.out])
      refine hK.out _ _ (HC9.out _ (Ext.trans' hHeld.2 h6)) (fun hHeld => ?_)
      clear hK K
      try simp only [Act.put, List.setIfInBounds_toArray, List.set_cons_zero, List.set_cons_succ]
      refine held_c 47 fun K hK => ?_
      go_simp
      (go_at_call 62; refine (CR _ hHeld.2).mono ?_; rintro e u10 ⟨rfl, h6⟩)
      refine hK.out _ _ (HC9.out _ (Ext.trans' hHeld.2 h6)) (fun hHeld => ?_)
      clear hK K
      try simp only [Act.put, List.setIfInBounds_toArray, List.set_cons_zero, List.set_cons_succ]
      first | (refine held_t (i := 48) hHeld ?_; apply Exists.intro; refine ⟨fun wq hq => ?_, ?_⟩; (focus ((try dsimp only at hq); go_simp; (first | done | with_reducible rfl | fail)))) | refine held_s (i := 48) hHeld ?_ | fail
      first | (refine held_t (i := 49) hHeld ?_; apply Exists.intro; refine ⟨fun wq hq => ?_, ?_⟩; (focus ((try dsimp only at hq); go_simp; (first | done | with_reducible rfl | fail)))) | refine held_s (i := 49) hHeld ?_ | fail
      try simp only [Act.put, List.setIfInBounds_toArray, List.set_cons_zero, List.set_cons_succ]
      refine held_c 50 fun K hK => ?_
      go_simp
      (go_at_call 63; refine (CV _ hHeld.2).mono ?_; rintro e u11 ⟨rv, rfl, hn, h6⟩; obtain ⟨ra, rc, rfl, hrc1, hrc2⟩ := hn.len; rw [HL.out] at hrc1 ⊢; unfold maxLen at hrc2; clear hn)
      refine hK.out _ _ (HC9.out _ (Ext.trans' hHeld.2 h6)) (fun hHeld => ?_)
      clear hK K
      try simp only [Act.put, List.setIfInBounds_toArray, List.set_cons_zero, List.set_cons_succ]
      first | (refine held_t (i := 51) hHeld ?_; apply Exists.intro; refine ⟨fun wq hq => ?_, ?_⟩; (focus ((try dsimp only at hq); go_simp; (first | done | with_reducible rfl | fail)))) | refine held_s (i := 51) hHeld ?_ | fail
      first | (refine held_t (i := 52) hHeld ?_; apply Exists.intro; refine ⟨fun wq hq => ?_, ?_⟩; (focus ((try dsimp only at hq); go_simp; (first | done | with_reducible rfl | fail)))) | refine held_s (i := 52) hHeld ?_ | fail
      first | (refine held_t (i := 53) hHeld ?_; apply Exists.intro; refine ⟨fun wq hq => ?_, ?_⟩; (focus ((try dsimp only at hq); go_simp; (first | done | with_reducible rfl | fail)))) | refine held_s (i := 53) hHeld ?_ | fail
      try simp only [Act.put, List.setIfInBounds_toArray, List.set_cons_zero, List.set_cons_succ]
      first | (refine held_t (i := 54) hHeld ?_; apply Exists.intro; refine ⟨fun wq hq => ?_, ?_⟩; (focus ((try dsimp only at hq); go_simp; (first | done | with_reducible rfl | fail)))) | refine held_s (i := 54) hHeld ?_ | fail
      first | (refine held_t (i := 55) hHeld ?_; apply Exists.intro; refine ⟨fun wq hq => ?_, ?_⟩; (focus ((try dsimp only at hq); go_simp; (first | done | with_reducible rfl | fail)))) | refine held_s (i := 55) hHeld ?_ | fail
      first | (refine held_t (i := 56) hHeld ?_; apply Exists.intro; refine ⟨fun wq hq => ?_, ?_⟩; (focus ((try dsimp only at hq); go_simp; (first | done | with_reducible rfl | fail)))) | refine held_s (i := 56) hHeld ?_ | fail
      try simp only [Act.put, List.setIfInBounds_toArray, List.set_cons_zero, List.set_cons_succ]
      have HEND := Lib.hid (Ext.trans' HBW.out hHeld.2)
      clear hHeld
      refine wpAnyH_done (by kernel_rfl) ?_ _
      go_wp2
      go_ret
      exact ⟨rfl, HEND.out⟩
end Go.Proofs.Ytbbbgijlbcmpbaa
