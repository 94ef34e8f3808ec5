import Derived.Test.YtaojalicnnnkmaaGreatDoorHyyar
import Derived.Test.YtaojalicnnnkmaaGreatDoorHyyas
set_option linter.unusedVariables false
set_option linter.unusedSimpArgs false
/- Package body: Clause, walked. (gen_kd2.py) -/
namespace Go.Proofs.YtaojalicnnnkmaaGreatDoor
open Go.RowKit
set_option linter.unusedVariables false

/-- The head and the rest, in their boxes. -/
def ClR (w : World) (t : Tm) (wx : World) : Prop := ∃ (H R : Tm) (hk hn : Int) (hs : ByteArray) (ha : Option Addr) (hm hc : Nat) (rk rn : Int) (rs : ByteArray) (ra : Option Addr) (rm rc : Nat), headT t = (H, R) ∧ goodT H = true ∧ goodT R = true ∧
  Box wx (w.heap.size + 1) [.int .i64 hk, .int .i64 hn, .string hs, .slice ha hm hc] ∧ Box wx (w.heap.size + 2) [.int .i64 rk, .int .i64 rn, .string rs, .slice ra rm rc] ∧
  TmV wx H (.agg #[.int .i64 hk, .int .i64 hn, .string hs, .slice ha hm hc]) ∧ TmV wx R (.agg #[.int .i64 rk, .int .i64 rn, .string rs, .slice ra rm rc]) ∧ Below w.heap.size w wx
theorem head_err {H : Tm} (hg : goodT H = true) {w : World} {k n : Int} {s : ByteArray} {a : Option Addr} {m c : Nat} (hv : TmV w H (.agg #[.int .i64 k, .int .i64 n, .string s, .slice a m c])) : headN k s m = (if H.k = 0 then 6 else if H.k = 1 then 5 else if heldT H = true then 8 else 0) := by
  obtain ⟨hk, hn, hs, hl⟩ := H
  obtain ⟨u, e, _, _, _, hu⟩ := tmV_iff.1 hv
  have h3 := congrArg Array.toList (Value.agg.inj e)
  simp only [List.cons.injEq, and_true, Value.int.injEq, Value.string.injEq, true_and] at h3
  obtain ⟨rfl, rfl, rfl, rfl⟩ := h3
  obtain ⟨_, _, e2, _⟩ := hu.len
  injection e2 with _ e2 _
  unfold headN
  show _ = if k = 0 then 6 else if k = 1 then 5 else _
  by_cases h0 : k = 0
  · rw [if_pos h0, if_pos h0]
  by_cases h1 : k = 1
  · rw [if_neg h0, if_neg h0, if_pos h1, if_pos h1]
  rw [if_neg h0, if_neg h0, if_neg h1, if_neg h1]
  have hf := (good_parts hg).2.2
  rw [formedT, Bool.and_eq_true] at hf
  have hp := hf.1
  unfold plainT at hp
  rw [if_neg h0, if_neg h1] at hp
  have h2 : k = 2 := by
    by_cases h2 : k = 2
    · exact h2
    · rw [if_neg h2] at hp; cases hp
  rw [held_name (t := .mk k n s hl) h2, e2]
  rfl
theorem true_good : goodT (nameT trueS []) = true := by decide +kernel
theorem same_one {w : World} {b j : Nat} {v : Value} (h : w.cell? ⟨b, j, none⟩ = some v) : Stays w (w.setCell ⟨b, j, none⟩ v) := by
  refine ⟨by simp [World.setCell], fun x u hu => ?_⟩
  by_cases e : (⟨b, j, none⟩ : Addr) = x
  · subst e
    rw [h] at hu
    cases hu
    exact css h
  · rw [World.cell?_setCell_other]
    · exact hu
    · exact e
theorem same_four {w : World} {b : Nat} {v0 v1 v2 v3 : Value} (h : Box w b [v0, v1, v2, v3]) : Stays w (set4 w b v0 v1 v2 v3) := by
  have s0 := same_one (h.cells 0 _ rfl)
  have s1 := s0.trans (same_one (s0.2 _ _ (h.cells 1 _ rfl)))
  have s2 := s1.trans (same_one (s1.2 _ _ (h.cells 2 _ rfl)))
  exact s2.trans (same_one (s2.2 _ _ (h.cells 3 _ rfl)))
theorem same_set {w : World} {b c : Nat} {v0 v1 v2 v3 u0 u1 u2 u3 : Value} (h : Box w b [v0, v1, v2, v3]) (g : Box w c [u0, u1, u2, u3]) (hne : c ≠ b) : Stays w (set4 (set4 w b v0 v1 v2 v3) c u0 u1 u2 u3) :=
  (same_four h).trans (same_four (g.far4g hne _ _ _ _))
set_option maxHeartbeats 16000000 in
set_option maxRecDepth 100000 in
theorem bClause_at (t : Tm) (w : World) (v : Value) (hv : TmV w t v) : Calls Tryz.prog 11 #[v] w fun e w' => ∃ h r, e = .returned (.tuple #[h, r, .int .i64 (clauseE t).2.2]) ∧ TmV w' (clauseE t).1 h ∧ TmV w' (clauseE t).2.1 r ∧ Below w.heap.size w w' := by
  obtain ⟨k, n, s, a, m, c, rfl, -, -, -, -⟩ := four_of hv
  obtain ⟨w1, e1, B1, z1, X1⟩ := box_new w #[.int .i64 k, .int .i64 n, .string s, .slice a m c] 31
  obtain ⟨w2, e2, B2, z2, X2⟩ := box_new w1 #[.int .i64 0, .int .i64 0, .string ⟨#[]⟩, .slice none 0 0] 31
  obtain ⟨w3, e3, B3, z3, X3⟩ := box_new w2 #[.int .i64 0, .int .i64 0, .string ⟨#[]⟩, .slice none 0 0] 31
  have HE := Lib.hid (And.intro e1 (And.intro e2 e3))
  have HBW := Lib.hid (Ext.trans' (Ext.trans' B1 B2) B3)
  have z2' : w2.heap.size = w.heap.size + 2 := by omega
  rw [z1] at X2
  rw [z2'] at X3
  have HX := Lib.hid (And.intro ((X1.ext B2).ext B3) (And.intro (X2.ext B3) X3))
  have HL3 := Lib.hid (show w3.heap.size = w.heap.size + 3 by omega)
  have HV := Lib.hid hv
  have HC := Lib.hid (fun (wx : World) (hb : Below w3.heap.size w3 wx) => (show wx.cell? ⟨w.heap.size, 0, none⟩ = some (.int .i64 k) ∧ wx.cell? ⟨w.heap.size, 1, none⟩ = some (.int .i64 n) ∧ wx.cell? ⟨w.heap.size, 2, none⟩ = some (.string s) ∧ wx.cell? ⟨w.heap.size, 3, none⟩ = some (.slice a m c) from by
    obtain ⟨y0, y1, y2, y3, _⟩ := (HX.out.1.ext hb).four
    exact ⟨y0, y1, y2, y3⟩))
  have C1 := Good_at t w3 _ (TmV.ext HBW.out _ _ hv)
  clear hv e1 e2 e3 B1 B2 B3 z1 z2 z3 z2' X1 X2 X3
  obtain ⟨c0, c1, c2, c3⟩ := HC.out w3 (Below.refl _ _)
  go_enter Tryz.func11, Tryz.ntmps11
  go_upto_region 1 with fail
  (try rw [HE.out.1, HE.out.2.1, HE.out.2.2])
  cases hg : goodT t
  · rw [hg] at C1
    have HR := Lib.hid (clause_bad hg)
    clear hg
    (go_wp2_with fail; go_fit (C1); rintro e w4 ⟨rfl, b4⟩)
    have HB4 := Lib.hid (Ext.trans' HBW.out b4)
    obtain ⟨r0, r1, r2, r3, rf⟩ := (HX.out.2.1.ext b4).four
    obtain ⟨z0, z1, z2, z3, zf⟩ := (HX.out.2.2.ext b4).four
    clear C1 b4 c0 c1 c2 c3
    go_wp2
    refine bodyPost_ret (v := .tuple #[.agg #[.int .i64 0, .int .i64 0, .string ⟨#[]⟩, .slice none 0 0], .agg #[.int .i64 0, .int .i64 0, .string ⟨#[]⟩, .slice none 0 0], .int .i64 1]) (by rw [results_ccT rfl]; go_simp) rfl ?_
    rw [HR.out]
    exact ⟨_, _, rfl, zero_tm _, zero_tm _, Below.set4 (b := w.heap.size + 2) (Below.set4 (b := w.heap.size + 1) HB4.out (by omega) _ _ _ _) (by omega) _ _ _ _⟩
  · rw [hg] at C1
    have HG := Lib.hid hg
    clear hg
    (go_wp2_with fail; go_fit (C1); rintro e w4 ⟨rfl, b4⟩)
    have HB4 := Lib.hid b4
    clear C1 b4 c0 c1 c2 c3
    obtain ⟨c0, c1, c2, c3⟩ := HC.out w4 HB4.out
    go_wp2_with fail
    refine wp_region_held_drew (S := fun w' => (w'.cell? ⟨w.heap.size, 0, none⟩ = some (.int .i64 k) ∧ w'.cell? ⟨w.heap.size, 1, none⟩ = some (.int .i64 n) ∧ w'.cell? ⟨w.heap.size, 2, none⟩ = some (.string s) ∧ w'.cell? ⟨w.heap.size, 3, none⟩ = some (.slice a m c)) ∧ True) (by kernel_rfl) (⟨⟨c0, c1, c2, c3⟩, trivial⟩) (fun hHeld => ?_)
    first | (refine held_t (i := 0) hHeld ?_; apply Exists.intro; refine ⟨fun wq hq => ?_, ?_⟩; (focus ((try dsimp only at hq); go_simp; (first | done | with_reducible rfl | fail)))) | refine held_s (i := 0) hHeld ?_ | fail
    try simp only [Act.put, List.setIfInBounds_toArray, List.set_cons_zero, List.set_cons_succ]
    refine held_c 1 fun K hK => ?_
    go_simp
    (obtain ⟨wd, hwd⟩ : ∃ wd, w4.drew = wd := ⟨_, rfl⟩; rw [hwd] at hHeld ⊢; have hbd : Below w4.heap.size w4 wd := (by rw [← hwd]; exact (Below.refl _ _).drew); go_at_call 13; refine (atom_at _ trueS).mono ?_; rintro e w5 ⟨rfl, h5⟩; have HB5 := Lib.hid (Ext.trans' hbd h5))
    refine hK.out _ _ (⟨⟨cell_later h5 hHeld.1.1, cell_later h5 hHeld.1.2.1, cell_later h5 hHeld.1.2.2.1, cell_later h5 hHeld.1.2.2.2⟩, trivial⟩) (fun hHeld => ?_)
    clear hK K
    try simp only [Act.put, List.setIfInBounds_toArray, List.set_cons_zero, List.set_cons_succ]
    refine held_c 2 fun K hK => ?_
    (obtain ⟨r0, r1, r2, r3, rf⟩ := (HX.out.2.1.ext (Ext.trans' HB4.out HB5.out)).four; go_simp)
    refine hK.out _ _ (⟨⟨far1 hHeld.1.1 (by omega), far1 hHeld.1.2.1 (by omega), far1 hHeld.1.2.2.1 (by omega), far1 hHeld.1.2.2.2 (by omega)⟩, trivial⟩) (fun hHeld => ?_)
    clear hK K
    try simp only [Act.put, List.setIfInBounds_toArray, List.set_cons_zero, List.set_cons_succ]
    refine held_c 3 fun K hK => ?_
    (obtain ⟨z0, z1, z2, z3, zf⟩ := ((HX.out.2.2.ext (Ext.trans' HB4.out HB5.out)).far4g (c := w.heap.size + 1) (by omega) (.int .i64 k) (.int .i64 n) (.string s) (.slice a m c)).four; go_simp)
    refine hK.out _ _ (⟨⟨far1 hHeld.1.1 (by omega), far1 hHeld.1.2.1 (by omega), far1 hHeld.1.2.2.1 (by omega), far1 hHeld.1.2.2.2 (by omega)⟩, trivial⟩) (fun hHeld => ?_)
    clear hK K
    try simp only [Act.put, List.setIfInBounds_toArray, List.set_cons_zero, List.set_cons_succ]
    refine wpAnyH_done (by kernel_rfl) ?_ _
    obtain ⟨w6, hw6⟩ : ∃ w6, set4 (set4 w5 (w.heap.size + 1) (.int .i64 k) (.int .i64 n) (.string s) (.slice a m c)) (w.heap.size + 2) (.int .i64 2) (.int .i64 0) (.string trueS) (.slice none 0 0) = w6 := ⟨_, rfl⟩
    have hb5 := Ext.trans' HBW.out (Ext.trans' HB4.out HB5.out)
    have HB6 := Lib.hid (show Below w.heap.size w w6 from by rw [← hw6]; exact Below.set4 (Below.set4 hb5 (by omega) _ _ _ _) (by omega) _ _ _ _)
    have HX6 := Lib.hid (show Box w6 w.heap.size [.int .i64 k, .int .i64 n, .string s, .slice a m c] ∧ Box w6 (w.heap.size + 1) [.int .i64 k, .int .i64 n, .string s, .slice a m c] ∧ Box w6 (w.heap.size + 2) [.int .i64 2, .int .i64 0, .string trueS, .slice none 0 0] from by
      rw [← hw6]
      have q1 := HX.out.1.ext (Ext.trans' HB4.out HB5.out)
      have q2 := HX.out.2.1.ext (Ext.trans' HB4.out HB5.out)
      have q3 := HX.out.2.2.ext (Ext.trans' HB4.out HB5.out)
      exact ⟨(q1.far4g (by omega) _ _ _ _).far4g (by omega) _ _ _ _, (q2.all4' _ _ _ _).far4g (by omega) _ _ _ _, (q3.far4g (by omega) _ _ _ _).all4' _ _ _ _⟩)
    first | rw [hw6] | (dsimp only [set4, set3] at hw6; rw [hw6])
    clear hHeld hw6 hb5 c0 c1 c2 c3 HB4 HB5
    obtain ⟨c0, c1, c2, c3, _⟩ := HX6.out.1.four
    have C2 := bis_at (TmV.ext HB6.out _ _ HV.out) neckS 2
    rw [nmT_is (good_parts HG.out).2.2 (by decide)] at C2
    obtain ⟨bn, hbn⟩ : ∃ b, isT t neckS 2 = b := ⟨_, rfl⟩
    have HBN := Lib.hid hbn
    rw [hbn] at C2
    clear hbn
    (go_wp2_with fail; go_fit (C2); rintro e w7 ⟨rfl, b7⟩)
    have HB7 := Lib.hid (Ext.trans' HB6.out b7)
    have HX7 := Lib.hid (And.intro (HX6.out.1.ext b7) (And.intro (HX6.out.2.1.ext b7) (HX6.out.2.2.ext b7)))
    clear C2 b7 c0 c1 c2 c3 HB6 HX6
    go_upto_if 13 with fail
    go_cut [] from 14 to 21 (fun wx => Hid (ClR w t wx))
    case first =>
      cases bn
      · have HH := Lib.hid (show headT t = (t, nameT trueS []) from by unfold headT; rw [if_neg (by rw [HBN.out]; simp)])
        have HEND := Lib.hid (show ClR w t w7 from ⟨t, nameT trueS [], k, n, s, a, m, c, 2, 0, trueS, none, 0, 0, HH.out, HG.out, true_good, HX7.out.2.1, HX7.out.2.2, TmV.ext HB7.out _ _ HV.out, leaf_tm _ (i64_of 2 (by omega) (by omega)) i64_0 (by unfold BIG; decide), HB7.out⟩)
        go_wp2
        go_meet
        exact HEND
      · have hlen := isT_iff.1 HBN.out
        obtain ⟨x, y, hxy⟩ := two_args hlen.2.2
        have HH := Lib.hid (show headT t = (x, y) from by
          unfold headT
          rw [if_pos HBN.out]
          obtain ⟨tk, tn, ts, ta⟩ := t
          cases (show ta = [x, y] from hxy)
          rfl)
        obtain ⟨u', eu, _, _, _, hu⟩ := tmV_iff.1 (show TmV w (.mk t.k t.n t.s t.args) (.agg #[.int .i64 k, .int .i64 n, .string s, .slice a m c]) from by have h := HV.out; cases t; exact h)
        obtain ⟨_, _, _, rfl⟩ : _ ∧ _ ∧ _ ∧ Value.slice a m c = u' := by
          have h3 := congrArg Array.toList (Value.agg.inj eu)
          simp only [List.cons.injEq, and_true] at h3
          exact h3
        rw [hxy] at hu
        obtain rfl : m = 2 := by obtain ⟨_, _, e, _⟩ := hu.len; cases e; rfl
        have hu0 : Tms (hide (fun _ => false) w) (.slice a 2 c) [x, y] := by rw [hide_none]; exact hu
        obtain ⟨b, off, k1, n1, s1, a1, m1, c1, k2, n2, s2, a2, m2, c2, rfl, d0, d1, d2, d3, f0, f1, f2, f3, ht1, ht2, _⟩ := args_two hu0
        rw [hide_none] at ht1 ht2
        have HTW := Lib.hid (And.intro ht1 ht2)
        have HGG := Lib.hid (show goodT x = true ∧ goodT y = true from ⟨good_arg HG.out (by rw [hxy]; simp), good_arg HG.out (by rw [hxy]; simp)⟩)
        have HBLT := Lib.hid (show b < w.heap.size from World.block_lt_of_cell? _ _ d0)
        have hbl := HBLT.out
        replace d0 := cell_later HB7.out d0
        replace d1 := cell_later HB7.out d1
        replace d2 := cell_later HB7.out d2
        replace d3 := cell_later HB7.out d3
        replace f0 := cell_later HB7.out f0
        replace f1 := cell_later HB7.out f1
        replace f2 := cell_later HB7.out f2
        replace f3 := cell_later HB7.out f3
        obtain ⟨c0, c1', c2', c3, _⟩ := HX7.out.1.four
        clear hlen hxy eu hu hu0 ht1 ht2
        go_wp2_with fail
        refine wp_region_held_drew (S := fun w' => (w'.cell? ⟨w.heap.size, 3, none⟩ = some (.slice (some ⟨b, off, none⟩) 2 c) ∧ w'.cell? ⟨b, off, none⟩ = some (.int .i64 k1) ∧ w'.cell? ⟨b, off + 1, none⟩ = some (.int .i64 n1) ∧ w'.cell? ⟨b, off + 2, none⟩ = some (.string s1) ∧ w'.cell? ⟨b, off + 3, none⟩ = some (.slice a1 m1 c1) ∧ w'.cell? ⟨b, off + 4, none⟩ = some (.int .i64 k2) ∧ w'.cell? ⟨b, off + 4 + 1, none⟩ = some (.int .i64 n2) ∧ w'.cell? ⟨b, off + 4 + 2, none⟩ = some (.string s2) ∧ w'.cell? ⟨b, off + 4 + 3, none⟩ = some (.slice a2 m2 c2)) ∧ True) (by kernel_rfl) (⟨⟨c3, d0, d1, d2, d3, f0, f1, f2, f3⟩, trivial⟩) (fun hHeld => ?_)
        first | (refine held_t (i := 0) hHeld ?_; apply Exists.intro; refine ⟨fun wq hq => ?_, ?_⟩; (focus ((try dsimp only at hq); go_simp; (first | done | with_reducible rfl | fail)))) | refine held_s (i := 0) hHeld ?_ | fail
        first | (refine held_t (i := 1) hHeld ?_; apply Exists.intro; refine ⟨fun wq hq => ?_, ?_⟩; (focus ((try dsimp only at hq); go_simp; (first | done | with_reducible rfl | fail)))) | refine held_s (i := 1) hHeld ?_ | fail
        first | (refine held_t (i := 2) hHeld ?_; apply Exists.intro; refine ⟨fun wq hq => ?_, ?_⟩; (focus ((try dsimp only at hq); go_simp; (first | done | with_reducible rfl | fail)))) | refine held_s (i := 2) hHeld ?_ | fail
        first | (refine held_t (i := 3) hHeld ?_; apply Exists.intro; refine ⟨fun wq hq => ?_, ?_⟩; (focus ((try dsimp only at hq); go_simp; (first | done | with_reducible rfl | fail)))) | refine held_s (i := 3) hHeld ?_ | fail
        first | (refine held_t (i := 4) hHeld ?_; apply Exists.intro; refine ⟨fun wq hq => ?_, ?_⟩; (focus ((try dsimp only at hq); go_simp; (first | done | with_reducible rfl | fail)))) | refine held_s (i := 4) hHeld ?_ | fail
        first | (refine held_t (i := 5) hHeld ?_; apply Exists.intro; refine ⟨fun wq hq => ?_, ?_⟩; (focus ((try dsimp only at hq); go_simp; (first | done | with_reducible rfl | fail)))) | refine held_s (i := 5) hHeld ?_ | fail
        first | (refine held_t (i := 6) hHeld ?_; apply Exists.intro; refine ⟨fun wq hq => ?_, ?_⟩; (focus ((try dsimp only at hq); go_simp; (first | done | with_reducible rfl | fail)))) | refine held_s (i := 6) hHeld ?_ | fail
        first | (refine held_t (i := 7) hHeld ?_; apply Exists.intro; refine ⟨fun wq hq => ?_, ?_⟩; (focus ((try dsimp only at hq); go_simp; (first | done | with_reducible rfl | fail)))) | refine held_s (i := 7) hHeld ?_ | fail
        try simp only [Act.put, List.setIfInBounds_toArray, List.set_cons_zero, List.set_cons_succ]
        refine held_c 8 fun K hK => ?_
        (obtain ⟨wd, hwd⟩ : ∃ wd, w7.drew = wd := ⟨_, rfl⟩; rw [hwd] at hHeld ⊢; have hbd : Below w7.heap.size w7 wd := (by rw [← hwd]; exact (Below.refl _ _).drew); have HBD := Lib.hid hbd; obtain ⟨r0, r1, r2, r3, rf⟩ := (HX7.out.2.1.ext HBD.out).four; go_simp)
        refine hK.out _ _ (⟨⟨far1 hHeld.1.1 (by omega), far1 hHeld.1.2.1 (by omega), far1 hHeld.1.2.2.1 (by omega), far1 hHeld.1.2.2.2.1 (by omega), far1 hHeld.1.2.2.2.2.1 (by omega), far1 hHeld.1.2.2.2.2.2.1 (by omega), far1 hHeld.1.2.2.2.2.2.2.1 (by omega), far1 hHeld.1.2.2.2.2.2.2.2.1 (by omega), far1 hHeld.1.2.2.2.2.2.2.2.2 (by omega)⟩, trivial⟩) (fun hHeld => ?_)
        clear hK K
        try simp only [Act.put, List.setIfInBounds_toArray, List.set_cons_zero, List.set_cons_succ]
        refine held_c 9 fun K hK => ?_
        (obtain ⟨z0, z1, z2, z3, zf⟩ := ((HX7.out.2.2.ext HBD.out).far4g (c := w.heap.size + 1) (by omega) (.int .i64 k1) (.int .i64 n1) (.string s1) (.slice a1 m1 c1)).four; go_simp)
        refine hK.out _ _ (⟨⟨far1 hHeld.1.1 (by omega), far1 hHeld.1.2.1 (by omega), far1 hHeld.1.2.2.1 (by omega), far1 hHeld.1.2.2.2.1 (by omega), far1 hHeld.1.2.2.2.2.1 (by omega), far1 hHeld.1.2.2.2.2.2.1 (by omega), far1 hHeld.1.2.2.2.2.2.2.1 (by omega), far1 hHeld.1.2.2.2.2.2.2.2.1 (by omega), far1 hHeld.1.2.2.2.2.2.2.2.2 (by omega)⟩, trivial⟩) (fun hHeld => ?_)
        clear hK K
        try simp only [Act.put, List.setIfInBounds_toArray, List.set_cons_zero, List.set_cons_succ]
        refine wpAnyH_done (by kernel_rfl) ?_ _
        have hb8 := Ext.trans' HB7.out HBD.out
        have hB8 : Below w.heap.size w (set4 (set4 wd (w.heap.size + 1) (.int .i64 k1) (.int .i64 n1) (.string s1) (.slice a1 m1 c1)) (w.heap.size + 2) (.int .i64 k2) (.int .i64 n2) (.string s2) (.slice a2 m2 c2)) := Below.set4 (Below.set4 hb8 (by omega) _ _ _ _) (by omega) _ _ _ _
        have HEND := Lib.hid (show ClR w t (set4 (set4 wd (w.heap.size + 1) (.int .i64 k1) (.int .i64 n1) (.string s1) (.slice a1 m1 c1)) (w.heap.size + 2) (.int .i64 k2) (.int .i64 n2) (.string s2) (.slice a2 m2 c2)) from
          ⟨x, y, k1, n1, s1, a1, m1, c1, k2, n2, s2, a2, m2, c2, HH.out, HGG.out.1, HGG.out.2, ((HX7.out.2.1.ext HBD.out).all4' _ _ _ _).far4g (by omega) _ _ _ _, ((HX7.out.2.2.ext HBD.out).far4g (by omega) _ _ _ _).all4' _ _ _ _, TmV.ext hB8 _ _ HTW.out.1, TmV.ext hB8 _ _ HTW.out.2, hB8⟩)
        clear hHeld c0 c1' c2' c3 d0 d1 d2 d3 f0 f1 f2 f3 hb8 hB8
        go_wp2
        go_meet
        exact HEND
    case rest =>
      obtain ⟨H, R, hk, hn, hs, ha, hm, hc, rk, rn, rs, ra, rm, rc, q1, q2, q3, q4, q5, q6, q7, q8⟩ := hcut.out
      have HQ := Lib.hid (And.intro q1 (And.intro q2 (And.intro q3 (And.intro q4 (And.intro q5 (And.intro q6 (And.intro q7 q8)))))))
      have HCL := Lib.hid (clause_good HG.out q1)
      have hhe := head_err q2 q6
      obtain ⟨p0, p1, p2, p3, _⟩ := q4.four
      obtain ⟨er, her⟩ : ∃ er, headN hk hs hm = er := ⟨_, rfl⟩
      have C3 := bhead_at wc hk hn hs ha hm hc
      rw [her] at C3 hhe
      have HHE := Lib.hid hhe
      clear q1 q2 q3 q4 q5 q6 q7 q8 her hhe hcut
      (go_wp2_with fail; go_fit (C3); rintro e w8 ⟨rfl, b8⟩)
      have HB8 := Lib.hid b8
      clear C3 b8 p0 p1 p2 p3
      by_cases he : er = 0
      · subst he
        obtain ⟨q0, q1, q2, q3, _⟩ := (HQ.out.2.2.2.2.1.ext HB8.out).four
        have C4 := bOf_at R w8 _ (TmV.ext HB8.out _ _ HQ.out.2.2.2.2.2.2.1)
        unfold OfKE at C4
        rw [(ofE_erO HQ.out.2.2.1).1] at C4
        obtain ⟨o, ho⟩ : ∃ o, ofB R = o := ⟨_, rfl⟩
        have HO := Lib.hid ho
        rw [ho] at C4
        clear ho
        have HZE := Lib.hid (show ¬ H.k = 0 ∧ ¬ H.k = 1 ∧ ¬ heldT H = true from by
          have h := HHE.out
          refine ⟨fun e => ?_, fun e => ?_, fun e => ?_⟩
          · rw [if_pos e] at h; omega
          · by_cases h0 : H.k = 0
            · rw [if_pos h0] at h; omega
            · rw [if_neg h0, if_pos e] at h; omega
          · by_cases h0 : H.k = 0
            · rw [if_pos h0] at h; omega
            · by_cases h1 : H.k = 1
              · rw [if_neg h0, if_pos h1] at h; omega
              · rw [if_neg h0, if_neg h1, if_pos e] at h; omega)
        (go_wp2_with fail; go_fit (C4); rintro e w9 ⟨r9, rfl, _, b9⟩)
        have HB9 := Lib.hid (Ext.trans' HB8.out b9)
        have HW9 := Lib.hid (Ext.trans' HQ.out.2.2.2.2.2.2.2 HB9.out)
        have HX9 := Lib.hid (And.intro (HQ.out.2.2.2.1.ext HB9.out) (HQ.out.2.2.2.2.1.ext HB9.out))
        clear C4 b9 q0 q1 q2 q3
        cases o with
        | none =>
          have her : erO none = 5 := rfl
          rw [her]
          have HR := Lib.hid (show clauseE t = (zeroT, zeroT, 5) by rw [HCL.out, if_neg HZE.out.1, if_neg HZE.out.2.1, if_neg HZE.out.2.2, HO.out]; rfl)
          obtain ⟨r0, r1, r2, r3, rf⟩ := HX9.out.1.four
          obtain ⟨z0, z1, z2, z3, zf⟩ := HX9.out.2.four
          go_wp2
          refine bodyPost_ret (v := .tuple #[.agg #[.int .i64 0, .int .i64 0, .string ⟨#[]⟩, .slice none 0 0], .agg #[.int .i64 0, .int .i64 0, .string ⟨#[]⟩, .slice none 0 0], .int .i64 5]) (by rw [results_ccT rfl]; go_simp) rfl ?_
          rw [HR.out]
          exact ⟨_, _, rfl, zero_tm _, zero_tm _, Below.set4 (b := w.heap.size + 2) (Below.set4 (b := w.heap.size + 1) HW9.out (by omega) _ _ _ _) (by omega) _ _ _ _⟩
        | some l =>
          have her : erO (some l) = 0 := rfl
          rw [her]
          have HR := Lib.hid (show clauseE t = (H, R, 0) by rw [HCL.out, if_neg HZE.out.1, if_neg HZE.out.2.1, if_neg HZE.out.2.2, HO.out]; rfl)
          obtain ⟨p0, p1, p2, p3, _⟩ := HX9.out.1.four
          obtain ⟨q0, q1, q2, q3, _⟩ := HX9.out.2.four
          go_wp2_with fail
          refine wp_region_held_drew (S := fun w' => ((w'.cell? ⟨w.heap.size + 1, 0, none⟩ = some (.int .i64 hk) ∧ w'.cell? ⟨w.heap.size + 1, 1, none⟩ = some (.int .i64 hn) ∧ w'.cell? ⟨w.heap.size + 1, 2, none⟩ = some (.string hs) ∧ w'.cell? ⟨w.heap.size + 1, 3, none⟩ = some (.slice ha hm hc)) ∧ (w'.cell? ⟨w.heap.size + 2, 0, none⟩ = some (.int .i64 rk) ∧ w'.cell? ⟨w.heap.size + 2, 1, none⟩ = some (.int .i64 rn) ∧ w'.cell? ⟨w.heap.size + 2, 2, none⟩ = some (.string rs) ∧ w'.cell? ⟨w.heap.size + 2, 3, none⟩ = some (.slice ra rm rc))) ∧ True) (by kernel_rfl) (⟨⟨⟨p0, p1, p2, p3⟩, q0, q1, q2, q3⟩, trivial⟩) (fun hHeld => ?_)
          first | (refine held_t (i := 0) hHeld ?_; apply Exists.intro; refine ⟨fun wq hq => ?_, ?_⟩; (focus ((try dsimp only at hq); go_simp; (first | done | with_reducible rfl | fail)))) | refine held_s (i := 0) hHeld ?_ | fail
          first | (refine held_t (i := 1) hHeld ?_; apply Exists.intro; refine ⟨fun wq hq => ?_, ?_⟩; (focus ((try dsimp only at hq); go_simp; (first | done | with_reducible rfl | fail)))) | refine held_s (i := 1) hHeld ?_ | fail
          try simp only [Act.put, List.setIfInBounds_toArray, List.set_cons_zero, List.set_cons_succ]
          refine held_c 2 fun K hK => ?_
          (obtain ⟨wd, hwd⟩ : ∃ wd, w9.drew = wd := ⟨_, rfl⟩; rw [hwd] at hHeld ⊢; have hbd : Below w9.heap.size w9 wd := (by rw [← hwd]; exact (Below.refl _ _).drew); have HBD := Lib.hid hbd; obtain ⟨r0, r1, r2, r3, rf⟩ := (HX9.out.1.ext HBD.out).four; go_simp)
          refine hK.out _ _ (⟨⟨Box.cells4 ((HX9.out.1.ext HBD.out).all4' _ _ _ _), Box.cells4 ((HX9.out.2.ext HBD.out).far4g (by omega) _ _ _ _)⟩, trivial⟩) (fun hHeld => ?_)
          clear hK K
          try simp only [Act.put, List.setIfInBounds_toArray, List.set_cons_zero, List.set_cons_succ]
          refine held_c 3 fun K hK => ?_
          (obtain ⟨z0, z1, z2, z3, zf⟩ := ((HX9.out.2.ext HBD.out).far4g (c := w.heap.size + 1) (by omega) (.int .i64 hk) (.int .i64 hn) (.string hs) (.slice ha hm hc)).four; go_simp)
          refine hK.out _ _ (⟨⟨Box.cells4 (((HX9.out.1.ext HBD.out).all4' _ _ _ _).far4g (by omega) _ _ _ _), Box.cells4 (((HX9.out.2.ext HBD.out).far4g (by omega) _ _ _ _).all4' _ _ _ _)⟩, trivial⟩) (fun hHeld => ?_)
          clear hK K
          try simp only [Act.put, List.setIfInBounds_toArray, List.set_cons_zero, List.set_cons_succ]
          first | (refine held_t (i := 4) hHeld ?_; apply Exists.intro; refine ⟨fun wq hq => ?_, ?_⟩; (focus ((try dsimp only at hq); go_simp; (first | done | with_reducible rfl | fail)))) | refine held_s (i := 4) hHeld ?_ | fail
          try simp only [Act.put, List.setIfInBounds_toArray, List.set_cons_zero, List.set_cons_succ]
          refine wpAnyH_done (by kernel_rfl) ?_ _
          have HTD := Lib.hid (And.intro (TmV.ext (Ext.trans' HB9.out HBD.out) _ _ HQ.out.2.2.2.2.2.1) (TmV.ext (Ext.trans' HB9.out HBD.out) _ _ HQ.out.2.2.2.2.2.2.1))
          have HXD := Lib.hid (And.intro (((HX9.out.1.ext HBD.out).all4' (.int .i64 hk) (.int .i64 hn) (.string hs) (.slice ha hm hc)).far4g (c := w.heap.size + 2) (by omega) (.int .i64 rk) (.int .i64 rn) (.string rs) (.slice ra rm rc)) (((HX9.out.2.ext HBD.out).far4g (c := w.heap.size + 1) (by omega) (.int .i64 hk) (.int .i64 hn) (.string hs) (.slice ha hm hc)).all4' (.int .i64 rk) (.int .i64 rn) (.string rs) (.slice ra rm rc)))
          have HSAME := Lib.hid (show Stays wd (set4 (set4 wd (w.heap.size + 1) (.int .i64 hk) (.int .i64 hn) (.string hs) (.slice ha hm hc)) (w.heap.size + 2) (.int .i64 rk) (.int .i64 rn) (.string rs) (.slice ra rm rc)) from same_set (HX9.out.1.ext HBD.out) (HX9.out.2.ext HBD.out) (by omega))
          clear hHeld
          obtain ⟨p0, p1, p2, p3, _⟩ := HXD.out.1.four
          obtain ⟨q0, q1, q2, q3, _⟩ := HXD.out.2.four
          go_wp2
          refine bodyPost_ret (v := .tuple #[.agg #[.int .i64 hk, .int .i64 hn, .string hs, .slice ha hm hc], .agg #[.int .i64 rk, .int .i64 rn, .string rs, .slice ra rm rc], .int .i64 0]) (by rw [results_ccT rfl]; go_simp) rfl ?_
          rw [HR.out]
          exact ⟨_, _, rfl, TmV.stay HSAME.out _ _ HTD.out.1, TmV.stay HSAME.out _ _ HTD.out.2, Below.set4 (b := w.heap.size + 2) (Below.set4 (b := w.heap.size + 1) (Ext.trans' HW9.out HBD.out) (by omega) _ _ _ _) (by omega) _ _ _ _⟩
      · have heb : (er == 0) = false := beq_false_of_ne he
        have HR := Lib.hid (show clauseE t = (zeroT, zeroT, er) by
          have h := HHE.out
          rw [HCL.out]
          by_cases h0 : H.k = 0
          · rw [if_pos h0] at h ⊢; rw [h]
          · rw [if_neg h0] at h ⊢
            by_cases h1 : H.k = 1
            · rw [if_pos h1] at h ⊢; rw [h]
            · rw [if_neg h1] at h ⊢
              by_cases h2 : heldT H = true
              · rw [if_pos h2] at h ⊢; rw [h]
              · rw [if_neg h2] at h; exact absurd h he)
        have HW8 := Lib.hid (Ext.trans' HQ.out.2.2.2.2.2.2.2 HB8.out)
        obtain ⟨r0, r1, r2, r3, rf⟩ := (HQ.out.2.2.2.1.ext HB8.out).four
        obtain ⟨z0, z1, z2, z3, zf⟩ := (HQ.out.2.2.2.2.1.ext HB8.out).four
        clear he
        go_wp2
        refine bodyPost_ret (v := .tuple #[.agg #[.int .i64 0, .int .i64 0, .string ⟨#[]⟩, .slice none 0 0], .agg #[.int .i64 0, .int .i64 0, .string ⟨#[]⟩, .slice none 0 0], .int .i64 er]) (by rw [results_ccT rfl]; go_simp) rfl ?_
        rw [HR.out]
        exact ⟨_, _, rfl, zero_tm _, zero_tm _, Below.set4 (b := w.heap.size + 2) (Below.set4 (b := w.heap.size + 1) HW8.out (by omega) _ _ _ _) (by omega) _ _ _ _⟩
end Go.Proofs.YtaojalicnnnkmaaGreatDoor
/- BodyKnown: what is reckoned; Back of nothing. (gen_kk1.py) -/
namespace Go.Proofs.YtaojalicnnnkmaaGreatDoor
open Go.Shelf Go.RowKit
set_option linter.unusedVariables false

/-- A text's term, and whether there is one. -/
def rdT (s : ByteArray) : Tm := match readB oneR opsB (bl (s ++ ⟨#[32, 46]⟩)) with
  | .ok (t, _) => t
  | .bad _ => zeroT
def okS (s : ByteArray) : Bool := match readB oneR opsB (bl (s ++ ⟨#[32, 46]⟩)) with
  | .ok _ => true
  | .bad _ => false
theorem say_ok {s : ByteArray} (hs : s.size ≤ 1000) (h : okS s = true) {w : World} (he : Err w) : Calls Tryz.prog 9 #[.string s] w (SayP w (rdT s)) := by
  cases hr : readB oneR opsB (bl (s ++ ⟨#[32, 46]⟩)) with
  | ok p =>
    obtain ⟨t, ns⟩ := p
    have : rdT s = t := by unfold rdT; rw [hr]
    rw [this]
    exact say_at s hs hr he
  | bad k => unfold okS at h; rw [hr] at h; cases h
def headK (l : List Gl) : Int := match l with
  | [] => 0
  | g :: _ => g.kind
def inSs : List ByteArray := [⟨#[116, 114, 117, 101]⟩, ⟨#[97, 59, 98]⟩, ⟨#[97, 45, 62, 98, 59, 99]⟩, ⟨#[97, 45, 62, 98]⟩, ⟨#[92, 43, 32, 97]⟩, ⟨#[88]⟩, ⟨#[116, 114, 117, 101, 44, 116, 114, 117, 101]⟩, ⟨#[40, 97, 44, 98, 41, 44, 99]⟩, ⟨#[40, 97, 59, 98, 41, 45, 62, 99, 59, 100]⟩]
def inKs : List Int := [0, 3, 4, 4, 5, 1, 0, 1, 4]
def inMs : List Int := [0, 3, 4, 4, 2, 1, 0, 3, 6]
def hdSs : List ByteArray := [⟨#[88, 32, 58, 45, 32, 97]⟩, ⟨#[51, 32, 58, 45, 32, 97]⟩, ⟨#[40, 97, 44, 98, 41, 32, 58, 45, 32, 99]⟩, ⟨#[33, 32, 58, 45, 32, 99]⟩, ⟨#[97, 32, 58, 45, 32, 51]⟩, ⟨#[116, 114, 117, 101]⟩, ⟨#[102, 97, 105, 108, 32, 58, 45, 32, 97]⟩, ⟨#[92, 43, 32, 97, 32, 58, 45, 32, 98]⟩, ⟨#[40, 97, 32, 58, 45, 32, 98, 41, 32, 58, 45, 32, 99]⟩]
def hdEs : List Int := [6, 5, 8, 8, 5, 8, 8, 8, 8]
def inOk (j : Nat) : Bool := match inSs[j]?, inKs[j]?, inMs[j]? with
  | some s, some k, some m => okS s && decide (s.size ≤ 1000) && (ofE (rdT s)).2 == 0 && headK (ofE (rdT s)).1 == k && ((cntL (ofE (rdT s)).1 : Nat) : Int) == m && decide (cntL (ofE (rdT s)).1 ≤ 1000)
  | _, _, _ => false
theorem in_all : (List.range 9).all inOk = true := by decide +kernel
theorem in_tab {j : Nat} (hj : j < 9) : ∃ (s : ByteArray) (k : Int) (c : Nat) (l : List Gl), inSs[j]? = some s ∧ inKs[j]? = some k ∧ inMs[j]? = some (c : Int) ∧ s.size ≤ 1000 ∧ okS s = true ∧ ofE (rdT s) = (l, 0) ∧ headK l = k ∧ cntL l = c ∧ c ≤ 1000 := by
  have h := List.all_eq_true.1 in_all j (List.mem_range.2 hj)
  unfold inOk at h
  cases h1 : inSs[j]? with
  | none => rw [h1] at h; cases h
  | some s =>
    cases h2 : inKs[j]? with
    | none => rw [h1, h2] at h; cases h
    | some k =>
      cases h3 : inMs[j]? with
      | none => rw [h1, h2, h3] at h; cases h
      | some m =>
        rw [h1, h2, h3] at h
        simp only [Bool.and_eq_true, decide_eq_true_eq, beq_iff_eq] at h
        obtain ⟨⟨⟨⟨⟨a1, a2⟩, a3⟩, a4⟩, a5⟩, a6⟩ := h
        exact ⟨s, k, _, _, rfl, rfl, by rw [a5], a2, a1, Prod.ext rfl a3, a4, rfl, a6⟩
def hdOk (j : Nat) : Bool := match hdSs[j]?, hdEs[j]? with
  | some s, some k => okS s && decide (s.size ≤ 1000) && (clauseE (rdT s)).2.2 == k
  | _, _ => false
theorem hd_all : (List.range 9).all hdOk = true := by decide +kernel
theorem hd_tab {j : Nat} (hj : j < 9) : ∃ (s : ByteArray) (k : Int), hdSs[j]? = some s ∧ hdEs[j]? = some k ∧ s.size ≤ 1000 ∧ okS s = true ∧ (clauseE (rdT s)).2.2 = k := by
  have h := List.all_eq_true.1 hd_all j (List.mem_range.2 hj)
  unfold hdOk at h
  cases h1 : hdSs[j]? with
  | none => rw [h1] at h; cases h
  | some s =>
    cases h2 : hdEs[j]? with
    | none => rw [h1, h2] at h; cases h
    | some k =>
      rw [h1, h2] at h
      simp only [Bool.and_eq_true, decide_eq_true_eq, beq_iff_eq] at h
      exact ⟨s, k, rfl, rfl, h.1.2, h.1.1, h.2⟩
def ks1 : ByteArray := ⟨#[112, 40, 88, 41, 32, 58, 45, 32, 113, 40, 88, 41, 44, 32, 114]⟩
def ks2 : ByteArray := ⟨#[112]⟩
def ks3 : ByteArray := ⟨#[97, 44, 32, 51]⟩
def ks4 : ByteArray := ⟨#[40, 33, 32, 45, 62, 32, 97, 32, 59, 32, 98, 41, 44, 32, 92, 43, 32, 33]⟩
def ks5 : ByteArray := ⟨#[40, 97, 32, 45, 62, 32, 33, 32, 59, 32, 98, 41]⟩
def ks6 : ByteArray := ⟨#[40, 97, 32, 59, 32, 98, 44, 32, 33, 41]⟩
def ks7 : ByteArray := ⟨#[112, 40, 88, 41]⟩
theorem ks1_ok : okS ks1 = true := by decide +kernel
theorem ks2_ok : okS ks2 = true := by decide +kernel
theorem ks3_ok : okS ks3 = true := by decide +kernel
theorem ks4_ok : okS ks4 = true := by decide +kernel
theorem ks5_ok : okS ks5 = true := by decide +kernel
theorem ks6_ok : okS ks6 = true := by decide +kernel
theorem ks7_ok : okS ks7 = true := by decide +kernel
def kh : Tm := (clauseE (rdT ks1)).1
def kr : Tm := (clauseE (rdT ks1)).2.1
def kf : Tm := (clauseE (rdT ks2)).1
def kg : Tm := (clauseE (rdT ks2)).2.1
theorem k1_cl : (clauseE (rdT ks1)).2.2 = 0 := by decide +kernel
theorem k2_cl : (clauseE (rdT ks2)).2.2 = 0 := by decide +kernel
theorem k1_same : (goodT kh && goodT (rdT ks7) && sameT kh (rdT ks7)) = true := by decide +kernel
theorem k1_name : kr.s = ⟨#[44]⟩ := by decide +kernel
theorem k2_same : (goodT kf && goodT (nameT ⟨#[112]⟩ []) && sameT kf (nameT ⟨#[112]⟩ [])) = true := by decide +kernel
theorem k2_true : (goodT kg && goodT (nameT trueS []) && sameT kg (nameT trueS [])) = true := by decide +kernel
theorem k3_of : (ofE (rdT ks3)).2 = 5 := by decide +kernel
def nineT : Tm := .mk 9 0 ⟨#[]⟩ []
theorem k9_of : (ofE nineT).2 = 1 := by decide +kernel
def ka : List Gl := (ofE (rdT ks4)).1
def kb : List Gl := (ofE (rdT ks5)).1
def kc : List Gl := (ofE (rdT ks6)).1
theorem ka_cut : cutL ka = false := by decide +kernel
theorem kb_cut : cutL kb = true := by decide +kernel
theorem kc_cut : cutL kc = true := by decide +kernel
theorem kt_same : (goodT (nameT trueS []) && goodT (nameT trueS []) && sameT (nameT trueS []) (nameT trueS [])) = true := by decide +kernel
set_option maxHeartbeats 4000000 in
theorem over_nil (w : World) : Calls Tryz.prog 69 #[.slice none 0 0] w fun e w' => e = .returned (.agg #[.int .i64 1, .int .i64 1]) ∧ Below w.heap.size w w' := by
  go_enter Tryz.func69, Tryz.ntmps69
  go_wp2_with fail
  refine wp_loop_rounds 1 ?_
  rw [rounds_succ]
  go_wp2
  refine bodyPost_ret (v := .agg #[.int .i64 1, .int .i64 1]) (by rw [results_cell1 rfl]; go_simp) rfl ⟨rfl, ?_⟩
  exact (bel1' w _).alloc (by simp) _
set_option maxHeartbeats 4000000 in
theorem srow_nil (w : World) (p : Value) : Calls Tryz.prog 52 #[p, .slice none 0 0] w fun e w' => e = .returned (.tuple #[.agg #[.int .i64 1, .int .i64 1], .bool true]) ∧ Below w.heap.size w w' := by
  obtain ⟨w1, e1, B1, z1, X1⟩ := box_new w #[.int .i64 0, .int .i64 0] 107
  have HE := Lib.hid e1
  have HB := Lib.hid B1
  have HX := Lib.hid X1
  clear e1 B1 z1 X1
  go_enter Tryz.func52, Tryz.ntmps52
  go_upto_region 2 with fail
  (try rw [HE.out])
  (go_wp2_with fail; go_fit (over_nil _); rintro e w2 ⟨rfl, b2⟩)
  have HB2 := Lib.hid (Ext.trans' HB.out b2)
  have c0 := (HX.out.ext b2).cells 0 _ rfl
  have c1 := (HX.out.ext b2).cells 1 _ rfl
  have cf := (HX.out.ext b2).fz
  clear b2
  go_wp2
  refine bodyPost_ret (v := .tuple #[.agg #[.int .i64 1, .int .i64 1], .bool true]) (by rw [results_cell_tmp rfl]; go_simp) rfl ⟨rfl, ?_⟩
  exact (HB2.out.setCell (p := ⟨w.heap.size, 0, none⟩) (Nat.le_refl _) _).setCell (p := ⟨w.heap.size, 1, none⟩) (Nat.le_refl _) _
set_option maxHeartbeats 4000000 in
theorem made_nil (w : World) : Calls Tryz.prog 35 #[.slice none 0 0] w fun e w' => e = .returned (.bool true) ∧ Below w.heap.size w w' := by
  obtain ⟨w1, e1, B1, z1, X1⟩ := box_new w #[.int .i64 2000] 105
  have HE := Lib.hid e1
  have HB := Lib.hid B1
  clear e1 B1 z1 X1
  go_enter Tryz.func35, Tryz.ntmps35
  go_upto_region 2 with fail
  (try rw [HE.out])
  (go_wp2_with fail; go_fit (srow_nil _ _); rintro e w2 ⟨rfl, b2⟩)
  have HB2 := Lib.hid (Ext.trans' HB.out (Ext.trans' b2 (bel1' w2 (.cells #[.int .i64 1, .int .i64 1] 107))))
  clear b2
  go_wp2
  go_ret
  exact ⟨rfl, HB2.out⟩
set_option maxHeartbeats 4000000 in
theorem joined_nil (w : World) : Calls Tryz.prog 36 #[.slice none 0 0] w fun e w' => e = .returned (.agg #[.int .i64 2, .int .i64 0, .string trueS, .slice none 0 0]) ∧ Below w.heap.size w w' := by
  obtain ⟨w1, e1, B1, z1, X1⟩ := box_new w #[.int .i64 0, .int .i64 0, .string ⟨#[]⟩, .slice none 0 0] 31
  have HE := Lib.hid e1
  have HB := Lib.hid B1
  have HX := Lib.hid X1
  clear e1 B1 z1 X1
  go_enter Tryz.func36, Tryz.ntmps36
  go_upto_region 2 with fail
  (try rw [HE.out])
  (go_wp2_with fail; go_fit (atom_at _ trueS); rintro e w2 ⟨rfl, b2⟩)
  have HB2 := Lib.hid (Ext.trans' HB.out b2)
  obtain ⟨r0, r1, r2, r3, rf⟩ := (HX.out.ext b2).four
  clear b2
  go_wp2
  refine bodyPost_ret (v := .agg #[.int .i64 2, .int .i64 0, .string trueS, .slice none 0 0]) (by rw [results_cell1 rfl]; go_simp) rfl ⟨rfl, ?_⟩
  exact Below.set4 HB2.out (Nat.le_refl _) _ _ _ _
set_option maxHeartbeats 4000000 in
theorem back_nil (w : World) : Calls Tryz.prog 15 #[.slice none 0 0] w fun e w' => e = .returned (.agg #[.int .i64 2, .int .i64 0, .string trueS, .slice none 0 0]) ∧ Below w.heap.size w w' := by
  obtain ⟨w1, e1, B1, z1, X1⟩ := box_new w #[.int .i64 0, .int .i64 0, .string ⟨#[]⟩, .slice none 0 0] 31
  have HE := Lib.hid e1
  have HB := Lib.hid B1
  have HX := Lib.hid X1
  clear e1 B1 z1 X1
  go_enter Tryz.func15, Tryz.ntmps15
  go_upto_region 1 with fail
  (try rw [HE.out])
  (go_wp2_with fail; go_fit (made_nil _); rintro e w2 ⟨rfl, b2⟩)
  have HB2 := Lib.hid b2
  clear b2
  (go_wp2_with fail; go_fit (joined_nil _); rintro e w3 ⟨rfl, b3⟩)
  have HB3 := Lib.hid (Ext.trans' HB.out (Ext.trans' HB2.out b3))
  obtain ⟨r0, r1, r2, r3, rf⟩ := (HX.out.ext (Ext.trans' HB2.out b3)).four
  clear b3
  go_wp2
  refine bodyPost_ret (v := .agg #[.int .i64 2, .int .i64 0, .string trueS, .slice none 0 0]) (by rw [results_cell1 rfl]; go_simp) rfl ⟨rfl, ?_⟩
  exact Below.set4 HB3.out (Nat.le_refl _) _ _ _ _
end Go.Proofs.YtaojalicnnnkmaaGreatDoor
