import Derived.Test.YtaojalicnnnkmaaGreatDoorHgraq
import Derived.Test.YtaojalicnnnkmaaGreatDoorHgrar
import Derived.Test.YtaojalicnnnkmaaGreatDoorHgran
import Derived.Laws.StructEq
import Derived.Test.YtaojalicnnnkmaaGreatDoorHgraa
import Derived.Test.YtaojalicnnnkmaaGreatDoorHgrak
set_option linter.unusedVariables false
set_option linter.unusedSimpArgs false
/- Package body: Clause, walked. (gen_kd2.py) -/
namespace Go.Proofs.YtaojalicnnnkmaaGreatDoor
open Go.RowKit
set_option linter.unusedVariables false

/-- The head and the rest, in their boxes. -/
def ClR (w : World) (t : Tm) (wx : World) : Prop := ∃ (H R : Tm) (hk hn : Int) (hs : ByteArray) (ha : Option Addr) (hm hc : Nat) (rk rn : Int) (rs : ByteArray) (ra : Option Addr) (rm rc : Nat), headT t = (H, R) ∧ goodT H = true ∧ goodT R = true ∧
  Box wx (w.heap.size + 1) [.int .i64 hk, .int .i64 hn, .string hs, .slice ha hm hc] ∧ Box wx (w.heap.size + 2) [.int .i64 rk, .int .i64 rn, .string rs, .slice ra rm rc] ∧
  TmV wx H (.agg #[.int .i64 hk, .int .i64 hn, .string hs, .slice ha hm hc]) ∧ TmV wx R (.agg #[.int .i64 rk, .int .i64 rn, .string rs, .slice ra rm rc]) ∧ Below w.heap.size w wx
theorem head_err {H : Tm} (hg : goodT H = true) {w : World} {k n : Int} {s : ByteArray} {a : Option Addr} {m c : Nat} (hv : TmV w H (.agg #[.int .i64 k, .int .i64 n, .string s, .slice a m c])) : headN k s m = (if H.k = 0 then 6 else if H.k = 1 then 5 else if heldT H = true then 8 else 0) := by
  obtain ⟨hk, hn, hs, hl⟩ := H
  obtain ⟨u, e, _, _, _, hu⟩ := tmV_iff.1 hv
  have h3 := congrArg Array.toList (Value.agg.inj e)
  simp only [List.cons.injEq, and_true, Value.int.injEq, Value.string.injEq, true_and] at h3
  obtain ⟨rfl, rfl, rfl, rfl⟩ := h3
  obtain ⟨_, _, e2, _⟩ := hu.len
  injection e2 with _ e2 _
  unfold headN
  show _ = if k = 0 then 6 else if k = 1 then 5 else _
  by_cases h0 : k = 0
  · rw [if_pos h0, if_pos h0]
  by_cases h1 : k = 1
  · rw [if_neg h0, if_neg h0, if_pos h1, if_pos h1]
  rw [if_neg h0, if_neg h0, if_neg h1, if_neg h1]
  have hf := (good_parts hg).2.2
  rw [formedT, Bool.and_eq_true] at hf
  have hp := hf.1
  unfold plainT at hp
  rw [if_neg h0, if_neg h1] at hp
  have h2 : k = 2 := by
    by_cases h2 : k = 2
    · exact h2
    · rw [if_neg h2] at hp; cases hp
  rw [held_name (t := .mk k n s hl) h2, e2]
  rfl
theorem true_good : goodT (nameT trueS []) = true := by decide +kernel
theorem same_one {w : World} {b j : Nat} {v : Value} (h : w.cell? ⟨b, j, none⟩ = some v) : Stays w (w.setCell ⟨b, j, none⟩ v) := by
  refine ⟨by simp [World.setCell], fun x u hu => ?_⟩
  by_cases e : (⟨b, j, none⟩ : Addr) = x
  · subst e
    rw [h] at hu
    cases hu
    exact css h
  · rw [World.cell?_setCell_other]
    · exact hu
    · exact e
theorem same_four {w : World} {b : Nat} {v0 v1 v2 v3 : Value} (h : Box w b [v0, v1, v2, v3]) : Stays w (set4 w b v0 v1 v2 v3) := by
  have s0 := same_one (h.cells 0 _ rfl)
  have s1 := s0.trans (same_one (s0.2 _ _ (h.cells 1 _ rfl)))
  have s2 := s1.trans (same_one (s1.2 _ _ (h.cells 2 _ rfl)))
  exact s2.trans (same_one (s2.2 _ _ (h.cells 3 _ rfl)))
theorem same_set {w : World} {b c : Nat} {v0 v1 v2 v3 u0 u1 u2 u3 : Value} (h : Box w b [v0, v1, v2, v3]) (g : Box w c [u0, u1, u2, u3]) (hne : c ≠ b) : Stays w (set4 (set4 w b v0 v1 v2 v3) c u0 u1 u2 u3) :=
  (same_four h).trans (same_four (g.far4g hne _ _ _ _))
set_option maxHeartbeats 16000000 in
set_option maxRecDepth 100000 in
theorem bClause_at (t : Tm) (w : World) (v : Value) (hv : TmV w t v) : Calls Tryz.prog 11 #[v] w fun e w' => ∃ h r, e = .returned (.tuple #[h, r, .int .i64 (clauseE t).2.2]) ∧ TmV w' (clauseE t).1 h ∧ TmV w' (clauseE t).2.1 r ∧ Below w.heap.size w w' := by
  obtain ⟨k, n, s, a, m, c, rfl, -, -, -, -⟩ := four_of hv
  obtain ⟨w1, e1, B1, z1, X1⟩ := box_new w #[.int .i64 k, .int .i64 n, .string s, .slice a m c] 31
  obtain ⟨w2, e2, B2, z2, X2⟩ := box_new w1 #[.int .i64 0, .int .i64 0, .string ⟨#[]⟩, .slice none 0 0] 31
  obtain ⟨w3, e3, B3, z3, X3⟩ := box_new w2 #[.int .i64 0, .int .i64 0, .string ⟨#[]⟩, .slice none 0 0] 31
  have HE := Lib.hid (And.intro e1 (And.intro e2 e3))
  have HBW := Lib.hid (Ext.trans' (Ext.trans' B1 B2) B3)
  have z2' : w2.heap.size = w.heap.size + 2 := by omega
  rw [z1] at X2
  rw [z2'] at X3
  have HX := Lib.hid (And.intro ((X1.ext B2).ext B3) (And.intro (X2.ext B3) X3))
  have HL3 := Lib.hid (show w3.heap.size = w.heap.size + 3 by omega)
  have HV := Lib.hid hv
  have HC := Lib.hid (fun (wx : World) (hb : Below w3.heap.size w3 wx) => (show wx.cell? ⟨w.heap.size, 0, none⟩ = some (.int .i64 k) ∧ wx.cell? ⟨w.heap.size, 1, none⟩ = some (.int .i64 n) ∧ wx.cell? ⟨w.heap.size, 2, none⟩ = some (.string s) ∧ wx.cell? ⟨w.heap.size, 3, none⟩ = some (.slice a m c) from by
    obtain ⟨y0, y1, y2, y3, _⟩ := (HX.out.1.ext hb).four
    exact ⟨y0, y1, y2, y3⟩))
  have C1 := Good_at t w3 _ (TmV.ext HBW.out _ _ hv)
  clear hv e1 e2 e3 B1 B2 B3 z1 z2 z3 z2' X1 X2 X3
  obtain ⟨c0, c1, c2, c3⟩ := HC.out w3 (Below.refl _ _)
  go_enter Tryz.func11, Tryz.ntmps11
  go_upto_region 1 with fail
  (try rw [HE.out.1, HE.out.2.1, HE.out.2.2])
  cases hg : goodT t
  · rw [hg] at C1
    have HR := Lib.hid (clause_bad hg)
    clear hg
    (go_wp2_with fail; go_fit (C1); rintro e w4 ⟨rfl, b4⟩)
    have HB4 := Lib.hid (Ext.trans' HBW.out b4)
    obtain ⟨r0, r1, r2, r3, rf⟩ := (HX.out.2.1.ext b4).four
    obtain ⟨z0, z1, z2, z3, zf⟩ := (HX.out.2.2.ext b4).four
    clear C1 b4 c0 c1 c2 c3
    go_wp2
    refine bodyPost_ret (v := .tuple #[.agg #[.int .i64 0, .int .i64 0, .string ⟨#[]⟩, .slice none 0 0], .agg #[.int .i64 0, .int .i64 0, .string ⟨#[]⟩, .slice none 0 0], .int .i64 1]) (by rw [results_ccT rfl]; go_simp) rfl ?_
    rw [HR.out]
    exact ⟨_, _, rfl, zero_tm _, zero_tm _, Below.set4 (b := w.heap.size + 2) (Below.set4 (b := w.heap.size + 1) HB4.out (by omega) _ _ _ _) (by omega) _ _ _ _⟩
  · rw [hg] at C1
    have HG := Lib.hid hg
    clear hg
    (go_wp2_with fail; go_fit (C1); rintro e w4 ⟨rfl, b4⟩)
    have HB4 := Lib.hid b4
    clear C1 b4 c0 c1 c2 c3
    obtain ⟨c0, c1, c2, c3⟩ := HC.out w4 HB4.out
    go_wp2_with fail
    refine wp_region_held_drew (S := fun w' => (w'.cell? ⟨w.heap.size, 0, none⟩ = some (.int .i64 k) ∧ w'.cell? ⟨w.heap.size, 1, none⟩ = some (.int .i64 n) ∧ w'.cell? ⟨w.heap.size, 2, none⟩ = some (.string s) ∧ w'.cell? ⟨w.heap.size, 3, none⟩ = some (.slice a m c)) ∧ True) (by kernel_rfl) (⟨⟨c0, c1, c2, c3⟩, trivial⟩) (fun hHeld => ?_)
    first | (refine held_t (i := 0) hHeld ?_; apply Exists.intro; refine ⟨fun wq hq => ?_, ?_⟩; (focus ((try dsimp only at hq); go_simp; (first | done | with_reducible rfl | fail)))) | refine held_s (i := 0) hHeld ?_ | fail
    try simp only [Act.put, List.setIfInBounds_toArray, List.set_cons_zero, List.set_cons_succ]
    refine held_c 1 fun K hK => ?_
    go_simp
    (obtain ⟨wd, hwd⟩ : ∃ wd, w4.drew = wd := ⟨_, rfl⟩; rw [hwd] at hHeld ⊢; have hbd : Below w4.heap.size w4 wd := (by rw [← hwd]; exact (Below.refl _ _).drew); go_at_call 13; refine (atom_at _ trueS).mono ?_; rintro e w5 ⟨rfl, h5⟩; have HB5 := Lib.hid (Ext.trans' hbd h5))
    refine hK.out _ _ (⟨⟨cell_later h5 hHeld.1.1, cell_later h5 hHeld.1.2.1, cell_later h5 hHeld.1.2.2.1, cell_later h5 hHeld.1.2.2.2⟩, trivial⟩) (fun hHeld => ?_)
    clear hK K
    try simp only [Act.put, List.setIfInBounds_toArray, List.set_cons_zero, List.set_cons_succ]
    refine held_c 2 fun K hK => ?_
    (obtain ⟨r0, r1, r2, r3, rf⟩ := (HX.out.2.1.ext (Ext.trans' HB4.out HB5.out)).four; go_simp)
    refine hK.out _ _ (⟨⟨far1 hHeld.1.1 (by omega), far1 hHeld.1.2.1 (by omega), far1 hHeld.1.2.2.1 (by omega), far1 hHeld.1.2.2.2 (by omega)⟩, trivial⟩) (fun hHeld => ?_)
    clear hK K
    try simp only [Act.put, List.setIfInBounds_toArray, List.set_cons_zero, List.set_cons_succ]
    refine held_c 3 fun K hK => ?_
    (obtain ⟨z0, z1, z2, z3, zf⟩ := ((HX.out.2.2.ext (Ext.trans' HB4.out HB5.out)).far4g (c := w.heap.size + 1) (by omega) (.int .i64 k) (.int .i64 n) (.string s) (.slice a m c)).four; go_simp)
    refine hK.out _ _ (⟨⟨far1 hHeld.1.1 (by omega), far1 hHeld.1.2.1 (by omega), far1 hHeld.1.2.2.1 (by omega), far1 hHeld.1.2.2.2 (by omega)⟩, trivial⟩) (fun hHeld => ?_)
    clear hK K
    try simp only [Act.put, List.setIfInBounds_toArray, List.set_cons_zero, List.set_cons_succ]
    refine wpAnyH_done (by kernel_rfl) ?_ _
    obtain ⟨w6, hw6⟩ : ∃ w6, set4 (set4 w5 (w.heap.size + 1) (.int .i64 k) (.int .i64 n) (.string s) (.slice a m c)) (w.heap.size + 2) (.int .i64 2) (.int .i64 0) (.string trueS) (.slice none 0 0) = w6 := ⟨_, rfl⟩
    have hb5 := Ext.trans' HBW.out (Ext.trans' HB4.out HB5.out)
    have HB6 := Lib.hid (show Below w.heap.size w w6 from by rw [← hw6]; exact Below.set4 (Below.set4 hb5 (by omega) _ _ _ _) (by omega) _ _ _ _)
    have HX6 := Lib.hid (show Box w6 w.heap.size [.int .i64 k, .int .i64 n, .string s, .slice a m c] ∧ Box w6 (w.heap.size + 1) [.int .i64 k, .int .i64 n, .string s, .slice a m c] ∧ Box w6 (w.heap.size + 2) [.int .i64 2, .int .i64 0, .string trueS, .slice none 0 0] from by
      rw [← hw6]
      have q1 := HX.out.1.ext (Ext.trans' HB4.out HB5.out)
      have q2 := HX.out.2.1.ext (Ext.trans' HB4.out HB5.out)
      have q3 := HX.out.2.2.ext (Ext.trans' HB4.out HB5.out)
      exact ⟨(q1.far4g (by omega) _ _ _ _).far4g (by omega) _ _ _ _, (q2.all4' _ _ _ _).far4g (by omega) _ _ _ _, (q3.far4g (by omega) _ _ _ _).all4' _ _ _ _⟩)
    first | rw [hw6] | (dsimp only [set4, set3] at hw6; rw [hw6])
    clear hHeld hw6 hb5 c0 c1 c2 c3 HB4 HB5
    obtain ⟨c0, c1, c2, c3, _⟩ := HX6.out.1.four
    have C2 := bis_at (TmV.ext HB6.out _ _ HV.out) neckS 2
    rw [nmT_is (good_parts HG.out).2.2 (by decide)] at C2
    obtain ⟨bn, hbn⟩ : ∃ b, isT t neckS 2 = b := ⟨_, rfl⟩
    have HBN := Lib.hid hbn
    rw [hbn] at C2
    clear hbn
    (go_wp2_with fail; go_fit (C2); rintro e w7 ⟨rfl, b7⟩)
    have HB7 := Lib.hid (Ext.trans' HB6.out b7)
    have HX7 := Lib.hid (And.intro (HX6.out.1.ext b7) (And.intro (HX6.out.2.1.ext b7) (HX6.out.2.2.ext b7)))
    clear C2 b7 c0 c1 c2 c3 HB6 HX6
    go_upto_if 13 with fail
    go_cut [] from 14 to 21 (fun wx => Hid (ClR w t wx))
    case first =>
      cases bn
      · have HH := Lib.hid (show headT t = (t, nameT trueS []) from by unfold headT; rw [if_neg (by rw [HBN.out]; simp)])
        have HEND := Lib.hid (show ClR w t w7 from ⟨t, nameT trueS [], k, n, s, a, m, c, 2, 0, trueS, none, 0, 0, HH.out, HG.out, true_good, HX7.out.2.1, HX7.out.2.2, TmV.ext HB7.out _ _ HV.out, leaf_tm _ (i64_of 2 (by omega) (by omega)) i64_0 (by unfold BIG; decide), HB7.out⟩)
        go_wp2
        go_meet
        exact HEND
      · have hlen := isT_iff.1 HBN.out
        obtain ⟨x, y, hxy⟩ := two_args hlen.2.2
        have HH := Lib.hid (show headT t = (x, y) from by
          unfold headT
          rw [if_pos HBN.out]
          obtain ⟨tk, tn, ts, ta⟩ := t
          cases (show ta = [x, y] from hxy)
          rfl)
        obtain ⟨u', eu, _, _, _, hu⟩ := tmV_iff.1 (show TmV w (.mk t.k t.n t.s t.args) (.agg #[.int .i64 k, .int .i64 n, .string s, .slice a m c]) from by have h := HV.out; cases t; exact h)
        obtain ⟨_, _, _, rfl⟩ : _ ∧ _ ∧ _ ∧ Value.slice a m c = u' := by
          have h3 := congrArg Array.toList (Value.agg.inj eu)
          simp only [List.cons.injEq, and_true] at h3
          exact h3
        rw [hxy] at hu
        obtain rfl : m = 2 := by obtain ⟨_, _, e, _⟩ := hu.len; cases e; rfl
        have hu0 : Tms (hide (fun _ => false) w) (.slice a 2 c) [x, y] := by rw [hide_none]; exact hu
        obtain ⟨b, off, k1, n1, s1, a1, m1, c1, k2, n2, s2, a2, m2, c2, rfl, d0, d1, d2, d3, f0, f1, f2, f3, ht1, ht2, _⟩ := args_two hu0
        rw [hide_none] at ht1 ht2
        have HTW := Lib.hid (And.intro ht1 ht2)
        have HGG := Lib.hid (show goodT x = true ∧ goodT y = true from ⟨good_arg HG.out (by rw [hxy]; simp), good_arg HG.out (by rw [hxy]; simp)⟩)
        have HBLT := Lib.hid (show b < w.heap.size from World.block_lt_of_cell? _ _ d0)
        have hbl := HBLT.out
        replace d0 := cell_later HB7.out d0
        replace d1 := cell_later HB7.out d1
        replace d2 := cell_later HB7.out d2
        replace d3 := cell_later HB7.out d3
        replace f0 := cell_later HB7.out f0
        replace f1 := cell_later HB7.out f1
        replace f2 := cell_later HB7.out f2
        replace f3 := cell_later HB7.out f3
        obtain ⟨c0, c1', c2', c3, _⟩ := HX7.out.1.four
        clear hlen hxy eu hu hu0 ht1 ht2
        go_wp2_with fail
        refine wp_region_held_drew (S := fun w' => (w'.cell? ⟨w.heap.size, 3, none⟩ = some (.slice (some ⟨b, off, none⟩) 2 c) ∧ w'.cell? ⟨b, off, none⟩ = some (.int .i64 k1) ∧ w'.cell? ⟨b, off + 1, none⟩ = some (.int .i64 n1) ∧ w'.cell? ⟨b, off + 2, none⟩ = some (.string s1) ∧ w'.cell? ⟨b, off + 3, none⟩ = some (.slice a1 m1 c1) ∧ w'.cell? ⟨b, off + 4, none⟩ = some (.int .i64 k2) ∧ w'.cell? ⟨b, off + 4 + 1, none⟩ = some (.int .i64 n2) ∧ w'.cell? ⟨b, off + 4 + 2, none⟩ = some (.string s2) ∧ w'.cell? ⟨b, off + 4 + 3, none⟩ = some (.slice a2 m2 c2)) ∧ True) (by kernel_rfl) (⟨⟨c3, d0, d1, d2, d3, f0, f1, f2, f3⟩, trivial⟩) (fun hHeld => ?_)
        first | (refine held_t (i := 0) hHeld ?_; apply Exists.intro; refine ⟨fun wq hq => ?_, ?_⟩; (focus ((try dsimp only at hq); go_simp; (first | done | with_reducible rfl | fail)))) | refine held_s (i := 0) hHeld ?_ | fail
        first | (refine held_t (i := 1) hHeld ?_; apply Exists.intro; refine ⟨fun wq hq => ?_, ?_⟩; (focus ((try dsimp only at hq); go_simp; (first | done | with_reducible rfl | fail)))) | refine held_s (i := 1) hHeld ?_ | fail
        first | (refine held_t (i := 2) hHeld ?_; apply Exists.intro; refine ⟨fun wq hq => ?_, ?_⟩; (focus ((try dsimp only at hq); go_simp; (first | done | with_reducible rfl | fail)))) | refine held_s (i := 2) hHeld ?_ | fail
        first | (refine held_t (i := 3) hHeld ?_; apply Exists.intro; refine ⟨fun wq hq => ?_, ?_⟩; (focus ((try dsimp only at hq); go_simp; (first | done | with_reducible rfl | fail)))) | refine held_s (i := 3) hHeld ?_ | fail
        first | (refine held_t (i := 4) hHeld ?_; apply Exists.intro; refine ⟨fun wq hq => ?_, ?_⟩; (focus ((try dsimp only at hq); go_simp; (first | done | with_reducible rfl | fail)))) | refine held_s (i := 4) hHeld ?_ | fail
        first | (refine held_t (i := 5) hHeld ?_; apply Exists.intro; refine ⟨fun wq hq => ?_, ?_⟩; (focus ((try dsimp only at hq); go_simp; (first | done | with_reducible rfl | fail)))) | refine held_s (i := 5) hHeld ?_ | fail
        first | (refine held_t (i := 6) hHeld ?_; apply Exists.intro; refine ⟨fun wq hq => ?_, ?_⟩; (focus ((try dsimp only at hq); go_simp; (first | done | with_reducible rfl | fail)))) | refine held_s (i := 6) hHeld ?_ | fail
        first | (refine held_t (i := 7) hHeld ?_; apply Exists.intro; refine ⟨fun wq hq => ?_, ?_⟩; (focus ((try dsimp only at hq); go_simp; (first | done | with_reducible rfl | fail)))) | refine held_s (i := 7) hHeld ?_ | fail
        try simp only [Act.put, List.setIfInBounds_toArray, List.set_cons_zero, List.set_cons_succ]
        refine held_c 8 fun K hK => ?_
        (obtain ⟨wd, hwd⟩ : ∃ wd, w7.drew = wd := ⟨_, rfl⟩; rw [hwd] at hHeld ⊢; have hbd : Below w7.heap.size w7 wd := (by rw [← hwd]; exact (Below.refl _ _).drew); have HBD := Lib.hid hbd; obtain ⟨r0, r1, r2, r3, rf⟩ := (HX7.out.2.1.ext HBD.out).four; go_simp)
        refine hK.out _ _ (⟨⟨far1 hHeld.1.1 (by omega), far1 hHeld.1.2.1 (by omega), far1 hHeld.1.2.2.1 (by omega), far1 hHeld.1.2.2.2.1 (by omega), far1 hHeld.1.2.2.2.2.1 (by omega), far1 hHeld.1.2.2.2.2.2.1 (by omega), far1 hHeld.1.2.2.2.2.2.2.1 (by omega), far1 hHeld.1.2.2.2.2.2.2.2.1 (by omega), far1 hHeld.1.2.2.2.2.2.2.2.2 (by omega)⟩, trivial⟩) (fun hHeld => ?_)
        clear hK K
        try simp only [Act.put, List.setIfInBounds_toArray, List.set_cons_zero, List.set_cons_succ]
        refine held_c 9 fun K hK => ?_
        (obtain ⟨z0, z1, z2, z3, zf⟩ := ((HX7.out.2.2.ext HBD.out).far4g (c := w.heap.size + 1) (by omega) (.int .i64 k1) (.int .i64 n1) (.string s1) (.slice a1 m1 c1)).four; go_simp)
        refine hK.out _ _ (⟨⟨far1 hHeld.1.1 (by omega), far1 hHeld.1.2.1 (by omega), far1 hHeld.1.2.2.1 (by omega), far1 hHeld.1.2.2.2.1 (by omega), far1 hHeld.1.2.2.2.2.1 (by omega), far1 hHeld.1.2.2.2.2.2.1 (by omega), far1 hHeld.1.2.2.2.2.2.2.1 (by omega), far1 hHeld.1.2.2.2.2.2.2.2.1 (by omega), far1 hHeld.1.2.2.2.2.2.2.2.2 (by omega)⟩, trivial⟩) (fun hHeld => ?_)
        clear hK K
        try simp only [Act.put, List.setIfInBounds_toArray, List.set_cons_zero, List.set_cons_succ]
        refine wpAnyH_done (by kernel_rfl) ?_ _
        have hb8 := Ext.trans' HB7.out HBD.out
        have hB8 : Below w.heap.size w (set4 (set4 wd (w.heap.size + 1) (.int .i64 k1) (.int .i64 n1) (.string s1) (.slice a1 m1 c1)) (w.heap.size + 2) (.int .i64 k2) (.int .i64 n2) (.string s2) (.slice a2 m2 c2)) := Below.set4 (Below.set4 hb8 (by omega) _ _ _ _) (by omega) _ _ _ _
        have HEND := Lib.hid (show ClR w t (set4 (set4 wd (w.heap.size + 1) (.int .i64 k1) (.int .i64 n1) (.string s1) (.slice a1 m1 c1)) (w.heap.size + 2) (.int .i64 k2) (.int .i64 n2) (.string s2) (.slice a2 m2 c2)) from
          ⟨x, y, k1, n1, s1, a1, m1, c1, k2, n2, s2, a2, m2, c2, HH.out, HGG.out.1, HGG.out.2, ((HX7.out.2.1.ext HBD.out).all4' _ _ _ _).far4g (by omega) _ _ _ _, ((HX7.out.2.2.ext HBD.out).far4g (by omega) _ _ _ _).all4' _ _ _ _, TmV.ext hB8 _ _ HTW.out.1, TmV.ext hB8 _ _ HTW.out.2, hB8⟩)
        clear hHeld c0 c1' c2' c3 d0 d1 d2 d3 f0 f1 f2 f3 hb8 hB8
        go_wp2
        go_meet
        exact HEND
    case rest =>
      obtain ⟨H, R, hk, hn, hs, ha, hm, hc, rk, rn, rs, ra, rm, rc, q1, q2, q3, q4, q5, q6, q7, q8⟩ := hcut.out
      have HQ := Lib.hid (And.intro q1 (And.intro q2 (And.intro q3 (And.intro q4 (And.intro q5 (And.intro q6 (And.intro q7 q8)))))))
      have HCL := Lib.hid (clause_good HG.out q1)
      have hhe := head_err q2 q6
      obtain ⟨p0, p1, p2, p3, _⟩ := q4.four
      obtain ⟨er, her⟩ : ∃ er, headN hk hs hm = er := ⟨_, rfl⟩
      have C3 := bhead_at wc hk hn hs ha hm hc
      rw [her] at C3 hhe
      have HHE := Lib.hid hhe
      clear q1 q2 q3 q4 q5 q6 q7 q8 her hhe hcut
      (go_wp2_with fail; go_fit (C3); rintro e w8 ⟨rfl, b8⟩)
      have HB8 := Lib.hid b8
      clear C3 b8 p0 p1 p2 p3
      by_cases he : er = 0
      · subst he
        obtain ⟨q0, q1, q2, q3, _⟩ := (HQ.out.2.2.2.2.1.ext HB8.out).four
        have C4 := bOf_at R w8 _ (TmV.ext HB8.out _ _ HQ.out.2.2.2.2.2.2.1)
        unfold OfKE at C4
        rw [(ofE_erO HQ.out.2.2.1).1] at C4
        obtain ⟨o, ho⟩ : ∃ o, ofB R = o := ⟨_, rfl⟩
        have HO := Lib.hid ho
        rw [ho] at C4
        clear ho
        have HZE := Lib.hid (show ¬ H.k = 0 ∧ ¬ H.k = 1 ∧ ¬ heldT H = true from by
          have h := HHE.out
          refine ⟨fun e => ?_, fun e => ?_, fun e => ?_⟩
          · rw [if_pos e] at h; omega
          · by_cases h0 : H.k = 0
            · rw [if_pos h0] at h; omega
            · rw [if_neg h0, if_pos e] at h; omega
          · by_cases h0 : H.k = 0
            · rw [if_pos h0] at h; omega
            · by_cases h1 : H.k = 1
              · rw [if_neg h0, if_pos h1] at h; omega
              · rw [if_neg h0, if_neg h1, if_pos e] at h; omega)
        (go_wp2_with fail; go_fit (C4); rintro e w9 ⟨r9, rfl, _, b9⟩)
        have HB9 := Lib.hid (Ext.trans' HB8.out b9)
        have HW9 := Lib.hid (Ext.trans' HQ.out.2.2.2.2.2.2.2 HB9.out)
        have HX9 := Lib.hid (And.intro (HQ.out.2.2.2.1.ext HB9.out) (HQ.out.2.2.2.2.1.ext HB9.out))
        clear C4 b9 q0 q1 q2 q3
        cases o with
        | none =>
          have her : erO none = 5 := rfl
          rw [her]
          have HR := Lib.hid (show clauseE t = (zeroT, zeroT, 5) by rw [HCL.out, if_neg HZE.out.1, if_neg HZE.out.2.1, if_neg HZE.out.2.2, HO.out]; rfl)
          obtain ⟨r0, r1, r2, r3, rf⟩ := HX9.out.1.four
          obtain ⟨z0, z1, z2, z3, zf⟩ := HX9.out.2.four
          go_wp2
          refine bodyPost_ret (v := .tuple #[.agg #[.int .i64 0, .int .i64 0, .string ⟨#[]⟩, .slice none 0 0], .agg #[.int .i64 0, .int .i64 0, .string ⟨#[]⟩, .slice none 0 0], .int .i64 5]) (by rw [results_ccT rfl]; go_simp) rfl ?_
          rw [HR.out]
          exact ⟨_, _, rfl, zero_tm _, zero_tm _, Below.set4 (b := w.heap.size + 2) (Below.set4 (b := w.heap.size + 1) HW9.out (by omega) _ _ _ _) (by omega) _ _ _ _⟩
        | some l =>
          have her : erO (some l) = 0 := rfl
          rw [her]
          have HR := Lib.hid (show clauseE t = (H, R, 0) by rw [HCL.out, if_neg HZE.out.1, if_neg HZE.out.2.1, if_neg HZE.out.2.2, HO.out]; rfl)
          obtain ⟨p0, p1, p2, p3, _⟩ := HX9.out.1.four
          obtain ⟨q0, q1, q2, q3, _⟩ := HX9.out.2.four
          go_wp2_with fail
          refine wp_region_held_drew (S := fun w' => ((w'.cell? ⟨w.heap.size + 1, 0, none⟩ = some (.int .i64 hk) ∧ w'.cell? ⟨w.heap.size + 1, 1, none⟩ = some (.int .i64 hn) ∧ w'.cell? ⟨w.heap.size + 1, 2, none⟩ = some (.string hs) ∧ w'.cell? ⟨w.heap.size + 1, 3, none⟩ = some (.slice ha hm hc)) ∧ (w'.cell? ⟨w.heap.size + 2, 0, none⟩ = some (.int .i64 rk) ∧ w'.cell? ⟨w.heap.size + 2, 1, none⟩ = some (.int .i64 rn) ∧ w'.cell? ⟨w.heap.size + 2, 2, none⟩ = some (.string rs) ∧ w'.cell? ⟨w.heap.size + 2, 3, none⟩ = some (.slice ra rm rc))) ∧ True) (by kernel_rfl) (⟨⟨⟨p0, p1, p2, p3⟩, q0, q1, q2, q3⟩, trivial⟩) (fun hHeld => ?_)
          first | (refine held_t (i := 0) hHeld ?_; apply Exists.intro; refine ⟨fun wq hq => ?_, ?_⟩; (focus ((try dsimp only at hq); go_simp; (first | done | with_reducible rfl | fail)))) | refine held_s (i := 0) hHeld ?_ | fail
          first | (refine held_t (i := 1) hHeld ?_; apply Exists.intro; refine ⟨fun wq hq => ?_, ?_⟩; (focus ((try dsimp only at hq); go_simp; (first | done | with_reducible rfl | fail)))) | refine held_s (i := 1) hHeld ?_ | fail
          try simp only [Act.put, List.setIfInBounds_toArray, List.set_cons_zero, List.set_cons_succ]
          refine held_c 2 fun K hK => ?_
          (obtain ⟨wd, hwd⟩ : ∃ wd, w9.drew = wd := ⟨_, rfl⟩; rw [hwd] at hHeld ⊢; have hbd : Below w9.heap.size w9 wd := (by rw [← hwd]; exact (Below.refl _ _).drew); have HBD := Lib.hid hbd; obtain ⟨r0, r1, r2, r3, rf⟩ := (HX9.out.1.ext HBD.out).four; go_simp)
          refine hK.out _ _ (⟨⟨Box.cells4 ((HX9.out.1.ext HBD.out).all4' _ _ _ _), Box.cells4 ((HX9.out.2.ext HBD.out).far4g (by omega) _ _ _ _)⟩, trivial⟩) (fun hHeld => ?_)
          clear hK K
          try simp only [Act.put, List.setIfInBounds_toArray, List.set_cons_zero, List.set_cons_succ]
          refine held_c 3 fun K hK => ?_
          (obtain ⟨z0, z1, z2, z3, zf⟩ := ((HX9.out.2.ext HBD.out).far4g (c := w.heap.size + 1) (by omega) (.int .i64 hk) (.int .i64 hn) (.string hs) (.slice ha hm hc)).four; go_simp)
          refine hK.out _ _ (⟨⟨Box.cells4 (((HX9.out.1.ext HBD.out).all4' _ _ _ _).far4g (by omega) _ _ _ _), Box.cells4 (((HX9.out.2.ext HBD.out).far4g (by omega) _ _ _ _).all4' _ _ _ _)⟩, trivial⟩) (fun hHeld => ?_)
          clear hK K
          try simp only [Act.put, List.setIfInBounds_toArray, List.set_cons_zero, List.set_cons_succ]
          first | (refine held_t (i := 4) hHeld ?_; apply Exists.intro; refine ⟨fun wq hq => ?_, ?_⟩; (focus ((try dsimp only at hq); go_simp; (first | done | with_reducible rfl | fail)))) | refine held_s (i := 4) hHeld ?_ | fail
          try simp only [Act.put, List.setIfInBounds_toArray, List.set_cons_zero, List.set_cons_succ]
          refine wpAnyH_done (by kernel_rfl) ?_ _
          have HTD := Lib.hid (And.intro (TmV.ext (Ext.trans' HB9.out HBD.out) _ _ HQ.out.2.2.2.2.2.1) (TmV.ext (Ext.trans' HB9.out HBD.out) _ _ HQ.out.2.2.2.2.2.2.1))
          have HXD := Lib.hid (And.intro (((HX9.out.1.ext HBD.out).all4' (.int .i64 hk) (.int .i64 hn) (.string hs) (.slice ha hm hc)).far4g (c := w.heap.size + 2) (by omega) (.int .i64 rk) (.int .i64 rn) (.string rs) (.slice ra rm rc)) (((HX9.out.2.ext HBD.out).far4g (c := w.heap.size + 1) (by omega) (.int .i64 hk) (.int .i64 hn) (.string hs) (.slice ha hm hc)).all4' (.int .i64 rk) (.int .i64 rn) (.string rs) (.slice ra rm rc)))
          have HSAME := Lib.hid (show Stays wd (set4 (set4 wd (w.heap.size + 1) (.int .i64 hk) (.int .i64 hn) (.string hs) (.slice ha hm hc)) (w.heap.size + 2) (.int .i64 rk) (.int .i64 rn) (.string rs) (.slice ra rm rc)) from same_set (HX9.out.1.ext HBD.out) (HX9.out.2.ext HBD.out) (by omega))
          clear hHeld
          obtain ⟨p0, p1, p2, p3, _⟩ := HXD.out.1.four
          obtain ⟨q0, q1, q2, q3, _⟩ := HXD.out.2.four
          go_wp2
          refine bodyPost_ret (v := .tuple #[.agg #[.int .i64 hk, .int .i64 hn, .string hs, .slice ha hm hc], .agg #[.int .i64 rk, .int .i64 rn, .string rs, .slice ra rm rc], .int .i64 0]) (by rw [results_ccT rfl]; go_simp) rfl ?_
          rw [HR.out]
          exact ⟨_, _, rfl, TmV.stay HSAME.out _ _ HTD.out.1, TmV.stay HSAME.out _ _ HTD.out.2, Below.set4 (b := w.heap.size + 2) (Below.set4 (b := w.heap.size + 1) (Ext.trans' HW9.out HBD.out) (by omega) _ _ _ _) (by omega) _ _ _ _⟩
      · have heb : (er == 0) = false := beq_false_of_ne he
        have HR := Lib.hid (show clauseE t = (zeroT, zeroT, er) by
          have h := HHE.out
          rw [HCL.out]
          by_cases h0 : H.k = 0
          · rw [if_pos h0] at h ⊢; rw [h]
          · rw [if_neg h0] at h ⊢
            by_cases h1 : H.k = 1
            · rw [if_pos h1] at h ⊢; rw [h]
            · rw [if_neg h1] at h ⊢
              by_cases h2 : heldT H = true
              · rw [if_pos h2] at h ⊢; rw [h]
              · rw [if_neg h2] at h; exact absurd h he)
        have HW8 := Lib.hid (Ext.trans' HQ.out.2.2.2.2.2.2.2 HB8.out)
        obtain ⟨r0, r1, r2, r3, rf⟩ := (HQ.out.2.2.2.1.ext HB8.out).four
        obtain ⟨z0, z1, z2, z3, zf⟩ := (HQ.out.2.2.2.2.1.ext HB8.out).four
        clear he
        go_wp2
        refine bodyPost_ret (v := .tuple #[.agg #[.int .i64 0, .int .i64 0, .string ⟨#[]⟩, .slice none 0 0], .agg #[.int .i64 0, .int .i64 0, .string ⟨#[]⟩, .slice none 0 0], .int .i64 er]) (by rw [results_ccT rfl]; go_simp) rfl ?_
        rw [HR.out]
        exact ⟨_, _, rfl, zero_tm _, zero_tm _, Below.set4 (b := w.heap.size + 2) (Below.set4 (b := w.heap.size + 1) HW8.out (by omega) _ _ _ _) (by omega) _ _ _ _⟩
end Go.Proofs.YtaojalicnnnkmaaGreatDoor
/- Maps whose keys are places of rows of goals (an address and a number), made and asked in one call. -/
namespace Go.Proofs.YtaojalicnnnkmaaGreatDoor
open Go.RowKit
set_option linter.unusedVariables false

abbrev Key := Addr × Nat
abbrev keyV (k : Key) : Value := .agg #[.pointer (some k.1), .int .i64 (k.2 : Int)]
abbrev kent (p : Key × Value) : Value × Value := (keyV p.1, p.2)
/-- The entries, in their order. -/
def HoldsK (es : List MapEntry) (L : List (Key × Value)) : Prop := es.map (fun e => (e.key, e.val)) = L.map kent
/-- What the first entry of that key holds. -/
def lookK (k : Key) : List (Key × Value) → Option Value
  | [] => none
  | p :: r => if p.1 = k then some p.2 else lookK k r
section
variable {w : World}
theorem infoGoalP : ∃ j, Tryz.prog.info? 35 = some j ∧ j.size ≠ 0 := by
  have h : (Tryz.prog.info? 35).map (fun i => i.size) = some 6 := by kernel_rfl
  cases hi : Tryz.prog.info? 35 with
  | none => rw [hi] at h; cases h
  | some j => rw [hi] at h; exact ⟨j, rfl, by simp at h; omega⟩
theorem eqPtr (a b : Addr) (ha : Plain w a.block) (hb : Plain w b.block) (d : Nat) : (Op.equalIn (d + 1) 95 (.pointer (some a)) (.pointer (some b))).run Tryz.prog w = .ok (decide (a = b)) w := by
  obtain ⟨j, hte, hsz⟩ := infoGoalP
  have hk := Tryz.underlying95
  by_cases h : a = b
  · subst h
    simp [Op.equalIn, run_underlying hk, sizeOf, typeInfo, hte, run_sameAddr_same]
  · obtain ⟨ca, ta, ha⟩ := ha
    obtain ⟨cb, tb, hb⟩ := hb
    simp [Op.equalIn, run_underlying hk, sizeOf, typeInfo, hte, hsz, run_sameAddr_other w h ha hb, h]
theorem eqKey (k k' : Key) (ha : Plain w k.1.block) (hb : Plain w k'.1.block) : (Op.equal 97 (keyV k) (keyV k')).run Tryz.prog w = .ok (decide (k = k')) w := by
  have hS : Tryz.prog.underlying 97 = some (.struct (Tryz.prog.fieldsOf 97)) := by kernel_rfl
  have hp : Tryz.prog.stoodInHeld 97 = false := by kernel_rfl
  have h1 := eqPtr (w := w) k.1 k'.1 ha hb 9998
  have h2 := run_equalIn_int (P := Tryz.prog) w 9998 3 .i64 .i64 (k.2 : Int) (k'.2 : Int) Tryz.underlying3
  have z1 := Tryz.sizeOf95
  have z2 := Tryz.sizeOf3
  have a1 := Tryz.isAgg95
  have a2 := Tryz.isAgg3
  show (Op.equalIn 10000 _ _ _).run _ w = _
  rw [show (10000 : Nat) = 9999 + 1 from rfl, run_equalIn_agg w 9999 97 _ _ hS hp]
  simp only [Program.fieldsOf, Tryz.underlying97]
  go_simp
  by_cases e1 : k.1 = k'.1
  · by_cases e2 : k.2 = k'.2
    · have : k = k' := Prod.ext e1 e2
      simp [this]
    · have : k ≠ k' := fun e => e2 (by rw [e])
      have e3 : ¬ (k.2 : Int) = (k'.2 : Int) := by omega
      simp [e1, e3, this]
  · have : k ≠ k' := fun e => e1 (by rw [e])
    simp [e1, this]
theorem checkK (b : Bool) (k : Key) : (Instr.checkKey b 10000 97 (keyV k)).run Tryz.prog w = .ok () w := by
  have hS : Tryz.prog.underlying 97 = some (.struct (Tryz.prog.fieldsOf 97)) := by kernel_rfl
  have z1 := Tryz.sizeOf95
  have z2 := Tryz.sizeOf3
  have a1 := Tryz.isAgg95
  have a2 := Tryz.isAgg3
  have u1 := run_underlying (w := w) Tryz.underlying95
  have u2 := run_underlying (w := w) Tryz.underlying3
  have p1 : (part 95 #[.pointer (some k.1), .int .i64 (k.2 : Int)] 0).run Tryz.prog w = .ok (.pointer (some k.1)) w := by go_simp
  have p2 : (part 3 #[.pointer (some k.1), .int .i64 (k.2 : Int)] 1).run Tryz.prog w = .ok (.int .i64 (k.2 : Int)) w := by go_simp
  have c1 : (Instr.checkKey b 9999 95 (.pointer (some k.1))).run Tryz.prog w = .ok () w := by
    rw [show (9999 : Nat) = 9998 + 1 from rfl, Instr.checkKey]
    simp [u1]
  have c2 : (Instr.checkKey b 9999 3 (.int .i64 (k.2 : Int))).run Tryz.prog w = .ok () w := by
    rw [show (9999 : Nat) = 9998 + 1 from rfl, Instr.checkKey]
    simp [u2]
  rw [show (10000 : Nat) = 9999 + 1 from rfl, Instr.checkKey]
  simp only [Sem.run_bind, run_underlying Tryz.underlying97, Result.andThen_ok, ← Array.forIn_toList, List.forIn_cons, List.forIn_nil, Sem.run_pure]
  simp [p1, p2, c1, c2]
theorem askK (k : Key) (hk : Plain w k.1.block) : ∀ (es : List MapEntry) (L : List (Key × Value)) (i : Nat), HoldsK es L → (∀ p ∈ L, Plain w p.1.1.block) →
    (∃ (n : Nat) (v : Value), L[n]? = some (k, v) ∧ lookK k L = some v ∧ (∀ v', ∀ k', lookK k' (L.set n (k, v')) = if k' = k then some v' else lookK k' L) ∧ (Instr.findAsking 97 (keyV k) es i).run Tryz.prog w = .ok (some (i + n, v)) w) ∨ (lookK k L = none ∧ (Instr.findAsking 97 (keyV k) es i).run Tryz.prog w = .ok none w)
  | [], L, i, h, _ => by
    have : L = [] := by
      unfold HoldsK at h
      cases L with
      | nil => rfl
      | cons p r => simp at h
    subst this
    exact Or.inr ⟨rfl, by simp [Instr.findAsking]⟩
  | e :: es, L, i, h, hp => by
    unfold HoldsK at h
    cases L with
    | nil => simp at h
    | cons p r =>
      simp only [List.map_cons, List.cons.injEq, kent, Prod.mk.injEq] at h
      obtain ⟨⟨h1, h2⟩, h3⟩ := h
      have hq := eqKey (w := w) k p.1 hk (hp p (by simp))
      by_cases hpk : p.1 = k
      · refine Or.inl ⟨0, p.2, by rw [List.getElem?_cons_zero, ← hpk], by rw [lookK, if_pos hpk], fun v' k' => ?_, ?_⟩
        · rw [List.set_cons_zero, lookK, lookK]
          by_cases e2 : k' = k
          · rw [if_pos e2.symm, if_pos e2]
          · rw [if_neg (fun e => e2 e.symm), if_neg e2, if_neg (fun e => e2 (by rw [← e, hpk]))]
        · rw [Instr.findAsking, h1]
          rw [decide_eq_true hpk.symm] at hq
          simp [hq, h2]
      · have hq2 : ¬ k = p.1 := fun e => hpk e.symm
        rw [decide_eq_false hq2] at hq
        rcases askK k hk es r (i + 1) h3 (fun q hq => hp q (List.mem_cons_of_mem _ hq)) with ⟨n, d, g0, g1, g2, g3⟩ | ⟨g1, g3⟩
        · refine Or.inl ⟨n + 1, d, by simpa using g0, by rw [lookK, if_neg hpk]; exact g1, fun v' k' => ?_, ?_⟩
          · rw [List.set_cons_succ, lookK, lookK, g2 v' k']
            by_cases e2 : k' = k
            · rw [if_pos e2, if_neg (fun e => hpk (e.trans e2)), if_pos e2]
            · rw [if_neg e2, if_neg e2]
          · rw [Instr.findAsking, h1]
            simp [hq, g3]
            omega
        · refine Or.inr ⟨by rw [lookK, if_neg hpk]; exact g1, ?_⟩
          rw [Instr.findAsking, h1]
          simp [hq, g3]
theorem findK (k : Key) (hk : Plain w k.1.block) (es : List MapEntry) (L : List (Key × Value)) (h : HoldsK es L) (hp : ∀ p ∈ L, Plain w p.1.1.block) :
    (∃ (n : Nat) (v : Value), L[n]? = some (k, v) ∧ lookK k L = some v ∧ (∀ v', ∀ k', lookK k' (L.set n (k, v')) = if k' = k then some v' else lookK k' L) ∧ (Instr.findKey 97 (keyV k) es).run Tryz.prog w = .ok (some (n, v)) w) ∨ (lookK k L = none ∧ (Instr.findKey 97 (keyV k) es).run Tryz.prog w = .ok none w) := by
  have key : (Instr.findKey 97 (keyV k) es).run Tryz.prog w = (Instr.findAsking 97 (keyV k) es 0).run Tryz.prog w := by
    cases es with
    | nil => simp [Instr.findKey, run_underlying Tryz.underlying97, Instr.findNow, Instr.findAsking]
    | cons e r => simp [Instr.findKey, run_underlying Tryz.underlying97, Instr.findNow, Instr.sameNow]
  rw [key]
  rcases askK k hk es L 0 h hp with ⟨n, d, g0, g1, g2, g3⟩ | g
  · exact Or.inl ⟨n, d, g0, g1, g2, by rw [g3, Nat.zero_add]⟩
  · exact Or.inr g
/-- A map of the call's own: these entries, in their order; each key's block is plain. -/
def KMap (w : World) (mb : Nat) (L : List (Key × Value)) : Prop := (∃ es clock, w.heap[mb]? = some (.map es clock) ∧ HoldsK es.toList L) ∧ ∀ p ∈ L, Plain w p.1.1.block
theorem KMap.look {mt et : TypeId} {z : Value} {mb : Nat} {L : List (Key × Value)} (h : KMap w mb L) (ht : Tryz.prog.underlying mt = some (.map 97 et)) (hz : (zeroValue et).run Tryz.prog w = .ok z w) (k : Key) (hk : Plain w k.1.block) :
    (∃ v, lookK k L = some v ∧ (Instr.lookup mt (.map (some mb)) (keyV k) true).run Tryz.prog w = .ok (.tuple #[v, .bool true]) w) ∨ (lookK k L = none ∧ (Instr.lookup mt (.map (some mb)) (keyV k) true).run Tryz.prog w = .ok (.tuple #[z, .bool false]) w) := by
  obtain ⟨⟨es, clock, hb, hh⟩, hp⟩ := h
  rcases findK k hk es.toList L hh hp with ⟨n, d, g0, g1, g2, g3⟩ | ⟨g1, g2⟩
  · refine Or.inl ⟨d, g1, ?_⟩
    simp [Instr.lookup, run_underlying ht, MapKept.run_getObj_map hb, checkK, g3]
  · refine Or.inr ⟨g1, ?_⟩
    simp [Instr.lookup, run_underlying ht, MapKept.run_getObj_map hb, checkK, g2, hz]
theorem lookK_push (k : Key) (v : Value) (k' : Key) : ∀ {L : List (Key × Value)}, lookK k L = none → lookK k' (L ++ [(k, v)]) = if k' = k then some v else lookK k' L
  | [], _ => by
    rw [List.nil_append, lookK, lookK]
    by_cases e : k' = k
    · rw [if_pos e.symm, if_pos e]
    · rw [if_neg (fun h => e h.symm), if_neg e]
      rfl
  | p :: r, h => by
    rw [lookK] at h
    by_cases hp : p.1 = k
    · rw [if_pos hp] at h; cases h
    · rw [if_neg hp] at h
      rw [List.cons_append, lookK, lookK, lookK_push k v k' h]
      by_cases e : k' = k
      · rw [if_neg (fun h => hp (h.trans e)), if_pos e, if_pos e]
      · rw [if_neg e, if_neg e]
theorem KMap.put {mt et : TypeId} {mb : Nat} {L : List (Key × Value)} (h : KMap w mb L) (ht : Tryz.prog.underlying mt = some (.map 97 et)) (k : Key) (hk : Plain w k.1.block) (v : Value) :
    ∃ L' w', (Instr.mapUpdate mt (.map (some mb)) (keyV k) v).run Tryz.prog w = .ok () w' ∧ KMap w' mb L' ∧ w.grownBy w' (some mb) ∧ ∀ k', lookK k' L' = if k' = k then some v else lookK k' L := by
  obtain ⟨⟨es, clock, hb, hh⟩, hp⟩ := h
  have hlt := (Array.getElem?_eq_some_iff.1 hb).1
  have kp : ∀ (o : Obj) {k : Nat}, Plain w k → Plain { w with heap := w.heap.setIfInBounds mb o } k := fun o k hk => by
    obtain ⟨c, ty, e⟩ := hk
    have hne : k ≠ mb := fun e' => by rw [e', hb] at e; cases e
    exact ⟨c, ty, ((grown_put w mb o).block k (Array.getElem?_eq_some_iff.1 e).1 (by simpa using hne)).trans e⟩
  have hat : ∀ o : Obj, ({ w with heap := w.heap.setIfInBounds mb o } : World).heap[mb]? = some o := fun o => by
    show (w.heap.setIfInBounds mb o)[mb]? = some o
    rw [Array.getElem?_setIfInBounds]
    simp [hlt]
  rcases findK k hk es.toList L hh hp with ⟨n, d0, g0, g1, g2, g3⟩ | ⟨g1, g2⟩
  · have hn : n < L.length := (List.getElem?_eq_some_iff.1 g0).1
    have hk0 : ((es[n]?).map (·.key)).getD (keyV k) = keyV k := by
      have := congrArg (fun l => l[n]?) hh
      simp only [List.getElem?_map, g0, Option.map_some, kent] at this
      rw [Array.getElem?_toList] at this
      cases he : es[n]? with
      | none => rfl
      | some e0 =>
        rw [he] at this
        simp at this
        simp [this.1]
    refine ⟨L.set n (k, v), _, ?_, ⟨⟨es.modify n fun e => { e with key := keyV k, val := v }, clock, hat _, ?_⟩, fun p hpm => kp _ ?_⟩, grown_put w mb _, g2 v⟩
    · simp [Instr.mapUpdate, run_underlying ht, MapKept.run_getObj_map hb, checkK, g3, hk0, Instr.keyThatStays, Instr.sameBits, MapKept.run_setObj_map _ hb]
    · unfold HoldsK
      apply List.ext_getElem?
      intro i
      have hi := congrArg (fun l => l[i]?) hh
      simp only [List.getElem?_map] at hi ⊢
      rw [Array.getElem?_toList] at hi ⊢
      rw [Array.getElem?_modify, List.getElem?_set]
      by_cases e : n = i
      · subst e
        rw [if_pos rfl, if_pos rfl, if_pos hn]
        cases he : es[n]? with
        | none => rw [he, g0] at hi; simp at hi
        | some e0 => simp [kent]
      · rw [if_neg e, if_neg e]
        exact hi
    · rcases List.mem_or_eq_of_mem_set hpm with h1 | h1
      · exact hp p h1
      · rw [h1]; exact hk
  · refine ⟨L ++ [(k, v)], _, ?_, ⟨⟨es.push { key := keyV k, val := v, born := clock }, clock + 1, hat _, ?_⟩, fun p hpm => kp _ ?_⟩, grown_put w mb _, fun k' => lookK_push k v k' g1⟩
    · simp [Instr.mapUpdate, run_underlying ht, MapKept.run_getObj_map hb, checkK, g2, MapKept.run_setObj_map _ hb]
    · unfold HoldsK at hh ⊢
      rw [Array.toList_push, List.map_append, List.map_append, hh]
      rfl
    · rcases List.mem_append.1 hpm with h1 | h1
      · exact hp p h1
      · simp at h1; rw [h1]; exact hk
end
end Go.Proofs.YtaojalicnnnkmaaGreatDoor
/- Package body: Count, walked: rows that were met are noted by their places. -/
namespace Go.Proofs.YtaojalicnnnkmaaGreatDoor
open Go.RowKit
set_option linter.unusedVariables false

theorem KMap.below {w w' : World} {mb : Nat} {L : List (Key × Value)} (h : KMap w mb L) (hb : Below w.heap.size w w') : KMap w' mb L := by
  obtain ⟨⟨es, clock, h1, h2⟩, h3⟩ := h
  exact ⟨⟨es, clock, (hb.block mb (Array.getElem?_eq_some_iff.1 h1).1).trans h1, h2⟩, fun p hp => (h3 p hp).below hb⟩
theorem KMap.lt {w : World} {mb : Nat} {L : List (Key × Value)} (h : KMap w mb L) : mb < w.heap.size := by
  obtain ⟨⟨es, clock, h1, h2⟩, h3⟩ := h
  exact (Array.getElem?_eq_some_iff.1 h1).1
theorem grown_bel {w w' : World} {row : Option Nat} (h : Below w.heap.size w w') : w.grownBy w' row := ⟨h.os, h.tape, h.output, h.size, fun k hk _ => h.block k hk⟩
theorem grown_trans {a b c : World} {row : Option Nat} (h : a.grownBy b row) (g : b.grownBy c row) : a.grownBy c row :=
  ⟨g.os.trans h.os, g.tape.trans h.tape, g.output.trans h.output, Nat.le_trans h.size g.size, fun k hk hn => (g.block k (Nat.lt_of_lt_of_le hk h.size) hn).trans (h.block k hk hn)⟩
theorem grown_base {W w w' : World} {mb : Nat} (hmb : W.heap.size ≤ mb) (h : Below W.heap.size W w) (g : w.grownBy w' (some mb)) : Below W.heap.size W w' := h.grown g h.size (fun k e => by cases e; exact hmb)
theorem Box.grown {w w' : World} {b mb : Nat} {vs : List Value} (h : Box w b vs) (g : w.grownBy w' (some mb)) (hne : b ≠ mb) : Box w' b vs :=
  h.block (g.block b h.lt (fun e => by cases e; exact hne rfl)) (Nat.lt_of_lt_of_le h.lt g.size)
/-- There lies this row. -/
def GRowAt (W : World) (l : List Gl) (k : Key) : Prop := l.length = k.2 ∧ ∃ b off, k.1 = ⟨b, off, none⟩ ∧ Plain W b ∧ SkRow W l b off
theorem GRowAt.same {W : World} {l l' : List Gl} {k : Key} (h : GRowAt W l k) (h' : GRowAt W l' k) : cntL l = cntL l' ∧ cutL l = cutL l' := by
  obtain ⟨h1, b, off, h2, _, h3⟩ := h
  obtain ⟨g1, b', off', g2, _, g3⟩ := h'
  rw [h2] at g2
  cases g2
  exact SkRow.same l l' b off (h1.trans g1.symm) h3 g3
/-- What is noted is right, or of a row that is greater. -/
def Notes (R : Key → Value → Prop) (W : World) (L : List (Key × Value)) (n : Nat) : Prop := ∀ k d, lookK k L = some d → R k d ∨ ∃ l', GRowAt W l' k ∧ n < cntL l'
/-- What was noted, or is right. -/
def After (R : Key → Value → Prop) (L L' : List (Key × Value)) : Prop := ∀ k d, lookK k L' = some d → lookK k L = some d ∨ R k d
theorem After.refl (R : Key → Value → Prop) (L : List (Key × Value)) : After R L L := fun k d h => Or.inl h
theorem After.trans {R : Key → Value → Prop} {L L' L2 : List (Key × Value)} (h : After R L L') (g : After R L' L2) : After R L L2 := fun k d hk => (g k d hk).elim (h k d) Or.inr
theorem Notes.after {R : Key → Value → Prop} {W : World} {L L' : List (Key × Value)} {n m : Nat} (h : Notes R W L n) (g : After R L L') (hm : m ≤ n) : Notes R W L' m := fun k d hk => by
  rcases g k d hk with h1 | h1
  · rcases h k d h1 with h2 | ⟨l', h2, h3⟩
    · exact Or.inl h2
    · exact Or.inr ⟨l', h2, by omega⟩
  · exact Or.inl h1
/-- A row is being gone through. -/
theorem Notes.put {R : Key → Value → Prop} {W : World} {L L' : List (Key × Value)} {n m : Nat} {k : Key} {v : Value} {l : List Gl} (h : Notes R W L n) (hp : ∀ k', lookK k' L' = if k' = k then some v else lookK k' L) (hl : GRowAt W l k) (hc : cntL l = n) (hm : m < n) : Notes R W L' m := fun k' d hk => by
  rw [hp] at hk
  by_cases e : k' = k
  · subst e
    exact Or.inr ⟨l, hl, by omega⟩
  · rw [if_neg e] at hk
    rcases h k' d hk with h2 | ⟨l', h2, h3⟩
    · exact Or.inl h2
    · exact Or.inr ⟨l', h2, by omega⟩
/-- It has been gone through. -/
theorem After.done {R : Key → Value → Prop} {L L1 L2 L3 : List (Key × Value)} {k : Key} {v v' : Value} (h1 : ∀ k', lookK k' L1 = if k' = k then some v else lookK k' L) (h2 : After R L1 L2) (h3 : ∀ k', lookK k' L3 = if k' = k then some v' else lookK k' L2) (hr : R k v') : After R L L3 := fun k' d hk => by
  rw [h3] at hk
  by_cases e : k' = k
  · rw [if_pos e] at hk
    injection hk with hk
    rw [e, ← hk]
    exact Or.inr hr
  · rw [if_neg e] at hk
    rcases h2 k' d hk with g | g
    · rw [h1, if_neg e] at g
      exact Or.inl g
    · exact Or.inr g
def RightC (W : World) (k : Key) (d : Value) : Prop := ∃ l', GRowAt W l' k ∧ d = .int .i64 (cntL l' : Nat)
def RightU (W : World) (k : Key) (d : Value) : Prop := d = .agg #[] ∧ ∃ l', GRowAt W l' k ∧ cutL l' = false
def AllU (L : List (Key × Value)) : Prop := ∀ k d, lookK k L = some d → d = .agg #[]
theorem AllU.after {W : World} {L L' : List (Key × Value)} (h : AllU L) (g : After (RightU W) L L') : AllU L' := fun k d hk => (g k d hk).elim (h k d) (·.1)
theorem AllU.put {L L' : List (Key × Value)} {k : Key} (h : AllU L) (hp : ∀ k', lookK k' L' = if k' = k then some (.agg #[]) else lookK k' L) : AllU L' := fun k' d hk => by
  rw [hp] at hk
  by_cases e : k' = k
  · rw [if_pos e] at hk; injection hk with hk; exact hk.symm
  · rw [if_neg e] at hk; exact h k' d hk
theorem GoalsK.at {W : World} {l : List Gl} {a : Option Addr} {m c : Nat} (hs : SkV W l (.slice a m c)) (hm : 0 < m) : ∃ b off, a = some ⟨b, off, none⟩ ∧ GRowAt W l (⟨b, off, none⟩, m) := by
  obtain ⟨a', c', e, h⟩ := hs
  injection e with e1 e2 e3
  subst e1
  rcases h with rfl | ⟨b, off, rfl, h1, h2⟩
  · simp at e2; omega
  · exact ⟨b, off, rfl, e2.symm, b, off, rfl, h1, h2⟩
theorem zeroIB (w : World) : (zeroValue 3).run Tryz.prog w = .ok (.int .i64 0) w := by kernel_rfl
/-- The rows within, as they lie. -/
theorem SkV.row {W : World} {l : List Gl} {a : Option Addr} {m c : Nat} (hs : SkV W l (.slice a m c)) {i : Nat} {g : Gl} (hg : l[i]? = some g) {b off : Nat} (ha : a = some ⟨b, off, none⟩) {v : Value} (hc : W.cell? ⟨b, off + i * 6 + 5, none⟩ = some v) : SkW W g.l v := by
  obtain ⟨a', c', e, h⟩ := hs
  injection e with e1 e2 e3
  subst e1
  rcases h with rfl | ⟨b', off', e4, h1, h2⟩
  · simp at hg
  · rw [ha] at e4
    cases e4
    obtain ⟨v', g1, g2, g3⟩ := h2.get i g hg
    rw [hc] at g2
    cases g2
    exact g3
theorem SkW.row {W : World} {ls : List (List Gl)} {a : Option Addr} {m c : Nat} (hs : SkW W ls (.slice a m c)) {i : Nat} {l : List Gl} (hg : ls[i]? = some l) {b off : Nat} (ha : a = some ⟨b, off, none⟩) {v : Value} (hc : W.cell? ⟨b, off + i, none⟩ = some v) : SkV W l v := by
  obtain ⟨a', c', e, h⟩ := hs
  injection e with e1 e2 e3
  subst e1
  rcases h with rfl | ⟨b', off', e4, h2⟩
  · simp at hg
  · rw [ha] at e4
    cases e4
    obtain ⟨v', g2, g3⟩ := h2.get i l hg
    rw [hc] at g2
    cases g2
    exact g3
def CrP (W w : World) (mb : Nat) (L : List (Key × Value)) (r : Value) (R : Key → Value → Prop) (e : Ending) (w' : World) : Prop := e = .returned r ∧ w.grownBy w' (some mb) ∧ ∃ L', KMap w' mb L' ∧ After R L L'
end Go.Proofs.YtaojalicnnnkmaaGreatDoor
/- Package body: counted.row, walked. -/
namespace Go.Proofs.YtaojalicnnnkmaaGreatDoor
open Go.RowKit
set_option linter.unusedVariables false

set_option maxHeartbeats 8000000 in
set_option maxRecDepth 100000 in
theorem crow_at {W : World} {mb : Nat} (hmb : W.heap.size ≤ mb) : ∀ (M : Nat) (l : List Gl), cntL l ≤ M → M ≤ 1000000 → ∀ (v : Value) (w : World) (L : List (Key × Value)), GoalsV W l v → SkV W l v → Below W.heap.size W w → KMap w mb L → Notes (RightC W) W L (cntL l) →
    Calls Tryz.prog 30 #[.map (some mb), v] w (CrP W w mb L (.int .i64 (cntL l : Nat)) (RightC W))
  | M, l, h, hM, v, w, L, hv, hs, hb, hk, hn => by
    obtain ⟨a, c, rfl, h1, h2, h3⟩ := hv.len
    unfold maxLen at h2
    have IH := Lib.hid (fun (r : List Gl) (hr : cntL r < M) => crow_at hmb (M - 1) r (by omega) (by omega))
    have HV := Lib.hid (And.intro hv hs)
    obtain ⟨m, hm⟩ : ∃ m, l.length = m := ⟨_, rfl⟩
    have HM := Lib.hid hm
    have hlen := cnt_len l
    obtain ⟨T, hT⟩ : ∃ T, cntL l = T := ⟨_, rfl⟩
    have HT := Lib.hid (And.intro hT (cnt_inn l))
    have HH := Lib.hid (show T ≤ M by omega)
    have HB := Lib.hid hb
    have HK := Lib.hid hk
    have HN := Lib.hid hn
    rw [hm] at h1 h3 HV ⊢
    rw [hT] at hlen HN ⊢
    have hmT : m ≤ T := by omega
    have hTM : T ≤ 1000000 := by omega
    by_cases h0 : m = 0
    · subst h0
      have : T = 0 := by
        obtain rfl : l = [] := List.length_eq_zero_iff.1 HM.out
        exact HT.out.1.symm
      subst this
      clear hv hs hb hk hn hm hT h hlen
      go_enter Tryz.func30, Tryz.ntmps30
      go_wp2
      go_ret
      exact ⟨rfl, grown_bel (Below.refl _ _), L, HK.out, After.refl _ _⟩
    obtain ⟨b, off, rfl, hrow⟩ := GoalsK.at HV.out.2 (by omega)
    have h0' : ((m : Int) == 0) = false := by apply beq_false_of_ne; omega
    have h0n : 0 < m := by omega
    obtain ⟨w1, e1, B1, z1, X1⟩ := box_new w #[.pointer (some ⟨b, off, none⟩), .int .i64 m] 97
    have HE := Lib.hid e1
    have HB1 := Lib.hid B1
    have HX1 := Lib.hid X1
    have HR := Lib.hid hrow
    have hpl : Plain w1 b := by
      obtain ⟨_, b', off', e, hp, _⟩ := hrow
      cases e
      exact (hp.below hb).below B1
    have look := (HK.out.below B1).look (mt := 70) Tryz.underlying70 (zeroIB w1) (⟨b, off, none⟩, m) hpl
    have HPL := Lib.hid hpl
    have x0 := X1.cells 0 _ rfl
    have x1 := X1.cells 1 _ rfl
    clear hv hs hb hk hn hm hT h hlen e1 B1 z1 X1 hrow hpl
    rcases look with ⟨d, hd, hrun⟩ | ⟨hd, hrun⟩
    · have hdt : d = .int .i64 (T : Nat) := by
        rcases HN.out _ _ hd with ⟨l', g1, g2⟩ | ⟨l', g1, g2⟩
        · rw [g2, (g1.same HR.out).1, HT.out.1]
        · have := (g1.same HR.out).1
          have := HT.out.1
          omega
      subst hdt
      clear hd
      go_enter Tryz.func30, Tryz.ntmps30
      go_wp2_with (at_lookup; (try rw [HE.out]); refine wpList_look_run rfl _ _ _ rfl rfl rfl hrun ?_)
      go_ret
      exact ⟨rfl, grown_bel HB1.out, L, HK.out.below HB1.out, After.refl _ _⟩
    · obtain ⟨L1, w2, hrun1, hk1, hg1, hl1⟩ := (HK.out.below HB1.out).put (mt := 70) Tryz.underlying70 (⟨b, off, none⟩, m) HPL.out (.int .i64 0)
      have HL1 := Lib.hid hl1
      have HK1 := Lib.hid (And.intro hk1 hg1)
      have HNE := Lib.hid (show w.heap.size ≠ mb by have := HK.out.lt; omega)
      have HBW1 := Lib.hid (Ext.trans' HB.out HB1.out)
      clear hl1 hk1 hg1 hd
      have HNN := Lib.hid (fun (r : List Gl) (L3 : List (Key × Value)) (ha : After (RightC W) L1 L3) (hr : cntL r < T) => (Notes.put HN.out HL1.out HR.out HT.out.1 hr).after ha (Nat.le_refl _))
      clear HN
      go_enter Tryz.func30, Tryz.ntmps30
      go_wp2_with (first | (at_lookup; (try rw [HE.out]); refine wpList_look_run rfl _ _ _ rfl rfl rfl hrun ?_) | (at_mapUpdate; refine wpList_put_run rfl _ _ _ _ rfl rfl rfl rfl hrun1 ?_) | fail)
      go_loopw [8, 35] (fun n i wr => ∃ (j z : Nat) (L2 : List (Key × Value)), j ≤ m ∧ i = .int .i64 j ∧ n = .int .i64 z ∧ Hid (z + innL (l.drop j) = T) ∧ Hid (w1.grownBy wr (some mb)) ∧ Hid (KMap wr mb L2 ∧ After (RightC W) L1 L2)) (fun _ i _ => m - (intOf i).toNat)
      case atStart => exact ⟨0, m, L1, Nat.zero_le _, rfl, rfl, Lib.hid (by rw [List.drop_zero, ← HT.out.1, HT.out.2, HM.out]), Lib.hid HK1.out.2, Lib.hid ⟨HK1.out.1, After.refl _ _⟩⟩
      case round =>
        obtain ⟨j, z, L2, hj, rfl, rfl, HZ, HG, HL2⟩ := hrel
        have HBR := Lib.hid (grown_base hmb HBW1.out HG.out)
        by_cases hjm : j < m
        · obtain ⟨g, hg⟩ : ∃ g, l[j]? = some g := ⟨_, List.getElem?_eq_getElem (by rw [HM.out]; exact hjm)⟩
          obtain ⟨b', off', kt, nt, st, at_, mt, ct, ar, mr, cr, e, _, d0, d1, d2, d3, d4, d5, _, _, hrows⟩ := HV.out.1.get hg
          have hsk := HV.out.2.row hg rfl (by cases e; exact d5)
          cases e
          have hgl : mr = g.l.length := by obtain ⟨_, _, e, _⟩ := hrows.len; cases e; rfl
          have hmrb : mr ≤ 9223372036854775807 := by obtain ⟨_, _, e, h5, h6, _⟩ := hrows.len; cases e; unfold maxLen at h6; omega
          have HRW := Lib.hid (And.intro hrows hsk)
          have HGG := Lib.hid (And.intro hg hgl)
          have hzz := HZ.out
          rw [inn_drop hg] at hzz
          have HZ2 := Lib.hid hzz
          have hjm2 : (j : Int) < m := by omega
          obtain ⟨kg, hkg⟩ : ∃ k, g.kind = k := ⟨_, rfl⟩
          rw [hkg] at d0
          replace d0 := cell_later HBR.out d0
          replace d1 := cell_later HBR.out d1
          replace d2 := cell_later HBR.out d2
          replace d3 := cell_later HBR.out d3
          replace d4 := cell_later HBR.out d4
          replace d5 := cell_later HBR.out d5
          obtain ⟨w3, e3, B3, z3, X3⟩ := box_new wr #[.int .i64 kg, .int .i64 kt, .int .i64 nt, .string st, .slice at_ mt ct, .slice ar mr cr] 35
          have HE3 := Lib.hid e3
          have HB3 := Lib.hid B3
          clear hrows hg hgl hzz hkg hsk e3 B3 z3 X3 HZ
          go_wp2_with fail
          (try rw [HE3.out])
          go_loopw [8, 42] (fun n i wx => ∃ (q y : Nat) (L3 : List (Key × Value)), q ≤ mr ∧ i = .int .i64 q ∧ n = .int .i64 y ∧ Hid (y + cntR (g.l.drop q) + innL (l.drop (j + 1)) = T) ∧ Hid (w3.grownBy wx (some mb)) ∧ Hid (KMap wx mb L3 ∧ After (RightC W) L1 L3)) (fun _ i _ => mr - (intOf i).toNat)
          case atStart => exact ⟨0, z, L2, Nat.zero_le _, rfl, rfl, Lib.hid (by rw [List.drop_zero]; have := HZ2.out; omega), Lib.hid (grown_bel (Below.refl _ _)), Lib.hid ⟨HL2.out.1.below HB3.out, HL2.out.2⟩⟩
          case round =>
            obtain ⟨q, y, L3, hq, rfl, rfl, HY, HGX, HL3⟩ := hrel
            have HBX := Lib.hid (grown_base hmb (Ext.trans' HBR.out HB3.out) HGX.out)
            clear d0 d1 d2 d3 d4 d5
            by_cases hqm : q < mr
            · obtain ⟨r, hr⟩ : ∃ r, g.l[q]? = some r := ⟨_, List.getElem?_eq_getElem (by rw [← HGG.out.2]; exact hqm)⟩
              obtain ⟨b2, off2, a2, c2, e, _, f0, hgv⟩ := HRW.out.1.get hr
              have hsv := HRW.out.2.row hr e f0
              cases e
              have hlt := cnt_row (List.mem_of_getElem? HGG.out.1) (List.mem_of_getElem? hr)
              have hrT : cntL r < T := by have := HT.out.1; omega
              have C := IH.out r (by have := HH.out; omega) _ wr L3 hgv hsv HBX.out HL3.out.1 (HNN.out r L3 HL3.out.2 hrT)
              have hyy := HY.out
              rw [cntR_drop hr] at hyy
              obtain ⟨x, hx⟩ : ∃ x, cntL r = x := ⟨_, rfl⟩
              rw [hx] at C hyy
              obtain ⟨yx, hyx⟩ : ∃ s : Nat, y + x = s := ⟨_, rfl⟩
              have hsum : (y : Int) + (x : Int) = (yx : Int) := by omega
              have hyT : yx + cntR (g.l.drop (q + 1)) + innL (l.drop (j + 1)) = T := by omega
              have hyT2 : yx ≤ T := by omega
              have hwy : IntKind.i64.wrap (yx : Int) = (yx : Int) := by rw [IntKind.wrap_i64]; omega
              have HY2 := Lib.hid hyT
              obtain ⟨lr, hlr⟩ : ∃ n, r.length = n := ⟨_, rfl⟩
              rw [hlr] at C f0
              replace f0 := cell_later HBX.out f0
              clear hyT
              have hqm2 : (q : Int) < mr := by omega
              clear hr hgv hsv hlt hx hyy hyx HY hrT hlr
              (go_wp2_with fail; go_fit (C); rintro e w' ⟨rfl, hg', L4, hk4, ha4⟩)
              have HG4 := Lib.hid (grown_trans HGX.out hg')
              have HL4 := Lib.hid (And.intro hk4 (HL3.out.2.trans ha4))
              clear C hg' hk4 ha4 f0
              go_wp2
              go_roundw
              case rel => exact ⟨q + 1, yx, L4, by omega, by go_num, by first | rfl | go_num, HY2, HG4, HL4⟩
              case measure => simp [intOf]; omega
            · have hqe : q = mr := by omega
              subst hqe
              have HY2 := Lib.hid (show y + innL (l.drop (j + 1)) = T by have := HY.out; rw [List.drop_eq_nil_of_le (by rw [← HGG.out.2]; exact Nat.le_refl _), cntR] at this; omega)
              have HG4 := Lib.hid (grown_trans HG.out (grown_trans (grown_bel HB3.out) HGX.out))
              go_wp2
              go_roundw
              case rel => exact ⟨j + 1, y, L3, by omega, by go_num, rfl, HY2, HG4, HL3⟩
              case measure => simp [intOf]; omega
        · have hje : j = m := by omega
          subst hje
          have hz : z = T := by have := HZ.out; rw [List.drop_eq_nil_of_le (by rw [HM.out]; exact Nat.le_refl _), innL] at this; omega
          subst hz
          have hbx := HX1.out.grown HG.out HNE.out
          have y0 := hbx.cells 0 _ rfl
          have y1 := hbx.cells 1 _ rfl
          obtain ⟨L5, w5, hrun5, hk5, hg5, hl5⟩ := HL2.out.1.put (mt := 70) Tryz.underlying70 (⟨b, off, none⟩, j) (by
            obtain ⟨_, b', off', e, hp, _⟩ := HR.out
            cases e
            exact hp.below HBR.out) (.int .i64 (z : Nat))
          have HEND := Lib.hid (show CrP W w mb L (.int .i64 (z : Nat)) (RightC W) (.returned (.int .i64 (z : Nat))) w5 from ⟨rfl, grown_trans (grown_bel HB1.out) (grown_trans HG.out hg5), L5, hk5, After.done HL1.out HL2.out.2 hl5 ⟨l, HR.out, by rw [HT.out.1]⟩⟩)
          clear hk5 hg5 hl5 hbx
          go_wp2_with (at_mapUpdate; refine wpList_put_run rfl _ _ _ _ rfl rfl rfl rfl hrun5 ?_)
          go_ret
          exact HEND.out
set_option maxHeartbeats 4000000 in
/-- Count: of no more than a million goals. -/
theorem Count_at (l : List Gl) (hl : cntL l ≤ 1000000) (w : World) (v : Value) (hv : GoalsK w l v) : Calls Tryz.prog 10 #[v] w fun e w' => e = .returned (.int .i64 (cntL l : Nat)) ∧ Below w.heap.size w w' := by
  obtain ⟨a, c, rfl, -, -, -⟩ := hv.1.len
  have hb : Below w.heap.size w (w.alloc (.map #[] 0)) := bel1' _ _
  have C := crow_at (W := w) (mb := w.heap.size) (Nat.le_refl _) (cntL l) l (Nat.le_refl _) hl _ (w.alloc (.map #[] 0)) [] hv.1 hv.2 hb
    ⟨⟨#[], 0, heap_alloc_new w _, rfl⟩, fun p hp => by simp at hp⟩ (fun k d h => by cases h)
  obtain ⟨T, hT⟩ : ∃ T, cntL l = T := ⟨_, rfl⟩
  obtain ⟨m, hm⟩ : ∃ m, l.length = m := ⟨_, rfl⟩
  rw [hT] at C ⊢
  rw [hm] at C ⊢
  have hmm := @run_makeMap Tryz.prog
  have HB := Lib.hid hb
  clear hv hl hT hm hb
  go_enter Tryz.func10, Tryz.ntmps10
  (go_wp2_with fail; go_fit (C); rintro e w1 ⟨rfl, g1, _⟩)
  have B1 := Lib.hid (grown_base (Nat.le_refl _) HB.out g1)
  clear g1 C
  go_wp2
  go_ret
  exact ⟨rfl, B1.out⟩
end Go.Proofs.YtaojalicnnnkmaaGreatDoor
