import Derived.Test.YtaojalicnnnkmaaGreatDoorHgran
import Derived.Test.YtaojalicnnnkmaaGreatDoorHgras
import Derived.Test.YtaojalicnnnkmaaGreatDoorHgrat
import Derived.Test.YtaojalicnnnkmaaGreatDoorHgrar
import Derived.Test.YtaojalicnnnkmaaGreatDoorHgraj
set_option linter.unusedVariables false
set_option linter.unusedSimpArgs false
/- BodySays, walked, over awake's contract. -/
namespace Go.Proofs.YtaojalicnnnkmaaGreatDoor
open Go.RowKit
set_option linter.unusedVariables false

def ClP (w : World) (t : Tm) (e : Ending) (w' : World) : Prop := ∃ h r, e = .returned (.tuple #[h, r, .int .i64 (clauseE t).2.2]) ∧ TmV w' (clauseE t).1 h ∧ TmV w' (clauseE t).2.1 r ∧ Below w.heap.size w w'
theorem old_noM (w : World) : Old noM w := fun _ _ => rfl
theorem ofE_cnt (t : Tm) : cntL (ofE t).1 ≤ 4000 := by
  cases hg : goodT t
  · have : ofE t = ([], 1) := by unfold ofE; rw [hg]; rfl
    rw [this]; simp [cntL]
  · rw [(ofE_erO hg).2]
    cases ho : ofB t with
    | none => simp [cntL]
    | some l => have h1 := of_cnt _ t (Nat.le_refl _) l ho; have h2 := (good_parts hg).1; show cntL l ≤ 4000; omega
set_option maxHeartbeats 16000000 in
set_option maxRecDepth 100000 in
theorem says14_core {W : World} (PW : ∀ w, Below W.heap.size W w → Calls Tryz.prog 7 #[] w fun e w' => e = .returned (.bool true) ∧ Below w.heap.size w w')
    (PO : ∀ t w v, TmV w t v → Calls Tryz.prog 8 #[v] w (OfKE w t)) (PC : ∀ t w v, TmV w t v → Calls Tryz.prog 11 #[v] w (ClP w t))
    (PN : ∀ l w v, cntL l ≤ 1000000 → GoalsK w l v → Calls Tryz.prog 10 #[v] w fun e w' => e = .returned (.int .i64 (cntL l : Nat)) ∧ Below w.heap.size w w')
    (PU : ∀ l w v, GoalsK w l v → Calls Tryz.prog 14 #[v] w fun e w' => e = .returned (.bool (cutL l)) ∧ Below w.heap.size w w')
    {v : Value} {t : Tm} (hv : TmV W t v) : Calls Tryz.prog 4 #[v] W fun e w' => IsBool W true e w' := by
  obtain ⟨k, n, s, a, m, c, rfl, -, -, -, -⟩ := four_of hv
  obtain ⟨w1, e1, B1, z1, X1⟩ := box_new W #[.int .i64 k, .int .i64 n, .string s, .slice a m c] 31
  have HE := Lib.hid e1
  have H1 := Lib.hid B1
  have i70 : I64 70 := by unfold I64; omega
  have HT := Lib.hid (fun (w : World) (hb : Below W.heap.size W w) => TmV.ext hb _ _ hv)
  have HC := Lib.hid (fun (wx : World) (hb : Below w1.heap.size w1 wx) => (show wx.cell? ⟨W.heap.size, 0, none⟩ = some (.int .i64 k) ∧ wx.cell? ⟨W.heap.size, 1, none⟩ = some (.int .i64 n) ∧ wx.cell? ⟨W.heap.size, 2, none⟩ = some (.string s) ∧ wx.cell? ⟨W.heap.size, 3, none⟩ = some (.slice a m c) from by
    obtain ⟨y0, y1, y2, y3, _⟩ := (X1.ext hb).four
    exact ⟨y0, y1, y2, y3⟩))
  have HP := Lib.hid (And.intro PO (And.intro PC (And.intro PN PU)))
  have DX := Lib.hid (fun (w : World) (hb : Below W.heap.size W w) => deep14_at _ t (Nat.le_refl _) 70 i70 w _ (HT.out w hb))
  have C := PW w1 B1
  clear hv e1 B1 z1 X1 PW PO PC PN PU i70
  go_enter Tryz.func4, Tryz.ntmps4
  go_upto_region 1 with fail
  (try rw [HE.out])
  (go_wp2_with fail; go_fit (C); rintro e w2 ⟨rfl, b2⟩)
  have B2 := Lib.hid b2
  obtain ⟨c0, c1, c2, c3⟩ := HC.out _ b2
  clear b2 C
  have C := DX.out w2 (Ext.trans' H1.out B2.out)
  cases hdx : deepT t 70
  rotate_left
  · rw [hdx] at C
    clear hdx
    (go_wp2_with fail; go_fit (C); rintro e w3 ⟨rfl, b3⟩)
    have H3 := Lib.hid (Ext.trans' H1.out (Ext.trans' B2.out b3))
    clear b3 C
    go_wp2
    go_ret
    exact ⟨rfl, H3.out⟩
  rw [hdx] at C
  clear hdx
  (go_wp2_with fail; go_fit (C); rintro e w3 ⟨rfl, b3⟩)
  have B3 := Lib.hid (Ext.trans' B2.out b3)
  clear b3 C c0 c1 c2 c3 B2
  obtain ⟨c0, c1, c2, c3⟩ := HC.out _ B3.out
  have C := own14_at t noM w3 _ (old_noM _) (HT.out w3 (Ext.trans' H1.out B3.out))
  (go_wp2_with fail; go_fit (C); rintro e w4 ⟨r, rfl, ht, b4⟩)
  obtain ⟨k5, n5, s5, a5, m5, c5, rfl, -, -, -, -⟩ := four_of ht
  obtain ⟨w5, e5, b5, zz, x5⟩ := box_new w4 #[.int .i64 k5, .int .i64 n5, .string s5, .slice a5 m5 c5] 46
  have B5 := Lib.hid (Ext.trans' B3.out (Ext.trans' b4 b5))
  have HX5 := Lib.hid x5
  have HT5 := Lib.hid (TmV.ext b5 _ _ (TmV.stay (Stays.unhide _ _) _ _ ht))
  have HE5 := Lib.hid e5
  clear ht b4 b5 zz x5 e5 C c0 c1 c2 c3 B3
  obtain ⟨c0, c1, c2, c3⟩ := HC.out _ B5.out
  go_upto_region 6 with fail
  (try rw [HE5.out])
  have C := HP.out.1 t w5 _ (HT.out w5 (Ext.trans' H1.out B5.out))
  unfold OfKE at C
  have hln := ofE_cnt t
  obtain ⟨l, er, hle⟩ : ∃ l er, ofE t = (l, er) := ⟨_, _, rfl⟩
  rw [hle] at C hln
  have HLN := Lib.hid (show cntL l ≤ 4000 from hln)
  have HLE := Lib.hid hle
  clear hle hln
  obtain ⟨y0, y1, y2, y3, _⟩ := HX5.out.four
  (go_wp2_with fail; go_fit (C); rintro e w6 ⟨g6, rfl, h6, b6⟩)
  have B6 := Lib.hid (Ext.trans' B5.out b6)
  have HG6 := Lib.hid h6
  have HB6 := Lib.hid b6
  clear C h6 b6 c0 c1 c2 c3 y0 y1 y2 y3
  obtain ⟨y0, y1, y2, y3, _⟩ := (HX5.out.ext HB6.out).four
  obtain ⟨c0, c1, c2, c3⟩ := HC.out _ B6.out
  have C := rOf_at t w6 _ (TmV.ext HB6.out _ _ HT5.out)
  unfold OfEP at C
  rw [HLE.out] at C
  (go_wp2_with fail; go_fit (C); rintro e w7 ⟨g7, rfl, h7, b7⟩)
  have B7 := Lib.hid (Ext.trans' B6.out b7)
  have HG7 := Lib.hid (And.intro (GoalsK.keep HG6.out (keeps_bare b7)) h7)
  have HB7 := Lib.hid (Ext.trans' HB6.out b7)
  clear C h7 b7 c0 c1 c2 c3 y0 y1 y2 y3 HG6
  obtain ⟨y0, y1, y2, y3, _⟩ := (HX5.out.ext HB7.out).four
  obtain ⟨c0, c1, c2, c3⟩ := HC.out _ B7.out
  have C := HP.out.2.1 t w7 _ (HT.out w7 (Ext.trans' H1.out B7.out))
  unfold ClP at C
  obtain ⟨T, Z, ec, hcl⟩ : ∃ T Z ec, clauseE t = (T, Z, ec) := ⟨_, _, _, rfl⟩
  rw [hcl] at C
  have HCL := Lib.hid hcl
  clear hcl
  (go_wp2_with fail; go_fit (C); rintro e w8 ⟨v8, u8, rfl, h8, q8, b8⟩)
  have HHQ := Lib.hid (And.intro h8 q8)
  obtain ⟨k1, n1, s1, a1, m1, c1', rfl, -, -, -, -⟩ := four_of h8
  obtain ⟨k2, n2, s2, a2, m2, c2', rfl, -, -, -, -⟩ := four_of q8
  obtain ⟨w9, e9, b9, z9, x9⟩ := box_new w8 #[.int .i64 k1, .int .i64 n1, .string s1, .slice a1 m1 c1'] 31
  obtain ⟨w10, e10, b10, z10, x10⟩ := box_new w9 #[.int .i64 k2, .int .i64 n2, .string s2, .slice a2 m2 c2'] 31
  have HE10 := Lib.hid (And.intro e9 e10)
  have hb10 := Ext.trans' b8 (Ext.trans' b9 b10)
  have B10 := Lib.hid (Ext.trans' B7.out hb10)
  have HB10 := Lib.hid (Ext.trans' HB7.out hb10)
  rw [z9] at x10
  have HX10 := Lib.hid (And.intro (x9.ext b10) x10)
  have HH10 := Lib.hid (And.intro (TmV.ext (Ext.trans' b9 b10) _ _ HHQ.out.1) (TmV.ext (Ext.trans' b9 b10) _ _ HHQ.out.2))
  have HG10 := Lib.hid (And.intro (GoalsK.keep HG7.out.1 (keeps_bare hb10)) (GoalsV.stay HG7.out.2 (stays_bl hb10)))
  clear C h8 q8 b8 c0 c1 c2 c3 y0 y1 y2 y3 e9 e10 b9 b10 z9 z10 x9 x10 hb10 HHQ HG7
  go_upto_region 9 with fail
  (try rw [HE10.out.1, HE10.out.2])
  obtain ⟨y0, y1, y2, y3, _⟩ := (HX5.out.ext HB10.out).four
  have C := rClause_at t w10 _ (TmV.ext HB10.out _ _ HT5.out)
  rw [HCL.out] at C
  (go_wp2_with fail; go_fit (C); rintro e w11 ⟨v11, u11, rfl, h11, q11, b11⟩)
  have HHQ := Lib.hid (And.intro h11 q11)
  obtain ⟨k3, n3, s3, a3, m3, c3', rfl, -, -, -, -⟩ := four_of h11
  obtain ⟨k4, n4, s4, a4, m4, c4', rfl, -, -, -, -⟩ := four_of q11
  obtain ⟨w12, e12, b12, z12, x12⟩ := box_new w11 #[.int .i64 k3, .int .i64 n3, .string s3, .slice a3 m3 c3'] 46
  obtain ⟨w13, e13, b13, z13, x13⟩ := box_new w12 #[.int .i64 k4, .int .i64 n4, .string s4, .slice a4 m4 c4'] 46
  have HE13 := Lib.hid (And.intro e12 e13)
  have hb13 := Ext.trans' b11 (Ext.trans' b12 b13)
  have H13 := Lib.hid (Ext.trans' H1.out (Ext.trans' B10.out hb13))
  rw [z12] at x13
  obtain ⟨p0, p1, p2, p3, _⟩ := (HX10.out.1.ext hb13).four
  obtain ⟨q0, q1, q2, q3, _⟩ := (HX10.out.2.ext hb13).four
  obtain ⟨r0, r1, r2, r3, _⟩ := (x12.ext b13).four
  obtain ⟨d0, d1, d2, d3, _⟩ := x13.four
  have HH13 := Lib.hid (And.intro (TmV.ext hb13 _ _ HH10.out.1) (And.intro (TmV.ext hb13 _ _ HH10.out.2) (And.intro (TmV.ext (Ext.trans' b12 b13) _ _ HHQ.out.1) (TmV.ext (Ext.trans' b12 b13) _ _ HHQ.out.2))))
  have HG13 := Lib.hid (And.intro (GoalsK.keep HG10.out.1 (keeps_bare hb13)) (GoalsV.stay HG10.out.2 (stays_bl hb13)))
  clear C h11 q11 b11 y0 y1 y2 y3 e12 e13 b12 b13 z12 z13 x12 x13 hb13 HHQ HG10 HH10 HX10
  go_upto_region 10 with fail
  (try rw [HE13.out.1, HE13.out.2])
  have HA := Lib.hid (fun (wq : World) (hq : Below w13.heap.size w13 wq) => goals_at l noM wq _ (old_noM _) (GoalsK.keep HG13.out.1 (keeps_bare hq)).1)
  have HO1 := Lib.hid (fun (wq : World) (hq : Below w13.heap.size w13 wq) => own14_at T noM wq _ (old_noM _) (TmV.ext hq _ _ HH13.out.1))
  have HO2 := Lib.hid (fun (wq : World) (hq : Below w13.heap.size w13 wq) => own14_at Z noM wq _ (old_noM _) (TmV.ext hq _ _ HH13.out.2.1))
  have HN1 := Lib.hid (fun (wq : World) (hq : Below w13.heap.size w13 wq) => HP.out.2.2.1 l wq _ (by have := HLN.out; omega) (GoalsK.keep HG13.out.1 (keeps_bare hq)))
  have HN2 := Lib.hid (fun (wq : World) (hq : Below w13.heap.size w13 wq) => rCount_at 4000 l HLN.out (by omega) wq _ (GoalsV.stay HG13.out.2 (stays_bl hq)))
  have HU1 := Lib.hid (fun (wq : World) (hq : Below w13.heap.size w13 wq) => HP.out.2.2.2 l wq _ (GoalsK.keep HG13.out.1 (keeps_bare hq)))
  have HU2 := Lib.hid (fun (wq : World) (hq : Below w13.heap.size w13 wq) => rCuts_at 4000 l HLN.out wq _ (GoalsV.stay HG13.out.2 (stays_bl hq)))
  refine wp_region_held_drew (S := (fun w' => (w'.cell? ⟨w8.heap.size, 0, none⟩ = some (.int .i64 k1) ∧ w'.cell? ⟨w8.heap.size, 1, none⟩ = some (.int .i64 n1) ∧ w'.cell? ⟨w8.heap.size, 2, none⟩ = some (.string s1) ∧ w'.cell? ⟨w8.heap.size, 3, none⟩ = some (.slice a1 m1 c1') ∧ w'.cell? ⟨w8.heap.size + 1, 0, none⟩ = some (.int .i64 k2) ∧ w'.cell? ⟨w8.heap.size + 1, 1, none⟩ = some (.int .i64 n2) ∧ w'.cell? ⟨w8.heap.size + 1, 2, none⟩ = some (.string s2) ∧ w'.cell? ⟨w8.heap.size + 1, 3, none⟩ = some (.slice a2 m2 c2') ∧ w'.cell? ⟨w11.heap.size, 0, none⟩ = some (.int .i64 k3) ∧ w'.cell? ⟨w11.heap.size, 1, none⟩ = some (.int .i64 n3) ∧ w'.cell? ⟨w11.heap.size, 2, none⟩ = some (.string s3) ∧ w'.cell? ⟨w11.heap.size, 3, none⟩ = some (.slice a3 m3 c3') ∧ w'.cell? ⟨w11.heap.size + 1, 0, none⟩ = some (.int .i64 k4) ∧ w'.cell? ⟨w11.heap.size + 1, 1, none⟩ = some (.int .i64 n4) ∧ w'.cell? ⟨w11.heap.size + 1, 2, none⟩ = some (.string s4) ∧ w'.cell? ⟨w11.heap.size + 1, 3, none⟩ = some (.slice a4 m4 c4')) ∧ Below w13.heap.size w13 w')) (by kernel_rfl) (⟨⟨p0, p1, p2, p3, q0, q1, q2, q3, r0, r1, r2, r3, d0, d1, d2, d3⟩, (Below.refl _ _).drew⟩) (fun hHeld => ?_)
  first | (refine held_t (i := 0) hHeld ?_; apply Exists.intro; refine ⟨fun wq hq => ?_, ?_⟩; (focus ((try dsimp only at hq); go_simp; (first | done | with_reducible rfl | fail)))) | refine held_s (i := 0) hHeld ?_ | fail
  first | (refine held_t (i := 1) hHeld ?_; apply Exists.intro; refine ⟨fun wq hq => ?_, ?_⟩; (focus ((try dsimp only at hq); go_simp; (first | done | with_reducible rfl | fail)))) | refine held_s (i := 1) hHeld ?_ | fail
  try simp only [Act.put, List.setIfInBounds_toArray, List.set_cons_zero, List.set_cons_succ]
  first | (refine held_t (i := 2) hHeld ?_; apply Exists.intro; refine ⟨fun wq hq => ?_, ?_⟩; (focus ((try dsimp only at hq); go_simp; (first | done | with_reducible rfl | fail)))) | refine held_s (i := 2) hHeld ?_ | fail
  first | (refine held_t (i := 3) hHeld ?_; apply Exists.intro; refine ⟨fun wq hq => ?_, ?_⟩; (focus ((try dsimp only at hq); go_simp; (first | done | with_reducible rfl | fail)))) | refine held_s (i := 3) hHeld ?_ | fail
  try simp only [Act.put, List.setIfInBounds_toArray, List.set_cons_zero, List.set_cons_succ]
  first | (refine held_t (i := 4) hHeld ?_; apply Exists.intro; refine ⟨fun wq hq => ?_, ?_⟩; (focus ((try dsimp only at hq); go_simp; (first | done | with_reducible rfl | fail)))) | refine held_s (i := 4) hHeld ?_ | fail
  first | (refine held_t (i := 6) hHeld ?_; apply Exists.intro; refine ⟨fun wq hq => ?_, ?_⟩; (focus ((try dsimp only at hq); go_simp; (first | done | with_reducible rfl | fail)))) | refine held_s (i := 6) hHeld ?_ | fail
  try simp only [Act.put, List.setIfInBounds_toArray, List.set_cons_zero, List.set_cons_succ]
  refine held_c 5 fun K hK => ?_
  go_simp
  (go_at_call 21; refine (HA.out _ hHeld.2).mono ?_; rintro e wx5 ⟨vv5, rfl, hv5, hb5⟩; have HV5 := Lib.hid hv5; clear hv5)
  refine hK.out _ _ (⟨⟨cell_later hb5 hHeld.1.1, cell_later hb5 hHeld.1.2.1, cell_later hb5 hHeld.1.2.2.1, cell_later hb5 hHeld.1.2.2.2.1, cell_later hb5 hHeld.1.2.2.2.2.1, cell_later hb5 hHeld.1.2.2.2.2.2.1, cell_later hb5 hHeld.1.2.2.2.2.2.2.1, cell_later hb5 hHeld.1.2.2.2.2.2.2.2.1, cell_later hb5 hHeld.1.2.2.2.2.2.2.2.2.1, cell_later hb5 hHeld.1.2.2.2.2.2.2.2.2.2.1, cell_later hb5 hHeld.1.2.2.2.2.2.2.2.2.2.2.1, cell_later hb5 hHeld.1.2.2.2.2.2.2.2.2.2.2.2.1, cell_later hb5 hHeld.1.2.2.2.2.2.2.2.2.2.2.2.2.1, cell_later hb5 hHeld.1.2.2.2.2.2.2.2.2.2.2.2.2.2.1, cell_later hb5 hHeld.1.2.2.2.2.2.2.2.2.2.2.2.2.2.2.1, cell_later hb5 hHeld.1.2.2.2.2.2.2.2.2.2.2.2.2.2.2.2⟩, Ext.trans' hHeld.2 hb5⟩) (fun hHeld => ?_)
  clear hK K
  try simp only [Act.put, List.setIfInBounds_toArray, List.set_cons_zero, List.set_cons_succ]
  refine held_c 7 fun K hK => ?_
  go_simp
  (go_at_call 20; refine (rSameG_at _ l (Nat.le_refl _) _ _ _ (GoalsV.stay HV5.out (Stays.unhide _ _)) (GoalsV.stay HG13.out.2 (stays_bl hHeld.2))).mono ?_; rintro e wx7 ⟨rfl, hb7⟩)
  refine hK.out _ _ (⟨⟨cell_later hb7 hHeld.1.1, cell_later hb7 hHeld.1.2.1, cell_later hb7 hHeld.1.2.2.1, cell_later hb7 hHeld.1.2.2.2.1, cell_later hb7 hHeld.1.2.2.2.2.1, cell_later hb7 hHeld.1.2.2.2.2.2.1, cell_later hb7 hHeld.1.2.2.2.2.2.2.1, cell_later hb7 hHeld.1.2.2.2.2.2.2.2.1, cell_later hb7 hHeld.1.2.2.2.2.2.2.2.2.1, cell_later hb7 hHeld.1.2.2.2.2.2.2.2.2.2.1, cell_later hb7 hHeld.1.2.2.2.2.2.2.2.2.2.2.1, cell_later hb7 hHeld.1.2.2.2.2.2.2.2.2.2.2.2.1, cell_later hb7 hHeld.1.2.2.2.2.2.2.2.2.2.2.2.2.1, cell_later hb7 hHeld.1.2.2.2.2.2.2.2.2.2.2.2.2.2.1, cell_later hb7 hHeld.1.2.2.2.2.2.2.2.2.2.2.2.2.2.2.1, cell_later hb7 hHeld.1.2.2.2.2.2.2.2.2.2.2.2.2.2.2.2⟩, Ext.trans' hHeld.2 hb7⟩) (fun hHeld => ?_)
  clear hK K
  try simp only [Act.put, List.setIfInBounds_toArray, List.set_cons_zero, List.set_cons_succ]
  first | (refine held_t (i := 8) hHeld ?_; apply Exists.intro; refine ⟨fun wq hq => ?_, ?_⟩; (focus ((try dsimp only at hq); go_simp; (first | done | with_reducible rfl | fail)))) | refine held_s (i := 8) hHeld ?_ | fail
  first | (refine held_t (i := 9) hHeld ?_; apply Exists.intro; refine ⟨fun wq hq => ?_, ?_⟩; (focus ((try dsimp only at hq); go_simp; (first | done | with_reducible rfl | fail)))) | refine held_s (i := 9) hHeld ?_ | fail
  try simp only [Act.put, List.setIfInBounds_toArray, List.set_cons_zero, List.set_cons_succ]
  first | (refine held_t (i := 10) hHeld ?_; apply Exists.intro; refine ⟨fun wq hq => ?_, ?_⟩; (focus ((try dsimp only at hq); go_simp; (first | done | with_reducible rfl | fail)))) | refine held_s (i := 10) hHeld ?_ | fail
  first | (refine held_t (i := 11) hHeld ?_; apply Exists.intro; refine ⟨fun wq hq => ?_, ?_⟩; (focus ((try dsimp only at hq); go_simp; (first | done | with_reducible rfl | fail)))) | refine held_s (i := 11) hHeld ?_ | fail
  try simp only [Act.put, List.setIfInBounds_toArray, List.set_cons_zero, List.set_cons_succ]
  first | (refine held_t (i := 12) hHeld ?_; apply Exists.intro; refine ⟨fun wq hq => ?_, ?_⟩; (focus ((try dsimp only at hq); go_simp; (first | done | with_reducible rfl | fail)))) | refine held_s (i := 12) hHeld ?_ | fail
  first | (refine held_t (i := 13) hHeld ?_; apply Exists.intro; refine ⟨fun wq hq => ?_, ?_⟩; (focus ((try dsimp only at hq); go_simp; (first | done | with_reducible rfl | fail)))) | refine held_s (i := 13) hHeld ?_ | fail
  try simp only [Act.put, List.setIfInBounds_toArray, List.set_cons_zero, List.set_cons_succ]
  first | (refine held_t (i := 14) hHeld ?_; apply Exists.intro; refine ⟨fun wq hq => ?_, ?_⟩; (focus ((try dsimp only at hq); go_simp; (first | done | with_reducible rfl | fail)))) | refine held_s (i := 14) hHeld ?_ | fail
  first | (refine held_t (i := 15) hHeld ?_; apply Exists.intro; refine ⟨fun wq hq => ?_, ?_⟩; (focus ((try dsimp only at hq); go_simp; (first | done | with_reducible rfl | fail)))) | refine held_s (i := 15) hHeld ?_ | fail
  try simp only [Act.put, List.setIfInBounds_toArray, List.set_cons_zero, List.set_cons_succ]
  first | (refine held_t (i := 17) hHeld ?_; apply Exists.intro; refine ⟨fun wq hq => ?_, ?_⟩; (focus ((try dsimp only at hq); go_simp; (first | done | with_reducible rfl | fail)))) | refine held_s (i := 17) hHeld ?_ | fail
  try simp only [Act.put, List.setIfInBounds_toArray, List.set_cons_zero, List.set_cons_succ]
  refine held_c 16 fun K hK => ?_
  go_simp
  (go_at_call 17; refine (HO1.out _ hHeld.2).mono ?_; rintro e wx16 ⟨vv16, rfl, hv16, hb16⟩; have HV16 := Lib.hid hv16; clear hv16)
  refine hK.out _ _ (⟨⟨cell_later hb16 hHeld.1.1, cell_later hb16 hHeld.1.2.1, cell_later hb16 hHeld.1.2.2.1, cell_later hb16 hHeld.1.2.2.2.1, cell_later hb16 hHeld.1.2.2.2.2.1, cell_later hb16 hHeld.1.2.2.2.2.2.1, cell_later hb16 hHeld.1.2.2.2.2.2.2.1, cell_later hb16 hHeld.1.2.2.2.2.2.2.2.1, cell_later hb16 hHeld.1.2.2.2.2.2.2.2.2.1, cell_later hb16 hHeld.1.2.2.2.2.2.2.2.2.2.1, cell_later hb16 hHeld.1.2.2.2.2.2.2.2.2.2.2.1, cell_later hb16 hHeld.1.2.2.2.2.2.2.2.2.2.2.2.1, cell_later hb16 hHeld.1.2.2.2.2.2.2.2.2.2.2.2.2.1, cell_later hb16 hHeld.1.2.2.2.2.2.2.2.2.2.2.2.2.2.1, cell_later hb16 hHeld.1.2.2.2.2.2.2.2.2.2.2.2.2.2.2.1, cell_later hb16 hHeld.1.2.2.2.2.2.2.2.2.2.2.2.2.2.2.2⟩, Ext.trans' hHeld.2 hb16⟩) (fun hHeld => ?_)
  clear hK K
  try simp only [Act.put, List.setIfInBounds_toArray, List.set_cons_zero, List.set_cons_succ]
  refine held_c 18 fun K hK => ?_
  go_simp
  (go_at_call 22; refine (rsame_at _ T (Nat.le_refl _) T _ _ _ (TmV.stay (Stays.unhide _ _) _ _ HV16.out) (TmV.ext hHeld.2 _ _ HH13.out.2.2.1)).mono ?_; rintro e wx18 ⟨rfl, hb18⟩; rw [same_self])
  refine hK.out _ _ (⟨⟨cell_later hb18 hHeld.1.1, cell_later hb18 hHeld.1.2.1, cell_later hb18 hHeld.1.2.2.1, cell_later hb18 hHeld.1.2.2.2.1, cell_later hb18 hHeld.1.2.2.2.2.1, cell_later hb18 hHeld.1.2.2.2.2.2.1, cell_later hb18 hHeld.1.2.2.2.2.2.2.1, cell_later hb18 hHeld.1.2.2.2.2.2.2.2.1, cell_later hb18 hHeld.1.2.2.2.2.2.2.2.2.1, cell_later hb18 hHeld.1.2.2.2.2.2.2.2.2.2.1, cell_later hb18 hHeld.1.2.2.2.2.2.2.2.2.2.2.1, cell_later hb18 hHeld.1.2.2.2.2.2.2.2.2.2.2.2.1, cell_later hb18 hHeld.1.2.2.2.2.2.2.2.2.2.2.2.2.1, cell_later hb18 hHeld.1.2.2.2.2.2.2.2.2.2.2.2.2.2.1, cell_later hb18 hHeld.1.2.2.2.2.2.2.2.2.2.2.2.2.2.2.1, cell_later hb18 hHeld.1.2.2.2.2.2.2.2.2.2.2.2.2.2.2.2⟩, Ext.trans' hHeld.2 hb18⟩) (fun hHeld => ?_)
  clear hK K
  try simp only [Act.put, List.setIfInBounds_toArray, List.set_cons_zero, List.set_cons_succ]
  first | (refine held_t (i := 19) hHeld ?_; apply Exists.intro; refine ⟨fun wq hq => ?_, ?_⟩; (focus ((try dsimp only at hq); go_simp; (first | done | with_reducible rfl | fail)))) | refine held_s (i := 19) hHeld ?_ | fail
  first | (refine held_t (i := 20) hHeld ?_; apply Exists.intro; refine ⟨fun wq hq => ?_, ?_⟩; (focus ((try dsimp only at hq); go_simp; (first | done | with_reducible rfl | fail)))) | refine held_s (i := 20) hHeld ?_ | fail
  try simp only [Act.put, List.setIfInBounds_toArray, List.set_cons_zero, List.set_cons_succ]
  first | (refine held_t (i := 21) hHeld ?_; apply Exists.intro; refine ⟨fun wq hq => ?_, ?_⟩; (focus ((try dsimp only at hq); go_simp; (first | done | with_reducible rfl | fail)))) | refine held_s (i := 21) hHeld ?_ | fail
  first | (refine held_t (i := 23) hHeld ?_; apply Exists.intro; refine ⟨fun wq hq => ?_, ?_⟩; (focus ((try dsimp only at hq); go_simp; (first | done | with_reducible rfl | fail)))) | refine held_s (i := 23) hHeld ?_ | fail
  try simp only [Act.put, List.setIfInBounds_toArray, List.set_cons_zero, List.set_cons_succ]
  refine held_c 22 fun K hK => ?_
  go_simp
  (go_at_call 17; refine (HO2.out _ hHeld.2).mono ?_; rintro e wx22 ⟨vv22, rfl, hv22, hb22⟩; have HV22 := Lib.hid hv22; clear hv22)
  refine hK.out _ _ (⟨⟨cell_later hb22 hHeld.1.1, cell_later hb22 hHeld.1.2.1, cell_later hb22 hHeld.1.2.2.1, cell_later hb22 hHeld.1.2.2.2.1, cell_later hb22 hHeld.1.2.2.2.2.1, cell_later hb22 hHeld.1.2.2.2.2.2.1, cell_later hb22 hHeld.1.2.2.2.2.2.2.1, cell_later hb22 hHeld.1.2.2.2.2.2.2.2.1, cell_later hb22 hHeld.1.2.2.2.2.2.2.2.2.1, cell_later hb22 hHeld.1.2.2.2.2.2.2.2.2.2.1, cell_later hb22 hHeld.1.2.2.2.2.2.2.2.2.2.2.1, cell_later hb22 hHeld.1.2.2.2.2.2.2.2.2.2.2.2.1, cell_later hb22 hHeld.1.2.2.2.2.2.2.2.2.2.2.2.2.1, cell_later hb22 hHeld.1.2.2.2.2.2.2.2.2.2.2.2.2.2.1, cell_later hb22 hHeld.1.2.2.2.2.2.2.2.2.2.2.2.2.2.2.1, cell_later hb22 hHeld.1.2.2.2.2.2.2.2.2.2.2.2.2.2.2.2⟩, Ext.trans' hHeld.2 hb22⟩) (fun hHeld => ?_)
  clear hK K
  try simp only [Act.put, List.setIfInBounds_toArray, List.set_cons_zero, List.set_cons_succ]
  refine held_c 24 fun K hK => ?_
  go_simp
  (go_at_call 22; refine (rsame_at _ Z (Nat.le_refl _) Z _ _ _ (TmV.stay (Stays.unhide _ _) _ _ HV22.out) (TmV.ext hHeld.2 _ _ HH13.out.2.2.2)).mono ?_; rintro e wx24 ⟨rfl, hb24⟩; rw [same_self])
  refine hK.out _ _ (⟨⟨cell_later hb24 hHeld.1.1, cell_later hb24 hHeld.1.2.1, cell_later hb24 hHeld.1.2.2.1, cell_later hb24 hHeld.1.2.2.2.1, cell_later hb24 hHeld.1.2.2.2.2.1, cell_later hb24 hHeld.1.2.2.2.2.2.1, cell_later hb24 hHeld.1.2.2.2.2.2.2.1, cell_later hb24 hHeld.1.2.2.2.2.2.2.2.1, cell_later hb24 hHeld.1.2.2.2.2.2.2.2.2.1, cell_later hb24 hHeld.1.2.2.2.2.2.2.2.2.2.1, cell_later hb24 hHeld.1.2.2.2.2.2.2.2.2.2.2.1, cell_later hb24 hHeld.1.2.2.2.2.2.2.2.2.2.2.2.1, cell_later hb24 hHeld.1.2.2.2.2.2.2.2.2.2.2.2.2.1, cell_later hb24 hHeld.1.2.2.2.2.2.2.2.2.2.2.2.2.2.1, cell_later hb24 hHeld.1.2.2.2.2.2.2.2.2.2.2.2.2.2.2.1, cell_later hb24 hHeld.1.2.2.2.2.2.2.2.2.2.2.2.2.2.2.2⟩, Ext.trans' hHeld.2 hb24⟩) (fun hHeld => ?_)
  clear hK K
  try simp only [Act.put, List.setIfInBounds_toArray, List.set_cons_zero, List.set_cons_succ]
  first | (refine held_t (i := 25) hHeld ?_; apply Exists.intro; refine ⟨fun wq hq => ?_, ?_⟩; (focus ((try dsimp only at hq); go_simp; (first | done | with_reducible rfl | fail)))) | refine held_s (i := 25) hHeld ?_ | fail
  first | (refine held_t (i := 26) hHeld ?_; apply Exists.intro; refine ⟨fun wq hq => ?_, ?_⟩; (focus ((try dsimp only at hq); go_simp; (first | done | with_reducible rfl | fail)))) | refine held_s (i := 26) hHeld ?_ | fail
  try simp only [Act.put, List.setIfInBounds_toArray, List.set_cons_zero, List.set_cons_succ]
  first | (refine held_t (i := 27) hHeld ?_; apply Exists.intro; refine ⟨fun wq hq => ?_, ?_⟩; (focus ((try dsimp only at hq); go_simp; (first | done | with_reducible rfl | fail)))) | refine held_s (i := 27) hHeld ?_ | fail
  first | (refine held_t (i := 29) hHeld ?_; apply Exists.intro; refine ⟨fun wq hq => ?_, ?_⟩; (focus ((try dsimp only at hq); go_simp; (first | done | with_reducible rfl | fail)))) | refine held_s (i := 29) hHeld ?_ | fail
  try simp only [Act.put, List.setIfInBounds_toArray, List.set_cons_zero, List.set_cons_succ]
  refine held_c 28 fun K hK => ?_
  go_simp
  (go_at_call 10; refine (HN1.out _ hHeld.2).mono ?_; rintro e wx28 ⟨rfl, hb28⟩)
  refine hK.out _ _ (⟨⟨cell_later hb28 hHeld.1.1, cell_later hb28 hHeld.1.2.1, cell_later hb28 hHeld.1.2.2.1, cell_later hb28 hHeld.1.2.2.2.1, cell_later hb28 hHeld.1.2.2.2.2.1, cell_later hb28 hHeld.1.2.2.2.2.2.1, cell_later hb28 hHeld.1.2.2.2.2.2.2.1, cell_later hb28 hHeld.1.2.2.2.2.2.2.2.1, cell_later hb28 hHeld.1.2.2.2.2.2.2.2.2.1, cell_later hb28 hHeld.1.2.2.2.2.2.2.2.2.2.1, cell_later hb28 hHeld.1.2.2.2.2.2.2.2.2.2.2.1, cell_later hb28 hHeld.1.2.2.2.2.2.2.2.2.2.2.2.1, cell_later hb28 hHeld.1.2.2.2.2.2.2.2.2.2.2.2.2.1, cell_later hb28 hHeld.1.2.2.2.2.2.2.2.2.2.2.2.2.2.1, cell_later hb28 hHeld.1.2.2.2.2.2.2.2.2.2.2.2.2.2.2.1, cell_later hb28 hHeld.1.2.2.2.2.2.2.2.2.2.2.2.2.2.2.2⟩, Ext.trans' hHeld.2 hb28⟩) (fun hHeld => ?_)
  clear hK K
  try simp only [Act.put, List.setIfInBounds_toArray, List.set_cons_zero, List.set_cons_succ]
  refine held_c 30 fun K hK => ?_
  go_simp
  (go_at_call 23; refine (HN2.out _ hHeld.2).mono ?_; rintro e wy ⟨rfl, rfl⟩)
  refine hK.out _ _ (hHeld) (fun hHeld => ?_)
  clear hK K
  try simp only [Act.put, List.setIfInBounds_toArray, List.set_cons_zero, List.set_cons_succ]
  first | (refine held_t (i := 31) hHeld ?_; apply Exists.intro; refine ⟨fun wq hq => ?_, ?_⟩; (focus ((try dsimp only at hq); go_simp; (first | done | with_reducible rfl | fail)))) | refine held_s (i := 31) hHeld ?_ | fail
  first | (refine held_t (i := 32) hHeld ?_; apply Exists.intro; refine ⟨fun wq hq => ?_, ?_⟩; (focus ((try dsimp only at hq); go_simp; (first | done | with_reducible rfl | fail)))) | refine held_s (i := 32) hHeld ?_ | fail
  try simp only [Act.put, List.setIfInBounds_toArray, List.set_cons_zero, List.set_cons_succ]
  first | (refine held_t (i := 33) hHeld ?_; apply Exists.intro; refine ⟨fun wq hq => ?_, ?_⟩; (focus ((try dsimp only at hq); go_simp; (first | done | with_reducible rfl | fail)))) | refine held_s (i := 33) hHeld ?_ | fail
  first | (refine held_t (i := 34) hHeld ?_; apply Exists.intro; refine ⟨fun wq hq => ?_, ?_⟩; (focus ((try dsimp only at hq); go_simp; (first | done | with_reducible rfl | fail)))) | refine held_s (i := 34) hHeld ?_ | fail
  try simp only [Act.put, List.setIfInBounds_toArray, List.set_cons_zero, List.set_cons_succ]
  first | (refine held_t (i := 36) hHeld ?_; apply Exists.intro; refine ⟨fun wq hq => ?_, ?_⟩; (focus ((try dsimp only at hq); go_simp; (first | done | with_reducible rfl | fail)))) | refine held_s (i := 36) hHeld ?_ | fail
  try simp only [Act.put, List.setIfInBounds_toArray, List.set_cons_zero, List.set_cons_succ]
  refine held_c 35 fun K hK => ?_
  go_simp
  (go_at_call 14; refine (HU1.out _ hHeld.2).mono ?_; rintro e wx35 ⟨rfl, hb35⟩)
  refine hK.out _ _ (⟨⟨cell_later hb35 hHeld.1.1, cell_later hb35 hHeld.1.2.1, cell_later hb35 hHeld.1.2.2.1, cell_later hb35 hHeld.1.2.2.2.1, cell_later hb35 hHeld.1.2.2.2.2.1, cell_later hb35 hHeld.1.2.2.2.2.2.1, cell_later hb35 hHeld.1.2.2.2.2.2.2.1, cell_later hb35 hHeld.1.2.2.2.2.2.2.2.1, cell_later hb35 hHeld.1.2.2.2.2.2.2.2.2.1, cell_later hb35 hHeld.1.2.2.2.2.2.2.2.2.2.1, cell_later hb35 hHeld.1.2.2.2.2.2.2.2.2.2.2.1, cell_later hb35 hHeld.1.2.2.2.2.2.2.2.2.2.2.2.1, cell_later hb35 hHeld.1.2.2.2.2.2.2.2.2.2.2.2.2.1, cell_later hb35 hHeld.1.2.2.2.2.2.2.2.2.2.2.2.2.2.1, cell_later hb35 hHeld.1.2.2.2.2.2.2.2.2.2.2.2.2.2.2.1, cell_later hb35 hHeld.1.2.2.2.2.2.2.2.2.2.2.2.2.2.2.2⟩, Ext.trans' hHeld.2 hb35⟩) (fun hHeld => ?_)
  clear hK K
  try simp only [Act.put, List.setIfInBounds_toArray, List.set_cons_zero, List.set_cons_succ]
  refine held_c 37 fun K hK => ?_
  go_simp
  (go_at_call 24; refine (HU2.out _ hHeld.2).mono ?_; rintro e wy ⟨rfl, rfl⟩)
  refine hK.out _ _ (hHeld) (fun hHeld => ?_)
  clear hK K
  try simp only [Act.put, List.setIfInBounds_toArray, List.set_cons_zero, List.set_cons_succ]
  first | (refine held_t (i := 38) hHeld ?_; apply Exists.intro; refine ⟨fun wq hq => ?_, ?_⟩; (focus ((try dsimp only at hq); go_simp; (first | done | with_reducible rfl | fail)))) | refine held_s (i := 38) hHeld ?_ | fail
  first | (refine held_t (i := 39) hHeld ?_; apply Exists.intro; refine ⟨fun wq hq => ?_, ?_⟩; (focus ((try dsimp only at hq); go_simp; (first | done | with_reducible rfl | fail)))) | refine held_s (i := 39) hHeld ?_ | fail
  try simp only [Act.put, List.setIfInBounds_toArray, List.set_cons_zero, List.set_cons_succ]
  first | (refine held_t (i := 40) hHeld ?_; apply Exists.intro; refine ⟨fun wq hq => ?_, ?_⟩; (focus ((try dsimp only at hq); go_simp; (first | done | with_reducible rfl | fail)))) | refine held_s (i := 40) hHeld ?_ | fail
  try simp only [Act.put, List.setIfInBounds_toArray, List.set_cons_zero, List.set_cons_succ]
  refine wpAnyH_done (by kernel_rfl) ?_ _
  have HEND := Lib.hid hHeld.2
  clear hHeld p0 p1 p2 p3 q0 q1 q2 q3 r0 r1 r2 r3 d0 d1 d2 d3
  go_wp2
  go_ret
  exact ⟨rfl, Ext.trans' H13.out HEND.out⟩
end Go.Proofs.YtaojalicnnnkmaaGreatDoor
/- The project's reader: bracketed. -/
namespace Go.Proofs.YtaojalicnnnkmaaGreatDoor
open Go.Shelf Go.RowKit
set_option linter.unusedVariables false

theorem tms_one {D : Nat → Bool} {w : World} {t : Tm} {v0 v1 v2 v3 : Value} (ho : Old D w) (h : TmV (hide D w) t (.agg #[v0, v1, v2, v3])) (ty : TypeId) : Tms (hide D (w.alloc (.cells #[v0, v1, v2, v3] ty))) (.slice (some ⟨w.heap.size, 0, none⟩) 1 1) [t] := by
  have hd : D w.heap.size = false := ho _ (Nat.le_refl _)
  obtain ⟨w1, hw1, hb1, _, hx1⟩ := box_new w #[v0, v1, v2, v3] ty
  rw [hw1]
  obtain ⟨r0, r1, r2, r3, rf⟩ := hx1.four
  refine ⟨_, 1, rfl, Nat.le_refl _, by unfold maxLen; omega, by unfold BIG; simp, Or.inr ⟨w.heap.size, 0, rfl, by rw [hide_size]; exact hx1.lt, ?_⟩⟩
  rw [TmRow]
  refine ⟨⟨v0, v1, v2, v3, ?_, ?_, ?_, ?_, TmV.later hb1 h⟩, by rw [TmRow]; trivial⟩
  · rw [hide_cell _ _ _ hd]; exact r0
  · rw [hide_cell _ _ _ hd]; exact r1
  · rw [hide_cell _ _ _ hd]; exact r2
  · rw [hide_cell _ _ _ hd]; exact r3
theorem tms_two {D : Nat → Bool} {w : World} {t u : Tm} {v0 v1 v2 v3 u0 u1 u2 u3 : Value} (ho : Old D w) (h : TmV (hide D w) t (.agg #[v0, v1, v2, v3])) (g : TmV (hide D w) u (.agg #[u0, u1, u2, u3])) (ty : TypeId) :
    Tms (hide D (w.alloc (.cells #[v0, v1, v2, v3, u0, u1, u2, u3] ty))) (.slice (some ⟨w.heap.size, 0, none⟩) 2 2) [t, u] := by
  have hd : D w.heap.size = false := ho _ (Nat.le_refl _)
  obtain ⟨w1, hw1, hb1, _, hx1⟩ := box_new w #[v0, v1, v2, v3, u0, u1, u2, u3] ty
  rw [hw1]
  refine ⟨_, 2, rfl, Nat.le_refl _, by unfold maxLen; omega, by unfold BIG; simp, Or.inr ⟨w.heap.size, 0, rfl, by rw [hide_size]; exact hx1.lt, ?_⟩⟩
  rw [TmRow, TmRow]
  refine ⟨⟨v0, v1, v2, v3, ?_, ?_, ?_, ?_, TmV.later hb1 h⟩, ⟨u0, u1, u2, u3, ?_, ?_, ?_, ?_, TmV.later hb1 g⟩, by rw [TmRow]; trivial⟩
  · rw [hide_cell _ _ _ hd]; exact hx1.cells 0 _ rfl
  · rw [hide_cell _ _ _ hd]; exact hx1.cells 1 _ rfl
  · rw [hide_cell _ _ _ hd]; exact hx1.cells 2 _ rfl
  · rw [hide_cell _ _ _ hd]; exact hx1.cells 3 _ rfl
  · rw [hide_cell _ _ _ hd]; exact hx1.cells 4 _ rfl
  · rw [hide_cell _ _ _ hd]; exact hx1.cells 5 _ rfl
  · rw [hide_cell _ _ _ hd]; exact hx1.cells 6 _ rfl
  · rw [hide_cell _ _ _ hd]; exact hx1.cells 7 _ rfl
theorem closed_none {T : TFun} {t : List UInt8} {s : RS} (h : T 1200 s = none) : closedR T t s = none := by unfold closedR; rw [h]
theorem closed_open {T : TFun} {t : List UInt8} {s s1 : RS} {p : TL} (h : T 1200 s = some (p, s1)) (hm : isMark t (headR s1) = false) : closedR T t s = none := by unfold closedR; rw [h]; simp only [(takesR_no hm).1]
theorem closed_done {T : TFun} {t : List UInt8} {s s1 : RS} {p : TL} (h : T 1200 s = some (p, s1)) (hm : isMark t (headR s1) = true) : closedR T t s = some (p.1, takesS t s1) := by unfold closedR; rw [h]; simp only [takesR_yes hm]
set_option maxHeartbeats 4000000 in
theorem paren_at {xs : List O} {n : Nat} (ih : IHT xs n) {D M : Nat → Bool} {w : World} {rb : Nat} {s : RS} (h : St D M w rb xs s) (hlt : s.rest.length < n) :
    Calls Tryz.prog 99 #[.pointer (some ⟨rb, 0, none⟩), .string ⟨#[40]⟩] w (BPost D M w rb xs (closedR (TERMX xs) [41] s)) := by
  obtain ⟨X, hX⟩ : ∃ X, closedR (TERMX xs) [41] s = X := ⟨_, rfl⟩
  rw [hX]
  have HXX := Lib.hid hX
  obtain ⟨w1, hw1, hb1, hz1, hx1⟩ := box_new w #[.int .i64 0, .int .i64 0, .string ⟨#[]⟩, .slice none 0 0] 31
  have h1 := h.box hb1 (Nat.le_refl _) hx1.lt
  have HMd := Lib.hid h.md
  have HMB := Lib.hid (Old.out h (Nat.le_refl _))
  have HT1 := Lib.hid (Turn.into (D := D) (M := M) hb1 (Nat.le_refl _))
  have HI := Lib.hid (ih _ _ _ rb _ 1200 h1 hlt)
  have HX1 := Lib.hid hx1
  clear h hX hlt ih h1 hx1 hb1 hz1
  go_enter Tryz.func99, Tryz.ntmps99
  go_wp2_with fail
  (try rw [hw1])
  clear hw1
  (go_wp2_with fail; go_fit (HI.out); rintro e w2 ⟨D2, M2, t2, v2, lv2, ok, rfl, htv, ht2, ho2, hok2, hsm2⟩)
  obtain ⟨k2, n2, s2, a2, m2, c2, rfl⟩ := htv.full
  have HDB := Lib.hid ((ht2.dd _ HX1.out.lt).trans (plusB_self D _))
  have HMB2 := Lib.hid ((ht2.mm _ HX1.out.lt).trans HMB.out)
  have HX2 := Lib.hid (HX1.out.turn ht2 HMB.out)
  have HT3 := Lib.hid ((HT1.out.trans ht2).set4 (b := w.heap.size) (Or.inl (Nat.le_refl _)) (.int .i64 k2) (.int .i64 n2) (.string s2) (.slice a2 m2 c2))
  have HV3 := Lib.hid (htv.put4 HDB.out (.int .i64 k2) (.int .i64 n2) (.string s2) (.slice a2 m2 c2))
  have HO3 := Lib.hid (ho2.put4 w.heap.size (.int .i64 k2) (.int .i64 n2) (.string s2) (.slice a2 m2 c2))
  have HX3 := Lib.hid (HX2.out.all4 (.int .i64 k2) (.int .i64 n2) (.string s2) (.slice a2 m2 c2))
  have HSM := Lib.hid hsm2
  have HOK := Lib.hid hok2
  obtain ⟨r0, r1, r2, r3, rf⟩ := HX2.out.four
  clear htv ht2 ho2 hok2 hsm2
  obtain ⟨w3, hw3⟩ : ∃ w3, set4 w2 w.heap.size (.int .i64 k2) (.int .i64 n2) (.string s2) (.slice a2 m2 c2) = w3 := ⟨_, rfl⟩
  rw [hw3] at HT3 HV3 HO3 HX3
  obtain ⟨p0, p1, p2, p3, pf⟩ := HX3.out.four
  cases hM : TERMX xs 1200 s with
  | none =>
    obtain rfl : ok = false := by rw [HOK.out, hM]; rfl
    have HN := Lib.hid (show X = none from HXX.out.symm.trans (closed_none hM))
    clear hM
    go_wp2_with fail
    (try rw [hw3])
    clear hw3
    refine wp_region_held_drew (S := fun w' => w'.cell? ⟨w.heap.size, 0, none⟩ = some (.int .i64 k2) ∧ w'.cell? ⟨w.heap.size, 1, none⟩ = some (.int .i64 n2) ∧ w'.cell? ⟨w.heap.size, 2, none⟩ = some (.string s2) ∧ w'.cell? ⟨w.heap.size, 3, none⟩ = some (.slice a2 m2 c2)) (by kernel_rfl) ⟨p0, p1, p2, p3⟩ (fun hHeld => ?_)
    first | (refine held_t (i := 0) hHeld ?_; apply Exists.intro; refine ⟨fun wq hq => ?_, ?_⟩; (focus ((try dsimp only at hq); go_simp; (first | done | with_reducible rfl | fail)))) | refine held_s (i := 0) hHeld ?_ | fail
    first | (refine held_t (i := 1) hHeld ?_; apply Exists.intro; refine ⟨fun wq hq => ?_, ?_⟩; (focus ((try dsimp only at hq); go_simp; (first | done | with_reducible rfl | fail)))) | refine held_s (i := 1) hHeld ?_ | fail
    first | (refine held_t (i := 2) hHeld ?_; apply Exists.intro; refine ⟨fun wq hq => ?_, ?_⟩; (focus ((try dsimp only at hq); go_simp; (first | done | with_reducible rfl | fail)))) | refine held_s (i := 2) hHeld ?_ | fail
    first | (refine held_t (i := 3) hHeld ?_; apply Exists.intro; refine ⟨fun wq hq => ?_, ?_⟩; (focus ((try dsimp only at hq); go_simp; (first | done | with_reducible rfl | fail)))) | refine held_s (i := 3) hHeld ?_ | fail
    first | (refine held_t (i := 4) hHeld ?_; apply Exists.intro; refine ⟨fun wq hq => ?_, ?_⟩; (focus ((try dsimp only at hq); go_simp; (first | done | with_reducible rfl | fail)))) | refine held_s (i := 4) hHeld ?_ | fail
    first | (refine held_t (i := 5) hHeld ?_; apply Exists.intro; refine ⟨fun wq hq => ?_, ?_⟩; (focus ((try dsimp only at hq); go_simp; (first | done | with_reducible rfl | fail)))) | refine held_s (i := 5) hHeld ?_ | fail
    try simp only [Act.put, List.setIfInBounds_toArray, List.set_cons_zero, List.set_cons_succ]
    refine held_c 6 fun K hK => ?_
    go_simp
    skip
    refine hK.out _ _ ((let q := ((HX3.out.ext (Below.refl _ _).drew).all4 (.int .i64 k2) (.int .i64 n2) (.string s2) (.slice a2 m2 c2)).four; ⟨q.1, q.2.1, q.2.2.1, q.2.2.2.1⟩)) (fun hHeld => ?_)
    clear hK K
    try simp only [Act.put, List.setIfInBounds_toArray, List.set_cons_zero, List.set_cons_succ]
    first | (refine held_t (i := 7) hHeld ?_; apply Exists.intro; refine ⟨fun wq hq => ?_, ?_⟩; (focus ((try dsimp only at hq); go_simp; (first | done | with_reducible rfl | fail)))) | refine held_s (i := 7) hHeld ?_ | fail
    try simp only [Act.put, List.setIfInBounds_toArray, List.set_cons_zero, List.set_cons_succ]
    refine wpAnyH_done (by kernel_rfl) ?_ _
    go_wp2
    refine bodyPost_ret (v := .tuple #[.agg #[.int .i64 k2, .int .i64 n2, .string s2, .slice a2 m2 c2], .bool false]) (by rw [results_cell_tmp rfl]; go_simp) rfl ?_
    exact bdone_none (HT3.out.trans (Turn.below (Below.refl _ _).drew)) (HO3.out.later (Nat.le_refl _)) HMd.out (Nat.le_refl _) HDB.out (TmV.later (Below.refl _ _).drew HV3.out) HN.out
  | some q =>
    obtain ⟨⟨tq, lq⟩, s1⟩ := q
    obtain rfl : ok = true := by rw [HOK.out, hM]; rfl
    obtain ⟨rfl, rfl, hs2⟩ := HSM.out _ _ hM
    have hs3 := hs2.put4 HDB.out HMB2.out (.int .i64 k2) (.int .i64 n2) (.string s2) (.slice a2 m2 c2)
    rw [hw3] at hs3
    have HM := Lib.hid hM
    have hs3d := hs3.later (Below.refl _ _).drew
    have HTK := Lib.hid (takes_at hs3d [41])
    have HMD := Lib.hid hs3d.md
    clear hM hs2 hs3 hs3d
    cases hmk : isMark [41] (headR s1) with
    | false =>
      rw [hmk] at HTK
      have HN := Lib.hid (show X = none from HXX.out.symm.trans (closed_open HM.out hmk))
      clear hmk
      go_wp2_with fail
      (try rw [hw3])
      clear hw3
      refine wp_region_held_drew (S := fun w' => w'.cell? ⟨w.heap.size, 0, none⟩ = some (.int .i64 k2) ∧ w'.cell? ⟨w.heap.size, 1, none⟩ = some (.int .i64 n2) ∧ w'.cell? ⟨w.heap.size, 2, none⟩ = some (.string s2) ∧ w'.cell? ⟨w.heap.size, 3, none⟩ = some (.slice a2 m2 c2)) (by kernel_rfl) ⟨p0, p1, p2, p3⟩ (fun hHeld => ?_)
      first | (refine held_t (i := 0) hHeld ?_; apply Exists.intro; refine ⟨fun wq hq => ?_, ?_⟩; (focus ((try dsimp only at hq); go_simp; (first | done | with_reducible rfl | fail)))) | refine held_s (i := 0) hHeld ?_ | fail
      first | (refine held_t (i := 1) hHeld ?_; apply Exists.intro; refine ⟨fun wq hq => ?_, ?_⟩; (focus ((try dsimp only at hq); go_simp; (first | done | with_reducible rfl | fail)))) | refine held_s (i := 1) hHeld ?_ | fail
      first | (refine held_t (i := 2) hHeld ?_; apply Exists.intro; refine ⟨fun wq hq => ?_, ?_⟩; (focus ((try dsimp only at hq); go_simp; (first | done | with_reducible rfl | fail)))) | refine held_s (i := 2) hHeld ?_ | fail
      first | (refine held_t (i := 3) hHeld ?_; apply Exists.intro; refine ⟨fun wq hq => ?_, ?_⟩; (focus ((try dsimp only at hq); go_simp; (first | done | with_reducible rfl | fail)))) | refine held_s (i := 3) hHeld ?_ | fail
      try simp only [Act.put, List.setIfInBounds_toArray, List.set_cons_zero, List.set_cons_succ]
      refine held_c 4 fun K hK => ?_
      go_simp
      (go_at_call 117; refine HTK.out.mono ?_; rintro e w4 ⟨rfl, hs4, ht4⟩; have HX4 := Lib.hid ((HX3.out.ext (Below.refl _ _).drew).turn ht4 HMB2.out); obtain ⟨q0, q1, q2, q3, qf⟩ := HX4.out.four; have HS4 := Lib.hid hs4; have HT4 := Lib.hid ht4)
      refine hK.out _ _ (⟨q0, q1, q2, q3⟩) (fun hHeld => ?_)
      clear hK K
      try simp only [Act.put, List.setIfInBounds_toArray, List.set_cons_zero, List.set_cons_succ]
      first | (refine held_t (i := 5) hHeld ?_; apply Exists.intro; refine ⟨fun wq hq => ?_, ?_⟩; (focus ((try dsimp only at hq); go_simp; (first | done | with_reducible rfl | fail)))) | refine held_s (i := 5) hHeld ?_ | fail
      try simp only [Act.put, List.setIfInBounds_toArray, List.set_cons_zero, List.set_cons_succ]
      refine held_c 6 fun K hK => ?_
      go_simp
      skip
      refine hK.out _ _ ((let q := (HX4.out.all4 (.int .i64 k2) (.int .i64 n2) (.string s2) (.slice a2 m2 c2)).four; ⟨q.1, q.2.1, q.2.2.1, q.2.2.2.1⟩)) (fun hHeld => ?_)
      clear hK K
      try simp only [Act.put, List.setIfInBounds_toArray, List.set_cons_zero, List.set_cons_succ]
      first | (refine held_t (i := 7) hHeld ?_; apply Exists.intro; refine ⟨fun wq hq => ?_, ?_⟩; (focus ((try dsimp only at hq); go_simp; (first | done | with_reducible rfl | fail)))) | refine held_s (i := 7) hHeld ?_ | fail
      try simp only [Act.put, List.setIfInBounds_toArray, List.set_cons_zero, List.set_cons_succ]
      refine wpAnyH_done (by kernel_rfl) ?_ _
      go_wp2
      refine bodyPost_ret (v := .tuple #[.agg #[.int .i64 k2, .int .i64 n2, .string s2, .slice a2 m2 c2], .bool false]) (by rw [results_cell_tmp rfl]; go_simp) rfl ?_
      exact bdone_none ((HT3.out.trans (Turn.below (Below.refl _ _).drew)).trans HT4.out) HS4.out.okd HMd.out (Nat.le_refl _) HDB.out (TmV.stay (HT4.out.stays HMD.out) _ _ (TmV.later (Below.refl _ _).drew HV3.out)) HN.out
    | true =>
      rw [hmk] at HTK
      have HN := Lib.hid (show X = some (t2, takesS [41] s1) from HXX.out.symm.trans (closed_done HM.out hmk))
      clear hmk
      go_wp2_with fail
      (try rw [hw3])
      clear hw3
      refine wp_region_held_drew (S := fun w' => w'.cell? ⟨w.heap.size, 0, none⟩ = some (.int .i64 k2) ∧ w'.cell? ⟨w.heap.size, 1, none⟩ = some (.int .i64 n2) ∧ w'.cell? ⟨w.heap.size, 2, none⟩ = some (.string s2) ∧ w'.cell? ⟨w.heap.size, 3, none⟩ = some (.slice a2 m2 c2)) (by kernel_rfl) ⟨p0, p1, p2, p3⟩ (fun hHeld => ?_)
      first | (refine held_t (i := 0) hHeld ?_; apply Exists.intro; refine ⟨fun wq hq => ?_, ?_⟩; (focus ((try dsimp only at hq); go_simp; (first | done | with_reducible rfl | fail)))) | refine held_s (i := 0) hHeld ?_ | fail
      first | (refine held_t (i := 1) hHeld ?_; apply Exists.intro; refine ⟨fun wq hq => ?_, ?_⟩; (focus ((try dsimp only at hq); go_simp; (first | done | with_reducible rfl | fail)))) | refine held_s (i := 1) hHeld ?_ | fail
      first | (refine held_t (i := 2) hHeld ?_; apply Exists.intro; refine ⟨fun wq hq => ?_, ?_⟩; (focus ((try dsimp only at hq); go_simp; (first | done | with_reducible rfl | fail)))) | refine held_s (i := 2) hHeld ?_ | fail
      first | (refine held_t (i := 3) hHeld ?_; apply Exists.intro; refine ⟨fun wq hq => ?_, ?_⟩; (focus ((try dsimp only at hq); go_simp; (first | done | with_reducible rfl | fail)))) | refine held_s (i := 3) hHeld ?_ | fail
      try simp only [Act.put, List.setIfInBounds_toArray, List.set_cons_zero, List.set_cons_succ]
      refine held_c 4 fun K hK => ?_
      go_simp
      (go_at_call 117; refine HTK.out.mono ?_; rintro e w4 ⟨rfl, hs4, ht4⟩; have HX4 := Lib.hid ((HX3.out.ext (Below.refl _ _).drew).turn ht4 HMB2.out); obtain ⟨q0, q1, q2, q3, qf⟩ := HX4.out.four; have HS4 := Lib.hid hs4; have HT4 := Lib.hid ht4)
      refine hK.out _ _ (⟨q0, q1, q2, q3⟩) (fun hHeld => ?_)
      clear hK K
      try simp only [Act.put, List.setIfInBounds_toArray, List.set_cons_zero, List.set_cons_succ]
      first | (refine held_t (i := 5) hHeld ?_; apply Exists.intro; refine ⟨fun wq hq => ?_, ?_⟩; (focus ((try dsimp only at hq); go_simp; (first | done | with_reducible rfl | fail)))) | refine held_s (i := 5) hHeld ?_ | fail
      try simp only [Act.put, List.setIfInBounds_toArray, List.set_cons_zero, List.set_cons_succ]
      refine held_c 6 fun K hK => ?_
      go_simp
      skip
      refine hK.out _ _ ((let q := (HX4.out.all4 (.int .i64 k2) (.int .i64 n2) (.string s2) (.slice a2 m2 c2)).four; ⟨q.1, q.2.1, q.2.2.1, q.2.2.2.1⟩)) (fun hHeld => ?_)
      clear hK K
      try simp only [Act.put, List.setIfInBounds_toArray, List.set_cons_zero, List.set_cons_succ]
      first | (refine held_t (i := 7) hHeld ?_; apply Exists.intro; refine ⟨fun wq hq => ?_, ?_⟩; (focus ((try dsimp only at hq); go_simp; (first | done | with_reducible rfl | fail)))) | refine held_s (i := 7) hHeld ?_ | fail
      try simp only [Act.put, List.setIfInBounds_toArray, List.set_cons_zero, List.set_cons_succ]
      refine wpAnyH_done (by kernel_rfl) ?_ _
      go_wp2
      refine bodyPost_ret (v := .tuple #[.agg #[.int .i64 k2, .int .i64 n2, .string s2, .slice a2 m2 c2], .bool true]) (by rw [results_cell_tmp rfl]; go_simp) rfl ?_
      exact bdone_some ((HT3.out.trans (Turn.below (Below.refl _ _).drew)).trans HT4.out) HS4.out HMd.out (Nat.le_refl _) HDB.out HMB2.out (TmV.stay (HT4.out.stays HMD.out) _ _ (TmV.later (Below.refl _ _).drew HV3.out)) HN.out
end Go.Proofs.YtaojalicnnnkmaaGreatDoor
/- The project's reader: bracketed, the other ways. -/
namespace Go.Proofs.YtaojalicnnnkmaaGreatDoor
open Go.Shelf Go.RowKit
set_option linter.unusedVariables false

def braceR (o : Out Tm) : Out Tm := match o with
  | none => none
  | some (t, s1) => some (.mk 2 0 (ba [123, 125]) [t], s1)
set_option maxHeartbeats 4000000 in
theorem brace_at {xs : List O} {n : Nat} (ih : IHT xs n) {D M : Nat → Bool} {w : World} {rb : Nat} {s : RS} (h : St D M w rb xs s) (hlt : s.rest.length < n) :
    Calls Tryz.prog 99 #[.pointer (some ⟨rb, 0, none⟩), .string ⟨#[123]⟩] w (BPost D M w rb xs (braceR (closedR (TERMX xs) [125] s))) := by
  obtain ⟨X, hX⟩ : ∃ X, braceR (closedR (TERMX xs) [125] s) = X := ⟨_, rfl⟩
  rw [hX]
  have HXX := Lib.hid hX
  obtain ⟨w1, hw1, hb1, hz1, hx1⟩ := box_new w #[.int .i64 0, .int .i64 0, .string ⟨#[]⟩, .slice none 0 0] 31
  have h1 := h.box hb1 (Nat.le_refl _) hx1.lt
  have HMd := Lib.hid h.md
  have HMB := Lib.hid (Old.out h (Nat.le_refl _))
  have HT1 := Lib.hid (Turn.into (D := D) (M := M) hb1 (Nat.le_refl _))
  have HI := Lib.hid (ih _ _ _ rb _ 1200 h1 hlt)
  have HX1 := Lib.hid hx1
  clear h hX hlt ih h1 hx1 hb1 hz1
  go_enter Tryz.func99, Tryz.ntmps99
  go_wp2_with fail
  (try rw [hw1])
  clear hw1
  (go_wp2_with fail; go_fit (HI.out); rintro e w2 ⟨D2, M2, t2, v2, lv2, ok, rfl, htv, ht2, ho2, hok2, hsm2⟩)
  obtain ⟨k2, n2, s2, a2, m2, c2, rfl⟩ := htv.full
  have HDB := Lib.hid ((ht2.dd _ HX1.out.lt).trans (plusB_self D _))
  have HMB2 := Lib.hid ((ht2.mm _ HX1.out.lt).trans HMB.out)
  have HX2 := Lib.hid (HX1.out.turn ht2 HMB.out)
  have HT3 := Lib.hid ((HT1.out.trans ht2).set4 (b := w.heap.size) (Or.inl (Nat.le_refl _)) (.int .i64 k2) (.int .i64 n2) (.string s2) (.slice a2 m2 c2))
  have HV3 := Lib.hid (htv.put4 HDB.out (.int .i64 k2) (.int .i64 n2) (.string s2) (.slice a2 m2 c2))
  have HO3 := Lib.hid (ho2.put4 w.heap.size (.int .i64 k2) (.int .i64 n2) (.string s2) (.slice a2 m2 c2))
  have HX3 := Lib.hid (HX2.out.all4 (.int .i64 k2) (.int .i64 n2) (.string s2) (.slice a2 m2 c2))
  have HSM := Lib.hid hsm2
  have HOK := Lib.hid hok2
  obtain ⟨r0, r1, r2, r3, rf⟩ := HX2.out.four
  clear htv ht2 ho2 hok2 hsm2
  obtain ⟨w3, hw3⟩ : ∃ w3, set4 w2 w.heap.size (.int .i64 k2) (.int .i64 n2) (.string s2) (.slice a2 m2 c2) = w3 := ⟨_, rfl⟩
  rw [hw3] at HT3 HV3 HO3 HX3
  obtain ⟨p0, p1, p2, p3, pf⟩ := HX3.out.four
  cases hM : TERMX xs 1200 s with
  | none =>
    obtain rfl : ok = false := by rw [HOK.out, hM]; rfl
    have HN := Lib.hid (show X = none by rw [← HXX.out, closed_none hM]; rfl)
    clear hM
    have CH := Lib.hid (comp_hide (w := w3.alloc (.cells #[.int .i64 k2, .int .i64 n2, .string s2, .slice a2 m2 c2] 31)) (D := D2) ⟨#[123, 125]⟩ (by decide) (HO3.out.2.mono (by simp)) (tms_one HO3.out.2 HV3.out _))
    go_wp2_with fail
    (try rw [hw3])
    clear hw3
    (go_wp2_with fail; go_fit (CH.out); rintro e w5 ⟨a5, c5, rfl, ht5, hb5⟩)
    have HB5 := Lib.hid (Ext.trans' (bel1' w3 _) hb5)
    have HV5 := Lib.hid ht5
    have HX5 := Lib.hid (HX3.out.ext HB5.out)
    clear hb5 ht5 p0 p1 p2 p3 pf r0 r1 r2 r3 rf CH
    obtain ⟨q0, q1, q2, q3, qf⟩ := HX5.out.four
    go_wp2
    refine bodyPost_ret (v := .tuple #[.agg #[.int .i64 2, .int .i64 0, .string ⟨#[123, 125]⟩, .slice a5 1 c5], .bool false]) (by rw [results_cell_tmp rfl]; go_simp) rfl ?_
    exact bdone_none (HT3.out.trans (Turn.below HB5.out)) (HO3.out.later HB5.out.size) HMd.out (Nat.le_refl _) HDB.out HV5.out HN.out
  | some q =>
    obtain ⟨⟨tq, lq⟩, s1⟩ := q
    obtain rfl : ok = true := by rw [HOK.out, hM]; rfl
    obtain ⟨rfl, rfl, hs2⟩ := HSM.out _ _ hM
    have hs3 := hs2.put4 HDB.out HMB2.out (.int .i64 k2) (.int .i64 n2) (.string s2) (.slice a2 m2 c2)
    rw [hw3] at hs3
    have HM := Lib.hid hM
    have HS3 := Lib.hid hs3
    clear hM hs2 hs3
    have CH := Lib.hid (comp_hide (w := w3.alloc (.cells #[.int .i64 k2, .int .i64 n2, .string s2, .slice a2 m2 c2] 31)) (D := D2) ⟨#[123, 125]⟩ (by decide) (HO3.out.2.mono (by simp)) (tms_one HO3.out.2 HV3.out _))
    go_wp2_with fail
    (try rw [hw3])
    clear hw3
    (go_wp2_with fail; go_fit (CH.out); rintro e w5 ⟨a5, c5, rfl, ht5, hb5⟩)
    have HB5 := Lib.hid (Ext.trans' (bel1' w3 _) hb5)
    have HV5 := Lib.hid ht5
    have HX5 := Lib.hid (HX3.out.ext HB5.out)
    clear hb5 ht5 p0 p1 p2 p3 pf r0 r1 r2 r3 rf CH
    have hs5 := HS3.out.later HB5.out
    have HTK := Lib.hid (takes_at hs5 [125])
    have HMD := Lib.hid hs5.md
    clear hs5
    cases hmk : isMark [125] (headR s1) with
    | false =>
      rw [hmk] at HTK
      have HN := Lib.hid (show X = none by rw [← HXX.out, closed_open HM.out hmk]; rfl)
      clear hmk
      (go_wp2_with fail; go_fit (HTK.out); rintro e w6 ⟨rfl, hs6, ht6⟩)
      obtain ⟨q0, q1, q2, q3, qf⟩ := (HX5.out.turn ht6 HMB2.out).four
      have HS6 := Lib.hid hs6
      have HT6 := Lib.hid ht6
      clear hs6 ht6
      go_wp2
      refine bodyPost_ret (v := .tuple #[.agg #[.int .i64 2, .int .i64 0, .string ⟨#[123, 125]⟩, .slice a5 1 c5], .bool false]) (by rw [results_cell_tmp rfl]; go_simp) rfl ?_
      exact bdone_none ((HT3.out.trans (Turn.below HB5.out)).trans HT6.out) HS6.out.okd HMd.out (Nat.le_refl _) HDB.out (TmV.stay (HT6.out.stays HMD.out) _ _ HV5.out) HN.out
    | true =>
      rw [hmk] at HTK
      have HN := Lib.hid (show X = some (.mk 2 0 ⟨#[123, 125]⟩ [t2], takesS [125] s1) by rw [← HXX.out, closed_done HM.out hmk]; rfl)
      clear hmk
      (go_wp2_with fail; go_fit (HTK.out); rintro e w6 ⟨rfl, hs6, ht6⟩)
      obtain ⟨q0, q1, q2, q3, qf⟩ := (HX5.out.turn ht6 HMB2.out).four
      have HS6 := Lib.hid hs6
      have HT6 := Lib.hid ht6
      clear hs6 ht6
      go_wp2
      refine bodyPost_ret (v := .tuple #[.agg #[.int .i64 2, .int .i64 0, .string ⟨#[123, 125]⟩, .slice a5 1 c5], .bool true]) (by rw [results_cell_tmp rfl]; go_simp) rfl ?_
      exact bdone_some ((HT3.out.trans (Turn.below HB5.out)).trans HT6.out) HS6.out HMd.out (Nat.le_refl _) HDB.out HMB2.out (TmV.stay (HT6.out.stays HMD.out) _ _ HV5.out) HN.out
set_option maxHeartbeats 2000000 in
theorem square_at {xs : List O} {n : Nat} (ih : IHT xs n) {D M : Nat → Bool} {w : World} {rb : Nat} {s : RS} (h : St D M w rb xs s) (hlt : s.rest.length < n) :
    Calls Tryz.prog 99 #[.pointer (some ⟨rb, 0, none⟩), .string ⟨#[91]⟩] w (BPost D M w rb xs (rowR (TERMX xs) s)) := by
  obtain ⟨X, hX⟩ : ∃ X, rowR (TERMX xs) s = X := ⟨_, rfl⟩
  rw [hX]
  obtain ⟨w1, hw1, hb1, hz1, hx1⟩ := box_new w #[.int .i64 0, .int .i64 0, .string ⟨#[]⟩, .slice none 0 0] 31
  have h1 := h.box hb1 (Nat.le_refl _) hx1.lt
  have HMd := Lib.hid h.md
  have HMB := Lib.hid (Old.out h (Nat.le_refl _))
  have HT1 := Lib.hid (Turn.into (D := D) (M := M) hb1 (Nat.le_refl _))
  have HI := list_at ih h1 hlt
  rw [hX] at HI
  have HI := Lib.hid HI
  have HX1 := Lib.hid hx1
  clear h hX hlt ih h1 hx1 hb1 hz1
  go_enter Tryz.func99, Tryz.ntmps99
  go_wp2_with fail
  (try rw [hw1])
  clear hw1
  (go_wp2_with fail; go_fit (HI.out); rintro e w2 ⟨D2, M2, t2, v2, ok, rfl, htv, ht2, ho2, hok2, hsm2⟩)
  obtain ⟨k2, n2, s2, a2, m2, c2, rfl⟩ := htv.full
  have HDB := Lib.hid ((ht2.dd _ HX1.out.lt).trans (plusB_self D _))
  have HMB2 := Lib.hid ((ht2.mm _ HX1.out.lt).trans HMB.out)
  have HV2 := Lib.hid htv
  have HO2 := Lib.hid ho2
  have HT2 := Lib.hid (HT1.out.trans ht2)
  have HSM := Lib.hid hsm2
  obtain ⟨r0, r1, r2, r3, rf⟩ := (HX1.out.turn ht2 HMB.out).four
  clear htv ht2 ho2 hsm2
  cases X with
  | none =>
    obtain rfl : ok = false := hok2

    go_wp2
    refine bodyPost_ret (v := .tuple #[.agg #[.int .i64 k2, .int .i64 n2, .string s2, .slice a2 m2 c2], .bool false]) (by rw [results_cell_tmp rfl]; go_simp) rfl ?_
    exact bdone_none HT2.out HO2.out HMd.out (Nat.le_refl _) HDB.out HV2.out rfl
  | some q =>
    obtain ⟨tq, s1⟩ := q
    obtain rfl : ok = true := hok2
    obtain ⟨rfl, hs2⟩ := HSM.out _ _ rfl
    have HS2 := Lib.hid hs2
    clear hs2
    go_wp2
    refine bodyPost_ret (v := .tuple #[.agg #[.int .i64 k2, .int .i64 n2, .string s2, .slice a2 m2 c2], .bool true]) (by rw [results_cell_tmp rfl]; go_simp) rfl ?_
    exact bdone_some HT2.out HS2.out HMd.out (Nat.le_refl _) HDB.out HMB2.out HV2.out rfl
set_option maxHeartbeats 2000000 in
theorem other_at {xs : List O} {D M : Nat → Bool} {w : World} {rb : Nat} {s : RS} (h : St D M w rb xs s) (b : List UInt8) (h1 : (b == [40]) = false) (h2 : (b == [123]) = false) (h3 : (b == [91]) = false) :
    Calls Tryz.prog 99 #[.pointer (some ⟨rb, 0, none⟩), .string ⟨b.toArray⟩] w (BPost D M w rb xs none) := by
  obtain ⟨w1, hw1, hb1, hz1, hx1⟩ := box_new w #[.int .i64 0, .int .i64 0, .string ⟨#[]⟩, .slice none 0 0] 31
  have hO := h.okd.box hb1.size hx1.lt
  have HO := Lib.hid hO
  have HMd := Lib.hid h.md
  have HT1 := Lib.hid (Turn.into (D := D) (M := M) hb1 (Nat.le_refl _))
  obtain ⟨r0, r1, r2, r3, rf⟩ := hx1.four
  clear h hx1 hb1 hz1 hO
  go_enter Tryz.func99, Tryz.ntmps99
  go_wp2_with fail
  (try rw [hw1])
  clear hw1
  go_wp2
  refine bodyPost_ret (v := .tuple #[.agg #[.int .i64 0, .int .i64 0, .string ⟨#[]⟩, .slice none 0 0], .bool false]) (by rw [results_cell_tmp rfl]; go_simp) rfl ?_
  exact bdone_none HT1.out HO.out HMd.out (Nat.le_refl _) (plusB_self D _) (leaf_tm _ (k := 0) (n := 0) (s := ⟨#[]⟩) i64_0 i64_0 (by decide)) rfl
theorem bracketed_at {xs : List O} {n : Nat} (ih : IHT xs n) {D M : Nat → Bool} {w : World} {rb : Nat} {s : RS} (h : St D M w rb xs s) (hlt : s.rest.length < n) (b : List UInt8) :
    Calls Tryz.prog 99 #[.pointer (some ⟨rb, 0, none⟩), .string ⟨b.toArray⟩] w (BPost D M w rb xs (bracketR (TERMX xs) b s)) := by
  unfold bracketR
  by_cases h1 : b = [40]
  · rw [if_pos h1]
    subst h1
    exact paren_at ih h hlt
  · rw [if_neg h1]
    by_cases h2 : b = [123]
    · rw [if_pos h2]
      subst h2
      exact brace_at ih h hlt
    · rw [if_neg h2]
      by_cases h3 : b = [91]
      · rw [if_pos h3]
        subst h3
        exact square_at ih h hlt
      · rw [if_neg h3]
        exact other_at h b (beq_false_of_ne h1) (beq_false_of_ne h2) (beq_false_of_ne h3)
end Go.Proofs.YtaojalicnnnkmaaGreatDoor
/- The project's reader: named: a number less than 0, a name with its arguments, a name in quotes. -/
namespace Go.Proofs.YtaojalicnnnkmaaGreatDoor
open Go.Shelf Go.RowKit
set_option linter.unusedVariables false

theorem box_plus {D M : Nat → Bool} {w w1 w2 : World} (hb1 : Below w.heap.size w w1) (hb2 : Below w1.heap.size w1 w2) : Turn D M (plusB D w1.heap.size) M w w2 := Turn.into (Ext.trans' hb1 hb2) hb1.size
set_option maxRecDepth 100000 in
set_option maxHeartbeats 2000000 in
theorem named_minus {xs : List O} {D M : Nat → Bool} {w : World} {rb : Nat} {s : RS} (h : St D M w rb xs s) (q : TokP) (hq : tokOk q) (most : Int) (hm : isMinusR q (headR s) = true) :
    Calls Tryz.prog 96 #[.pointer (some ⟨rb, 0, none⟩), tkVal q, .int .i64 most] w (TPost D M w rb xs (some ((iT (-((headR s).1.n : Int)), 0), dropR s))) := by
  have hn := h.nice.head.1
  obtain ⟨x, hx⟩ : ∃ x, headR s = x := ⟨_, rfl⟩
  obtain ⟨w1, hw1, hb1, hz1, hx1⟩ := box_new w #[.int .i64 (q.1.kind : Int), .string ⟨q.1.text.toArray⟩, .int .i64 (q.1.n : Int), .bool q.1.opens, .int .i64 (q.2 : Int)] 125
  obtain ⟨w2, hw2, hb2, hz2, hx2⟩ := box_new w1 #[.int .i64 0, .int .i64 0, .string ⟨#[]⟩, .slice none 0 0] 31
  have h2 := h.box (Ext.trans' hb1 hb2) hb1.size hx2.lt
  have HMd := Lib.hid h.md
  have HMB := Lib.hid (Old.out h hb1.size)
  have HSB := Lib.hid hb1.size
  have HT2 := Lib.hid (box_plus (D := D) (M := M) hb1 hb2)
  have HM := isMinus_at h2 q hq.2.2
  rw [hm] at HM
  have HM := Lib.hid HM
  have HTK := Lib.hid (fun wq hq => take_at (h2.later (w' := wq) hq))
  rw [hx] at HTK hn
  rw [hx]
  have HX := Lib.hid hx2
  have HX1 := Lib.hid (hx1.ext hb2)
  obtain ⟨c0, c1, c2, c3, c4, cf⟩ := HX1.out.five
  have HV := Lib.hid (fun wq => int_at wq (-(x.1.n : Int)))
  have hneg : IntKind.i64.wrap (-(x.1.n : Int)) = -(x.1.n : Int) := by rw [IntKind.wrap_i64]; omega
  have HN := Lib.hid hn
  have hfd : ∀ wq : World, (Instr.field 125 (.agg #[.int .i64 (x.1.kind : Int), .string ⟨x.1.text.toArray⟩, .int .i64 (x.1.n : Int), .bool x.1.opens, .int .i64 (x.2 : Int)]) 2).run Tryz.prog wq = .ok (.int .i64 (x.1.n : Int)) wq := fun _ => by kernel_rfl
  clear h hq hx hb1 hb2 hz1 hz2 hx1 hx2 h2 hm hn
  go_enter Tryz.func96, Tryz.ntmps96
  go_wp2_with fail
  (try rw [hw1])
  (try rw [hw2])
  clear hw1 hw2
  (go_wp2_with fail; go_fit (HM.out); rintro e w3 ⟨rfl, hb3⟩)
  (go_wp2_with fail; go_fit (HTK.out _ hb3); rintro e w4 ⟨rfl, hs4, ht4⟩)
  simp only [tkVal]
  have HS4 := Lib.hid hs4
  have HT4 := Lib.hid ((HT2.out.trans (Turn.below hb3)).trans ht4)
  have HX4 := Lib.hid ((HX.out.ext hb3).turn ht4 HMB.out)
  clear hs4 ht4 hb3
  (go_wp2_with fail; go_fit (HV.out _); rintro e w5 ⟨rfl, hb5⟩)
  obtain ⟨r0, r1, r2, r3, rf⟩ := (HX4.out.ext hb5).four
  have HB5 := Lib.hid hb5
  clear hb5
  go_wp2
  refine bodyPost_ret (v := .tuple #[.agg #[.int .i64 1, .int .i64 (-(x.1.n : Int)), .string ⟨#[]⟩, .slice none 0 0], .int .i64 0, .bool true]) (by rw [results_cell3 rfl]; go_simp) rfl ?_
  exact tdone_some (HT4.out.trans (Turn.below HB5.out)) (HS4.out.later HB5.out) HMd.out HSB.out (plusB_self D _) HMB.out (leaf_tm _ i64_1 (by unfold I64; have := HN.out; omega) (by decide)) rfl
set_option maxRecDepth 100000 in
set_option maxHeartbeats 2000000 in
theorem named_quoted {xs : List O} {D M : Nat → Bool} {w : World} {rb : Nat} {s : RS} (h : St D M w rb xs s) (q : TokP) (hq : tokOk q) (most : Int) (hm : isMinusR q (headR s) = false) (ho : q.1.opens = false) (hk : q.1.kind = 2) :
    Calls Tryz.prog 96 #[.pointer (some ⟨rb, 0, none⟩), tkVal q, .int .i64 most] w (TPost D M w rb xs (some ((aT q.1.text, 0), s))) := by
  obtain ⟨w1, hw1, hb1, hz1, hx1⟩ := box_new w #[.int .i64 (q.1.kind : Int), .string ⟨q.1.text.toArray⟩, .int .i64 (q.1.n : Int), .bool q.1.opens, .int .i64 (q.2 : Int)] 125
  obtain ⟨w2, hw2, hb2, hz2, hx2⟩ := box_new w1 #[.int .i64 0, .int .i64 0, .string ⟨#[]⟩, .slice none 0 0] 31
  have h2 := h.box (Ext.trans' hb1 hb2) hb1.size hx2.lt
  have HMd := Lib.hid h.md
  have HMB := Lib.hid (Old.out h hb1.size)
  have HSB := Lib.hid hb1.size
  have HT2 := Lib.hid (box_plus (D := D) (M := M) hb1 hb2)
  have HM := isMinus_at h2 q hq.2.2
  rw [hm] at HM
  have HM := Lib.hid HM
  have HS2 := Lib.hid h2
  have HX := Lib.hid hx2
  have HX1 := Lib.hid (hx1.ext hb2)
  obtain ⟨c0, c1, c2, c3, c4, cf⟩ := HX1.out.five
  have HV := Lib.hid (fun wq => atom_at wq ⟨q.1.text.toArray⟩)
  have HQ := Lib.hid hq
  have k2 : ((q.1.kind : Int) == 2) = true := by rw [hk]; rfl
  have HO := Lib.hid ho
  clear h hq hb1 hb2 hz1 hz2 hx1 hx2 h2 hm ho hk
  go_enter Tryz.func96, Tryz.ntmps96
  go_wp2_with fail
  (try rw [hw1])
  (try rw [hw2])
  clear hw1 hw2
  (go_wp2_with fail; go_fit (HM.out); rintro e w3 ⟨rfl, hb3⟩)
  obtain ⟨c0, c1, c2, c3, c4, cf⟩ := (HX1.out.ext hb3).five
  rw [HO.out] at c3
  have HB3 := Lib.hid hb3
  clear hb3
  (go_wp2_with fail; go_fit (HV.out _); rintro e w5 ⟨rfl, hb5⟩)
  obtain ⟨r0, r1, r2, r3, rf⟩ := ((HX.out.ext HB3.out).ext hb5).four
  have HB5 := Lib.hid (Ext.trans' HB3.out hb5)
  clear hb5
  go_wp2
  refine bodyPost_ret (v := .tuple #[.agg #[.int .i64 2, .int .i64 0, .string ⟨q.1.text.toArray⟩, .slice none 0 0], .int .i64 0, .bool true]) (by rw [results_cell3 rfl]; go_simp) rfl ?_
  exact tdone_some (HT2.out.trans (Turn.below HB5.out)) (HS2.out.later HB5.out) HMd.out HSB.out (plusB_self D _) HMB.out (leaf_tm _ i64_2 i64_0 (by have := HQ.out.2.1; show q.1.text.toArray.size ≤ _; simp; unfold BIG; omega)) rfl
end Go.Proofs.YtaojalicnnnkmaaGreatDoor
