import Derived.Test.YtaojalicnnnkmaaGreatDoorHgaak
import Derived.Deep.Cut
import Derived.Deep.CutRange
import Derived.Deep.DeepCutAuto
set_option linter.unusedVariables false
set_option linter.unusedSimpArgs false
/- Stage 14's law: its own copy of goals, walked. -/
namespace Go.Proofs.YtaojalicnnnkmaaGreatDoor
open Go.RowKit
set_option linter.unusedVariables false

theorem stays_bl {w w' : World} (hb : Below w.heap.size w w') : Stays w w' := ⟨hb.size, fun x v hv => cell_later hb hv⟩
set_option maxHeartbeats 16000000 in
set_option maxRecDepth 100000 in
theorem goals_step (M : Nat) (ih : ∀ (r : List Gl), cntL r < M → ∀ (D : Nat → Bool) (w : World) (v : Value), Old D w → GoalsV w r v → Calls Tryz.prog 21 #[v] w fun e w' => ∃ v', e = .returned v' ∧ GoalsV (hide D w') r v' ∧ Below w.heap.size w w')
    (l : List Gl) (hl : cntL l < M + 1) (D : Nat → Bool) (w : World) (v : Value) (hD : Old D w) (hv : GoalsV w l v) : Calls Tryz.prog 21 #[v] w fun e w' => ∃ v', e = .returned v' ∧ GoalsV (hide D w') l v' ∧ Below w.heap.size w w' := by
  obtain ⟨a, c, rfl, h1, h2, h3⟩ := hv.len
  unfold maxLen at h2
  unfold BIG at h3
  have HIH := Lib.hid ih
  have HL := Lib.hid hl
  have HV := Lib.hid hv
  have HD := Lib.hid hD
  obtain ⟨m, hm⟩ : ∃ m, l.length = m := ⟨_, rfl⟩
  have HM := Lib.hid hm
  rw [hm] at h1 h3 HV ⊢
  obtain ⟨i0, hi0, hz0, hs0, hb0⟩ := info_parts infoGoalR
  obtain ⟨i1, hi1, hz1, hs1, hb1⟩ := info_parts infoGoalsR
  have HI0 := Lib.hid (show GI w l D 0 0 none w from ⟨D, [], rfl, rfl, RowQ.none _ _ _ _, Turn.refl _ _ _, okd_no hD⟩)
  clear ih hl hv hD hm
  go_enter Tryz.func21, Tryz.ntmps21
  go_wp2_with fail
  go_loopw [3, 4, 5, 6] (fun r i _ _ wr => ∃ (j c' : Nat) (a' : Option Addr), j ≤ m ∧ r = .slice a' j c' ∧ i = .int .i64 j ∧ Hid (GI w l D j c' a' wr)) (fun _ i _ _ _ => m - (intOf i).toNat)
  case atStart => exact ⟨0, 0, none, Nat.zero_le _, rfl, rfl, HI0⟩
  case round =>
    obtain ⟨j, c', a', hj, rfl, rfl, HP⟩ := hrel
    clear HI0
    by_cases hjm : j < m
    · have hjm2 : (j : Int) < m := by omega
      obtain ⟨g, hg⟩ : ∃ g, l[j]? = some g := ⟨_, List.getElem?_eq_getElem (by rw [HM.out]; exact hjm)⟩
      obtain ⟨D1, ps, hpl, hpm, hrow, htn, hok⟩ := HP.out
      have hbw : Below w.heap.size w wr := htn.bel (Nat.le_refl _) (fun _ _ => rfl)
      have hvr := HV.out.stay (stays_bl hbw)
      obtain ⟨b, off, kt, nt, st, at_, mt, ct, ar, mr, cr, rfl, hblt, d0, d1, d2, d3, d4, d5, hk64, htm, hrows⟩ := hvr.get hg
      have hgl : mr = g.l.length := by obtain ⟨_, _, e, _⟩ := hrows.len; cases e; rfl
      have hmrb : mr ≤ 9223372036854775807 := by obtain ⟨_, _, e, h5, h6, _⟩ := hrows.len; cases e; unfold maxLen at h6; omega
      have hmr24 : mr * 24 ≤ 140737488351232 := by obtain ⟨_, _, e, _, _, h6⟩ := hrows.len; cases e; unfold BIG at h6; omega
      have HG := Lib.hid (And.intro hg hgl)
      have HPS := Lib.hid (And.intro hpl (And.intro hpm (And.intro hrow (And.intro htn hok))))
      have HR := Lib.hid (And.intro hk64 hrows)
      have HBL := Lib.hid hblt
      have HC5 := Lib.hid (fun (wx : World) (hb : Below wr.heap.size wr wx) => (show wx.cell? ⟨b, off + j * 6, none⟩ = some (.int .i64 g.kind) ∧ wx.cell? ⟨b, off + j * 6 + 1, none⟩ = some (.int .i64 kt) ∧ wx.cell? ⟨b, off + j * 6 + 2, none⟩ = some (.int .i64 nt) ∧ wx.cell? ⟨b, off + j * 6 + 3, none⟩ = some (.string st) ∧ wx.cell? ⟨b, off + j * 6 + 4, none⟩ = some (.slice at_ mt ct) from
        ⟨cell_later hb d0, cell_later hb d1, cell_later hb d2, cell_later hb d3, cell_later hb d4⟩))
      have HD5 := Lib.hid d5
      have HOK := Lib.hid hok.2
      have HOWN := Lib.hid (fun (D' : Nat → Bool) (wq : World) (hq : Below wr.heap.size wr wq) (ho : Old D' wq) => own14_at g.t D' wq _ ho (TmV.ext hq _ _ htm))
      obtain ⟨kd, hkd⟩ : ∃ kd, g.kind = kd := ⟨_, rfl⟩
      have HKD := Lib.hid hkd
      rw [hkd] at HC5
      clear hpl hpm hrow htn hok hbw hvr hgl htm hrows hg hk64 hblt d0 d1 d2 d3 d4 d5 hkd HP
      obtain ⟨d0, d1, d2, d3, d4⟩ := HC5.out wr (Below.refl _ _)
      go_upto_region 5 with fail
      go_cut [5] from 13 to 24 (fun s wx => GB D1 wr g s wx)
      case first =>
        refine wp_region_held_drew (S := (fun w' => (w'.cell? ⟨b, off + j * 6, none⟩ = some (.int .i64 kd) ∧ w'.cell? ⟨b, off + j * 6 + 1, none⟩ = some (.int .i64 kt) ∧ w'.cell? ⟨b, off + j * 6 + 2, none⟩ = some (.int .i64 nt) ∧ w'.cell? ⟨b, off + j * 6 + 3, none⟩ = some (.string st) ∧ w'.cell? ⟨b, off + j * 6 + 4, none⟩ = some (.slice at_ mt ct)) ∧ Below wr.heap.size wr w')) (by kernel_rfl) ⟨⟨d0, d1, d2, d3, d4⟩, (Below.refl _ _).drew⟩ (fun hHeld => ?_)
        first | (refine held_t (i := 0) hHeld ?_; apply Exists.intro; refine ⟨fun wq hq => ?_, ?_⟩; (focus ((try dsimp only at hq); go_simp; (first | done | with_reducible rfl | fail)))) | refine held_s (i := 0) hHeld ?_ | fail
        first | (refine held_t (i := 1) hHeld ?_; apply Exists.intro; refine ⟨fun wq hq => ?_, ?_⟩; (focus ((try dsimp only at hq); go_simp; (first | done | with_reducible rfl | fail)))) | refine held_s (i := 1) hHeld ?_ | fail
        first | (refine held_t (i := 2) hHeld ?_; apply Exists.intro; refine ⟨fun wq hq => ?_, ?_⟩; (focus ((try dsimp only at hq); go_simp; (first | done | with_reducible rfl | fail)))) | refine held_s (i := 2) hHeld ?_ | fail
        first | (refine held_t (i := 3) hHeld ?_; apply Exists.intro; refine ⟨fun wq hq => ?_, ?_⟩; (focus ((try dsimp only at hq); go_simp; (first | done | with_reducible rfl | fail)))) | refine held_s (i := 3) hHeld ?_ | fail
        first | (refine held_t (i := 4) hHeld ?_; apply Exists.intro; refine ⟨fun wq hq => ?_, ?_⟩; (focus ((try dsimp only at hq); go_simp; (first | done | with_reducible rfl | fail)))) | refine held_s (i := 4) hHeld ?_ | fail
        first | (refine held_t (i := 5) hHeld ?_; apply Exists.intro; refine ⟨fun wq hq => ?_, ?_⟩; (focus ((try dsimp only at hq); go_simp; (first | done | with_reducible rfl | fail)))) | refine held_s (i := 5) hHeld ?_ | fail
        first | (refine held_t (i := 6) hHeld ?_; apply Exists.intro; refine ⟨fun wq hq => ?_, ?_⟩; (focus ((try dsimp only at hq); go_simp; (first | done | with_reducible rfl | fail)))) | refine held_s (i := 6) hHeld ?_ | fail
        first | (refine held_t (i := 7) hHeld ?_; apply Exists.intro; refine ⟨fun wq hq => ?_, ?_⟩; (focus ((try dsimp only at hq); go_simp; (first | done | with_reducible rfl | fail)))) | refine held_s (i := 7) hHeld ?_ | fail
        first | (refine held_t (i := 8) hHeld ?_; apply Exists.intro; refine ⟨fun wq hq => ?_, ?_⟩; (focus ((try dsimp only at hq); go_simp; (first | done | with_reducible rfl | fail)))) | refine held_s (i := 8) hHeld ?_ | fail
        first | (refine held_t (i := 9) hHeld ?_; apply Exists.intro; refine ⟨fun wq hq => ?_, ?_⟩; (focus ((try dsimp only at hq); go_simp; (first | done | with_reducible rfl | fail)))) | refine held_s (i := 9) hHeld ?_ | fail
        try simp only [Act.put, List.setIfInBounds_toArray, List.set_cons_zero, List.set_cons_succ]
        obtain ⟨wd, hwd⟩ : ∃ wd, wr.drew = wd := ⟨_, rfl⟩
        rw [hwd] at hHeld ⊢
        clear hwd
        have L0 := Lib.hid hHeld.2
        have z0 := hHeld.2.size
        refine wpAnyH_ready (rs := [10, 12]) (by kernel_rfl) (by simp) ?_
        refine AllReadyH.cons (by simp only [List.getElem?_toArray, List.getElem?_cons_zero, List.getElem?_cons_succ]; rfl) (fun K hK => ?_) (AllReadyH.cons (by simp only [List.getElem?_toArray, List.getElem?_cons_zero, List.getElem?_cons_succ]; rfl) (fun K hK => ?_) AllReadyH.nil)
        · go_simp
          (go_at_call 17; refine (HOWN.out D1 _ hHeld.2 (by exact HOK.out.mono hHeld.2.size)).mono ?_; rintro e wb ⟨v5, rfl, hv5, hb5⟩; obtain ⟨k1, n1, s1, a1, m1, c1, rfl, ek, en, es, ep⟩ := four_of hv5; have HV5 := Lib.hid hv5; have HB5 := Lib.hid hb5; have hs5 := hb5.size; clear hv5 ek en es ep hb5)
          refine hK.out _ _ (⟨HC5.out _ (Ext.trans' hHeld.2 HB5.out), Ext.trans' hHeld.2 HB5.out⟩) (fun hHeld => ?_)
          clear hK K
          try simp only [Act.put, List.setIfInBounds_toArray, List.set_cons_zero, List.set_cons_succ]
          first | (refine held_t (i := 11) hHeld ?_; apply Exists.intro; refine ⟨fun wq hq => ?_, ?_⟩; (focus ((try dsimp only at hq); go_simp; (first | done | with_reducible rfl | fail)))) | refine held_s (i := 11) hHeld ?_ | fail
          try simp only [Act.put, List.setIfInBounds_toArray, List.set_cons_zero, List.set_cons_succ]
          refine held_c 12 fun K hK => ?_
          go_simp
          skip
          refine hK.out _ _ (⟨HC5.out _ (Ext.trans' hHeld.2 (bel1' _ _)), Ext.trans' hHeld.2 (bel1' _ _)⟩) (fun hHeld => ?_)
          clear hK K
          try simp only [Act.put, List.setIfInBounds_toArray, List.set_cons_zero, List.set_cons_succ]
          obtain ⟨wa, hwa, hba, hza, hxa⟩ := box_new wb #[.int .i64 0, .int .i64 0, .int .i64 0, .string ⟨#[]⟩, .slice none 0 0, .slice none 0 0] 80
          rw [hwa] at hHeld ⊢
          have hla := hxa.lt
          have HTD := Lib.hid (gb_done (D1 := D1) (g := g) (bg := wb.heap.size) (by omega) hla hxa (TmV.stay (Stays.below hba fun x hx hx' => (plusB_ne (by omega)).trans hx') _ _ HV5.out) hHeld.2)
          obtain ⟨p0, p1, p2, p3, p4, p5, pf⟩ := hxa.six
          rw [HKD.out] at HTD
          have hS4 := Lib.hid hHeld.2
          clear hwa hba hza hxa
          refine held_c 13 fun K hK => ?_
          go_simp
          skip
          refine hK.out _ _ (⟨HC5.out _ (Below.set6 hS4.out (by omega) _ _ _ _ _ _), Below.set6 hS4.out (by omega) _ _ _ _ _ _⟩) (fun hHeld => ?_)
          clear hK K
          try simp only [Act.put, List.setIfInBounds_toArray, List.set_cons_zero, List.set_cons_succ]
          refine wpAnyH_done (by kernel_rfl) ?_ _
          clear hHeld p0 p1 p2 p3 p4 p5 pf hS4 d0 d1 d2 d3 d4
          go_wp2
          all_goals go_meet
          exact HTD.out
        · go_simp
          skip
          refine hK.out _ _ (⟨HC5.out _ (Ext.trans' hHeld.2 (bel1' _ _)), Ext.trans' hHeld.2 (bel1' _ _)⟩) (fun hHeld => ?_)
          clear hK K
          try simp only [Act.put, List.setIfInBounds_toArray, List.set_cons_zero, List.set_cons_succ]
          obtain ⟨wa, hwa, hba, hza, hxa⟩ := box_new wd #[.int .i64 0, .int .i64 0, .int .i64 0, .string ⟨#[]⟩, .slice none 0 0, .slice none 0 0] 80
          rw [hwa] at hHeld ⊢
          have hla := hxa.lt
          have hsa := hba.size
          have HXA := Lib.hid hxa
          have HOP := Lib.hid (show Old (plusB D1 wd.heap.size) wa from fun x hx => (plusB_ne (by omega)).trans (HOK.out x (by omega)))
          clear hwa hba hza hxa
          refine held_c 10 fun K hK => ?_
          go_simp
          (go_at_call 17; refine (HOWN.out (plusB D1 wd.heap.size) _ hHeld.2 (HOP.out)).mono ?_; rintro e wb ⟨v5, rfl, hv5, hb5⟩; obtain ⟨k1, n1, s1, a1, m1, c1, rfl, ek, en, es, ep⟩ := four_of hv5; have HV5 := Lib.hid hv5; have HB5 := Lib.hid hb5; have hs5 := hb5.size; clear hv5 ek en es ep hb5)
          refine hK.out _ _ (⟨HC5.out _ (Ext.trans' hHeld.2 HB5.out), Ext.trans' hHeld.2 HB5.out⟩) (fun hHeld => ?_)
          clear hK K
          try simp only [Act.put, List.setIfInBounds_toArray, List.set_cons_zero, List.set_cons_succ]
          have HTD := Lib.hid (gb_done (D1 := D1) (g := g) (bg := wd.heap.size) (by omega) (by omega) (HXA.out.ext HB5.out) HV5.out hHeld.2)
          obtain ⟨p0, p1, p2, p3, p4, p5, pf⟩ := (HXA.out.ext HB5.out).six
          rw [HKD.out] at HTD
          have hS4 := Lib.hid hHeld.2
          first | (refine held_t (i := 11) hHeld ?_; apply Exists.intro; refine ⟨fun wq hq => ?_, ?_⟩; (focus ((try dsimp only at hq); go_simp; (first | done | with_reducible rfl | fail)))) | refine held_s (i := 11) hHeld ?_ | fail
          try simp only [Act.put, List.setIfInBounds_toArray, List.set_cons_zero, List.set_cons_succ]
          refine held_c 13 fun K hK => ?_
          go_simp
          skip
          refine hK.out _ _ (⟨HC5.out _ (Below.set6 hS4.out (by omega) _ _ _ _ _ _), Below.set6 hS4.out (by omega) _ _ _ _ _ _⟩) (fun hHeld => ?_)
          clear hK K
          try simp only [Act.put, List.setIfInBounds_toArray, List.set_cons_zero, List.set_cons_succ]
          refine wpAnyH_done (by kernel_rfl) ?_ _
          clear hHeld p0 p1 p2 p3 p4 p5 pf hS4 d0 d1 d2 d3 d4
          go_wp2
          all_goals go_meet
          exact HTD.out
      case rest =>
        obtain ⟨bg, n1, k1, s1, a1, m1, c1, rfl, hbg, hblt, hbx, htm, hbw⟩ := hcut
        generalize wc = w5 at *
        have HBL5 := Lib.hid hblt
        have hbb : b < bg := Nat.lt_of_lt_of_le HBL.out hbg
        have hbgs : bg < w5.heap.size := hblt
        have HBG := Lib.hid hbg
        have hwr5 := hbw.size
        have HIN0 := Lib.hid (show InR g.t g.l g.kind D1 wr bg k1 n1 s1 a1 m1 c1 w5.heap.size 0 0 none (plusB D1 bg) [] w5 from
          { len := rfl, fst := rfl, box := hbx, row := RowQ.none _ _ _ _, tn := Turn.into hbw hbg, ok := (okd_no HOK.out).box hbw.size hblt, hid := plusB_self _ _, sz := Nat.le_refl _, tm := htm })
        clear hblt hbx htm hbw d0 d1 d2 d3 d4 HC5 HOWN
        generalize wr = wr0 at *
        go_wp2_with fail
        go_loopw [6] (fun i wr => ∃ (q c2 : Nat) (a2 : Option Addr) (D2 : Nat → Bool) (qs : List (List Gl × Value)), q ≤ mr ∧ i = .int .i64 q ∧ Hid (InR g.t g.l g.kind D1 wr0 bg k1 n1 s1 a1 m1 c1 w5.heap.size q c2 a2 D2 qs wr)) (fun i _ => mr - (intOf i).toNat)
        case atStart => exact ⟨0, 0, none, _, [], Nat.zero_le _, rfl, HIN0⟩
        case round =>
          obtain ⟨q, c2, a2, D2, qs, hq, rfl, HIN⟩ := hrel
          clear HIN0
          have hbel := HIN.out.tn.bel (n := wr0.heap.size) (Nat.le_refl _) (fun _ _ => rfl)
          have HBE := Lib.hid hbel
          have d5 := cell_later hbel HD5.out
          obtain ⟨x0, x1, x2, x3, x4, x5, xf⟩ := HIN.out.box.six
          by_cases hqm : q < mr
          · have hqm2 : (q : Int) < mr := by omega
            obtain ⟨r, hr⟩ : ∃ r, g.l[q]? = some r := ⟨_, List.getElem?_eq_getElem (by rw [← HG.out.2]; exact hqm)⟩
            obtain ⟨b2, off2, a3, c3, rfl, hb2, e0, hgv⟩ := HR.out.2.get hr
            have HRX := Lib.hid hr
            have e1 := cell_later hbel e0
            have hlt := cnt_row (List.mem_of_getElem? HG.out.1) (List.mem_of_getElem? hr)
            have HC := Lib.hid (fun (wq : World) (hq : Below wr.heap.size wr wq) => HIH.out r (by have := HL.out; omega) D2 wq _ (HIN.out.ok.2.mono hq.size) (hgv.stay (stays_bl (Ext.trans' hbel hq))))
            have hb2g : b2 < bg := Nat.lt_of_lt_of_le hb2 HBG.out
            have hbB : b < w5.heap.size := by omega
            have hb2B : b2 < w5.heap.size := by omega
            have hbn : b ≠ bg := by omega
            have hb2n : b2 ≠ bg := by omega
            have HROW := Lib.hid (fun (wq : World) (hq : Below wr.heap.size wr wq) (o : Obj) => HIN.out.own hq o)
            have HSZ := Lib.hid HIN.out.sz
            clear hr hgv hlt e0 hb2 hbel
            go_wp2_with fail
            refine wp_region_held_drew (S := fun w' => w'.cell? ⟨b, off + j * 6 + 5, none⟩ = some (.slice (some ⟨b2, off2, none⟩) mr cr) ∧ w'.cell? ⟨b2, off2 + q, none⟩ = some (.slice a3 r.length c3)) (by kernel_rfl) ⟨d5, e1⟩ (fun hHeld => ?_)
            first | (refine held_t (i := 0) hHeld ?_; apply Exists.intro; refine ⟨fun wq hq => ?_, ?_⟩; (focus ((try dsimp only at hq); go_simp; (first | done | with_reducible rfl | fail)))) | refine held_s (i := 0) hHeld ?_ | fail
            first | (refine held_t (i := 2) hHeld ?_; apply Exists.intro; refine ⟨fun wq hq => ?_, ?_⟩; (focus ((try dsimp only at hq); go_simp; (first | done | with_reducible rfl | fail)))) | refine held_s (i := 2) hHeld ?_ | fail
            first | (refine held_t (i := 3) hHeld ?_; apply Exists.intro; refine ⟨fun wq hq => ?_, ?_⟩; (focus ((try dsimp only at hq); go_simp; (first | done | with_reducible rfl | fail)))) | refine held_s (i := 3) hHeld ?_ | fail
            first | (refine held_t (i := 4) hHeld ?_; apply Exists.intro; refine ⟨fun wq hq => ?_, ?_⟩; (focus ((try dsimp only at hq); go_simp; (first | done | with_reducible rfl | fail)))) | refine held_s (i := 4) hHeld ?_ | fail
            first | (refine held_t (i := 5) hHeld ?_; apply Exists.intro; refine ⟨fun wq hq => ?_, ?_⟩; (focus ((try dsimp only at hq); go_simp; (first | done | with_reducible rfl | fail)))) | refine held_s (i := 5) hHeld ?_ | fail
            first | (refine held_t (i := 6) hHeld ?_; apply Exists.intro; refine ⟨fun wq hq => ?_, ?_⟩; (focus ((try dsimp only at hq); go_simp; (first | done | with_reducible rfl | fail)))) | refine held_s (i := 6) hHeld ?_ | fail
            first | (refine held_t (i := 7) hHeld ?_; apply Exists.intro; refine ⟨fun wq hq => ?_, ?_⟩; (focus ((try dsimp only at hq); go_simp; (first | done | with_reducible rfl | fail)))) | refine held_s (i := 7) hHeld ?_ | fail
            first | (refine held_t (i := 8) hHeld ?_; apply Exists.intro; refine ⟨fun wq hq => ?_, ?_⟩; (focus ((try dsimp only at hq); go_simp; (first | done | with_reducible rfl | fail)))) | refine held_s (i := 8) hHeld ?_ | fail
            first | (refine held_t (i := 9) hHeld ?_; apply Exists.intro; refine ⟨fun wq hq => ?_, ?_⟩; (focus ((try dsimp only at hq); go_simp; (first | done | with_reducible rfl | fail)))) | refine held_s (i := 9) hHeld ?_ | fail
            try simp only [Act.put, List.setIfInBounds_toArray, List.set_cons_zero, List.set_cons_succ]
            refine wpAnyH_ready (rs := [1, 10]) (by kernel_rfl) (by simp) ?_
            refine AllReadyH.cons (by simp only [List.getElem?_toArray, List.getElem?_cons_zero, List.getElem?_cons_succ]; rfl) (fun K hK => ?_) (AllReadyH.cons (by simp only [List.getElem?_toArray, List.getElem?_cons_zero, List.getElem?_cons_succ]; rfl) (fun K hK => ?_) AllReadyH.nil)
            · go_simp
              skip
              refine hK.out _ _ (hHeld) (fun hHeld => ?_)
              clear hK K
              try simp only [Act.put, List.setIfInBounds_toArray, List.set_cons_zero, List.set_cons_succ]
              refine held_c 10 fun K hK => ?_
              go_simp
              (go_at_call 21; refine (HC.out _ ((Below.refl _ _).drew)).mono ?_; rintro e w6 ⟨v6, rfl, hv6, hb6⟩; obtain ⟨a6, c6, rfl, _, _, _⟩ := hv6.len; have HV6 := Lib.hid hv6; have HB6 := Lib.hid (Ext.trans' (Below.refl wr.heap.size wr).drew hb6); obtain ⟨x0, x1, x2, x3, x4, x5, xf⟩ := (HIN.out.box.ext HB6.out).six; have x5' : ∀ o, (w6.alloc o).cell? ⟨bg, 5, none⟩ = some (.slice a2 q c2) := (fun o => Lib.cell?_alloc_some _ x5); have hs6 := HB6.out.size; clear hv6 hb6)
              refine hK.out _ _ (⟨cell_later HB6.out d5, cell_later HB6.out e1⟩) (fun hHeld => ?_)
              clear hK K
              try simp only [Act.put, List.setIfInBounds_toArray, List.set_cons_zero, List.set_cons_succ]
              refine held_c 11 fun K hK => ?_
              go_simp
              skip
              refine hK.out _ _ (⟨cell_later (bel1' _ _) hHeld.1, cell_later (bel1' _ _) hHeld.2⟩) (fun hHeld => ?_)
              clear hK K
              try simp only [Act.put, List.setIfInBounds_toArray, List.set_cons_zero, List.set_cons_succ]
              refine held_c 12 fun K hK => ?_
              (refine step_append_k (by rfl) _ _ _ (by rfl) w5.heap.size 48 i1 (.slice none 0 0) 1 24 Tryz.underlying78 hi1 hz1 hs1 (by decide) hb1 rfl (.slice a2 q c2) q (qs.flatMap rsCells) (by rfl) (HROW.out w6 HB6.out _) (some ⟨w6.heap.size, 0, none⟩) 1 1 [.slice a6 r.length c6] (by rfl) (by rfl) (Or.inr ⟨_, rfl, fun jj uu hu => cell_new w6 #[.slice a6 r.length c6] _ jj uu hu⟩) (by simp [Value.oneCell']) (by unfold maxLen; omega) (by omega) (by have := HSZ.out; simp; omega) (q + 1) (qs.flatMap rsCells ++ [.slice a6 r.length c6]) rfl rfl ?_; intro a7 c7 w7 hown7 hgrow7 hat7; have HN7 := Lib.hid (HIN.out.more hbgs HBG.out HRX.out HB6.out HV6.out hown7 hgrow7 hat7); obtain ⟨y0, y1, y2, y3, y4, y5, yf⟩ := HN7.out.1.six; clear hown7 hgrow7 hat7)
              refine hK.out _ _ (⟨by rw [World.cell?_of_block (HN7.out.2.1 _ hbB)]; exact cell_later HB6.out d5, by rw [World.cell?_of_block (HN7.out.2.1 _ hb2B)]; exact cell_later HB6.out e1⟩) (fun hHeld => ?_)
              clear hK K
              try simp only [Act.put, List.setIfInBounds_toArray, List.set_cons_zero, List.set_cons_succ]
              first | (refine held_t (i := 13) hHeld ?_; apply Exists.intro; refine ⟨fun wq hq => ?_, ?_⟩; (focus ((try dsimp only at hq); go_simp; (first | done | with_reducible rfl | fail)))) | refine held_s (i := 13) hHeld ?_ | fail
              try simp only [Act.put, List.setIfInBounds_toArray, List.set_cons_zero, List.set_cons_succ]
              refine held_c 14 fun K hK => ?_
              go_simp
              skip
              refine hK.out _ _ (⟨far_one hHeld.1 hbn, far_one hHeld.2 hb2n⟩) (fun hHeld => ?_)
              clear hK K
              try simp only [Act.put, List.setIfInBounds_toArray, List.set_cons_zero, List.set_cons_succ]
              refine wpAnyH_done (by kernel_rfl) ?_ _
              clear hHeld x0 x1 x2 x3 x4 x5 xf x5' y0 y1 y2 y3 y4 y5 yf d5 e1
              go_wp2
              go_roundw
              case rel => exact ⟨q + 1, c7, a7, _, _, hqm, by go_num, Lib.hid HN7.out.2.2⟩
              case measure => simp [intOf]; omega
            · go_simp
              (go_at_call 21; refine (HC.out _ ((Below.refl _ _).drew)).mono ?_; rintro e w6 ⟨v6, rfl, hv6, hb6⟩; obtain ⟨a6, c6, rfl, _, _, _⟩ := hv6.len; have HV6 := Lib.hid hv6; have HB6 := Lib.hid (Ext.trans' (Below.refl wr.heap.size wr).drew hb6); obtain ⟨x0, x1, x2, x3, x4, x5, xf⟩ := (HIN.out.box.ext HB6.out).six; have x5' : ∀ o, (w6.alloc o).cell? ⟨bg, 5, none⟩ = some (.slice a2 q c2) := (fun o => Lib.cell?_alloc_some _ x5); have hs6 := HB6.out.size; clear hv6 hb6)
              refine hK.out _ _ (⟨cell_later HB6.out d5, cell_later HB6.out e1⟩) (fun hHeld => ?_)
              clear hK K
              try simp only [Act.put, List.setIfInBounds_toArray, List.set_cons_zero, List.set_cons_succ]
              refine wpAnyH_ready (rs := [1, 11]) (by kernel_rfl) (by simp) ?_
              refine AllReadyH.cons (by simp only [List.getElem?_toArray, List.getElem?_cons_zero, List.getElem?_cons_succ]; rfl) (fun K hK => ?_) (AllReadyH.cons (by simp only [List.getElem?_toArray, List.getElem?_cons_zero, List.getElem?_cons_succ]; rfl) (fun K hK => ?_) AllReadyH.nil)
              · go_simp
                skip
                refine hK.out _ _ (hHeld) (fun hHeld => ?_)
                clear hK K
                try simp only [Act.put, List.setIfInBounds_toArray, List.set_cons_zero, List.set_cons_succ]
                refine held_c 11 fun K hK => ?_
                go_simp
                skip
                refine hK.out _ _ (⟨cell_later (bel1' _ _) hHeld.1, cell_later (bel1' _ _) hHeld.2⟩) (fun hHeld => ?_)
                clear hK K
                try simp only [Act.put, List.setIfInBounds_toArray, List.set_cons_zero, List.set_cons_succ]
                refine held_c 12 fun K hK => ?_
                (refine step_append_k (by rfl) _ _ _ (by rfl) w5.heap.size 48 i1 (.slice none 0 0) 1 24 Tryz.underlying78 hi1 hz1 hs1 (by decide) hb1 rfl (.slice a2 q c2) q (qs.flatMap rsCells) (by rfl) (HROW.out w6 HB6.out _) (some ⟨w6.heap.size, 0, none⟩) 1 1 [.slice a6 r.length c6] (by rfl) (by rfl) (Or.inr ⟨_, rfl, fun jj uu hu => cell_new w6 #[.slice a6 r.length c6] _ jj uu hu⟩) (by simp [Value.oneCell']) (by unfold maxLen; omega) (by omega) (by have := HSZ.out; simp; omega) (q + 1) (qs.flatMap rsCells ++ [.slice a6 r.length c6]) rfl rfl ?_; intro a7 c7 w7 hown7 hgrow7 hat7; have HN7 := Lib.hid (HIN.out.more hbgs HBG.out HRX.out HB6.out HV6.out hown7 hgrow7 hat7); obtain ⟨y0, y1, y2, y3, y4, y5, yf⟩ := HN7.out.1.six; clear hown7 hgrow7 hat7)
                refine hK.out _ _ (⟨by rw [World.cell?_of_block (HN7.out.2.1 _ hbB)]; exact cell_later HB6.out d5, by rw [World.cell?_of_block (HN7.out.2.1 _ hb2B)]; exact cell_later HB6.out e1⟩) (fun hHeld => ?_)
                clear hK K
                try simp only [Act.put, List.setIfInBounds_toArray, List.set_cons_zero, List.set_cons_succ]
                first | (refine held_t (i := 13) hHeld ?_; apply Exists.intro; refine ⟨fun wq hq => ?_, ?_⟩; (focus ((try dsimp only at hq); go_simp; (first | done | with_reducible rfl | fail)))) | refine held_s (i := 13) hHeld ?_ | fail
                try simp only [Act.put, List.setIfInBounds_toArray, List.set_cons_zero, List.set_cons_succ]
                refine held_c 14 fun K hK => ?_
                go_simp
                skip
                refine hK.out _ _ (⟨far_one hHeld.1 hbn, far_one hHeld.2 hb2n⟩) (fun hHeld => ?_)
                clear hK K
                try simp only [Act.put, List.setIfInBounds_toArray, List.set_cons_zero, List.set_cons_succ]
                refine wpAnyH_done (by kernel_rfl) ?_ _
                clear hHeld x0 x1 x2 x3 x4 x5 xf x5' y0 y1 y2 y3 y4 y5 yf d5 e1
                go_wp2
                go_roundw
                case rel => exact ⟨q + 1, c7, a7, _, _, hqm, by go_num, Lib.hid HN7.out.2.2⟩
                case measure => simp [intOf]; omega
              · go_simp
                skip
                refine hK.out _ _ (⟨cell_later (bel1' _ _) hHeld.1, cell_later (bel1' _ _) hHeld.2⟩) (fun hHeld => ?_)
                clear hK K
                try simp only [Act.put, List.setIfInBounds_toArray, List.set_cons_zero, List.set_cons_succ]
                refine held_c 1 fun K hK => ?_
                go_simp
                skip
                refine hK.out _ _ (hHeld) (fun hHeld => ?_)
                clear hK K
                try simp only [Act.put, List.setIfInBounds_toArray, List.set_cons_zero, List.set_cons_succ]
                refine held_c 12 fun K hK => ?_
                (refine step_append_k (by rfl) _ _ _ (by rfl) w5.heap.size 48 i1 (.slice none 0 0) 1 24 Tryz.underlying78 hi1 hz1 hs1 (by decide) hb1 rfl (.slice a2 q c2) q (qs.flatMap rsCells) (by rfl) (HROW.out w6 HB6.out _) (some ⟨w6.heap.size, 0, none⟩) 1 1 [.slice a6 r.length c6] (by rfl) (by rfl) (Or.inr ⟨_, rfl, fun jj uu hu => cell_new w6 #[.slice a6 r.length c6] _ jj uu hu⟩) (by simp [Value.oneCell']) (by unfold maxLen; omega) (by omega) (by have := HSZ.out; simp; omega) (q + 1) (qs.flatMap rsCells ++ [.slice a6 r.length c6]) rfl rfl ?_; intro a7 c7 w7 hown7 hgrow7 hat7; have HN7 := Lib.hid (HIN.out.more hbgs HBG.out HRX.out HB6.out HV6.out hown7 hgrow7 hat7); obtain ⟨y0, y1, y2, y3, y4, y5, yf⟩ := HN7.out.1.six; clear hown7 hgrow7 hat7)
                refine hK.out _ _ (⟨by rw [World.cell?_of_block (HN7.out.2.1 _ hbB)]; exact cell_later HB6.out d5, by rw [World.cell?_of_block (HN7.out.2.1 _ hb2B)]; exact cell_later HB6.out e1⟩) (fun hHeld => ?_)
                clear hK K
                try simp only [Act.put, List.setIfInBounds_toArray, List.set_cons_zero, List.set_cons_succ]
                first | (refine held_t (i := 13) hHeld ?_; apply Exists.intro; refine ⟨fun wq hq => ?_, ?_⟩; (focus ((try dsimp only at hq); go_simp; (first | done | with_reducible rfl | fail)))) | refine held_s (i := 13) hHeld ?_ | fail
                try simp only [Act.put, List.setIfInBounds_toArray, List.set_cons_zero, List.set_cons_succ]
                refine held_c 14 fun K hK => ?_
                go_simp
                skip
                refine hK.out _ _ (⟨far_one hHeld.1 hbn, far_one hHeld.2 hb2n⟩) (fun hHeld => ?_)
                clear hK K
                try simp only [Act.put, List.setIfInBounds_toArray, List.set_cons_zero, List.set_cons_succ]
                refine wpAnyH_done (by kernel_rfl) ?_ _
                clear hHeld x0 x1 x2 x3 x4 x5 xf x5' y0 y1 y2 y3 y4 y5 yf d5 e1
                go_wp2
                go_roundw
                case rel => exact ⟨q + 1, c7, a7, _, _, hqm, by go_num, Lib.hid HN7.out.2.2⟩
                case measure => simp [intOf]; omega
          · have hqe : q = mr := by omega
            subst hqe
            obtain ⟨hpl, hpm, hrow, htn, hok⟩ := HPS.out
            have hF := HIN.out.row.fin @rsOk_stay hwr5 HIN.out.tn HIN.out.ok
            rw [fin_no HOK.out] at hF
            have hrv := own_rows hF.1 hF.2 (by rw [HIN.out.len]; unfold BIG; omega)
            rw [HIN.out.fst, List.take_of_length_le (by rw [← HG.out.2]; exact Nat.le_refl _)] at hrv
            have htf := HIN.out.tm.fin HIN.out.tn HIN.out.ok
            rw [fin_no HOK.out] at htf
            have hpp := tm_parts htf
            have hgc : GlC (hide D1 wr) g (.slice a1 m1 c1) (.slice a2 q c2) := glC_iff.2 ⟨HR.out.1, by rw [hpp.2]; exact htf, hrv⟩
            have hcs : (#[.int .i64 g.kind, .int .i64 k1, .int .i64 n1, .string s1, .slice a1 m1 c1, .slice a2 q c2] : Array Value).toList = glCells ⟨g, .slice a1 m1 c1, .slice a2 q c2⟩ := by
              have e := hpp.1
              unfold pCells at e
              simp only [List.cons.injEq, Value.int.injEq, Value.string.injEq, true_and, and_true] at e
              unfold glCells
              rw [e.1, e.2.1, e.2.2]
            obtain ⟨hrow9, hnext⟩ := gi_more hpl hpm hrow htn hok HG.out.1 hbel hgc hcs
            have HROW := Lib.hid hrow9
            have HN := Lib.hid hnext
            have HLE := Lib.hid (show w.heap.size ≤ (wr.alloc (.cells #[.int .i64 g.kind, .int .i64 k1, .int .i64 n1, .string s1, .slice a1 m1 c1, .slice a2 q c2] 80)).heap.size from Nat.le_trans htn.size (Nat.le_trans hbel.size (by simp)))
            have HONEC := Lib.hid (show ∀ u ∈ [Value.int .i64 g.kind, .int .i64 k1, .int .i64 n1, .string s1, .slice a1 m1 c1, .slice a2 q c2], u.oneCell' = true from fun u hu => by
              simp only [List.mem_cons, List.not_mem_nil, or_false] at hu
              rcases hu with rfl | rfl | rfl | rfl | rfl | rfl <;> rfl)
            clear hpl hpm hrow htn hok hF hrv htf hpp hgc hcs hrow9 hnext hbel
            go_wp2_with (at_builtin; refine wpList_append_k rfl _ _ 48 rfl w.heap.size 80 i0 (.agg #[.int .i64 0, .int .i64 0, .int .i64 0, .string ⟨#[]⟩, .slice none 0 0, .slice none 0 0]) 6 88 Tryz.underlying48 hi0 hz0 hs0 (by decide) hb0 rfl (.slice a' j c') j (ps.flatMap glCells) rfl HROW.out (some ⟨wr.heap.size, 0, none⟩) 1 1 [.int .i64 g.kind, .int .i64 k1, .int .i64 n1, .string s1, .slice a1 m1 c1, .slice a2 q c2] rfl rfl (Or.inr ⟨_, rfl, fun jj uu hu => cell_new wr #[.int .i64 g.kind, .int .i64 k1, .int .i64 n1, .string s1, .slice a1 m1 c1, .slice a2 q c2] _ jj uu hu⟩) HONEC.out (by unfold maxLen; omega) (by omega) HLE.out (j + 1) _ rfl rfl ?_; intro a7 c7 w7 hown7 hgrow7 hat7; have HN7 := Lib.hid (HN.out a7 c7 w7 hown7 hgrow7 hat7); clear hown7 hgrow7 hat7)
            go_roundw
            case rel => exact ⟨j + 1, c7, a7, by omega, rfl, by go_num, HN7⟩
            case measure => simp [intOf]; omega
    · have hje : j = m := by omega
      subst hje
      obtain ⟨D1, ps, hpl, hpm, hrow, htn, hok⟩ := HP.out
      have hF := hrow.fin @glOk_stay (Nat.le_refl _) htn hok
      rw [fin_no HD.out] at hF
      have hgv := own_goals hF.1 hF.2 (by rw [hpl]; unfold BIG; omega)
      rw [hpm, List.take_of_length_le (by rw [HM.out]; exact Nat.le_refl _)] at hgv
      have HEND := Lib.hid (And.intro hgv (htn.bel (n := w.heap.size) (Nat.le_refl _) (fun _ _ => rfl)))
      clear hpl hpm hrow htn hok hF hgv HP
      go_wp2
      go_ret
      exact ⟨_, rfl, HEND.out.1, HEND.out.2⟩
theorem goals_at (l : List Gl) (D : Nat → Bool) (w : World) (v : Value) (hD : Old D w) (hv : GoalsV w l v) : Calls Tryz.prog 21 #[v] w fun e w' => ∃ v', e = .returned v' ∧ GoalsV (hide D w') l v' ∧ Below w.heap.size w w' := by
  suffices h : ∀ N (l : List Gl), cntL l < N → ∀ (D : Nat → Bool) (w : World) (v : Value), Old D w → GoalsV w l v → Calls Tryz.prog 21 #[v] w fun e w' => ∃ v', e = .returned v' ∧ GoalsV (hide D w') l v' ∧ Below w.heap.size w w' from
    h _ l (Nat.lt_succ_self _) D w v hD hv
  intro N
  induction N with
  | zero => intro l h; omega
  | succ N ih => intro l h D w v hD hv; exact goals_step N ih l h D w v hD hv
end Go.Proofs.YtaojalicnnnkmaaGreatDoor
