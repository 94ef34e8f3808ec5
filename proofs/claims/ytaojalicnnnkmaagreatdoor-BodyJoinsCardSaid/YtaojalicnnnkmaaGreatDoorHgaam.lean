import Derived.Test.YtaojalicnnnkmaaGreatDoorHgaal
import Derived.Test.YtaojalicnnnkmaaGreatDoorHgaaa
import Derived.LaidEqlPtr
import Derived.Maps.OwnSet
import Derived.Test.YtaojalicnnnkmaaGreatDoorHgaaj
set_option linter.unusedVariables false
set_option linter.unusedSimpArgs false
/- The law's goals, with the row that the call owns; goals appended to goals. (gen_kj1.py) -/
namespace Go.Proofs.YtaojalicnnnkmaaGreatDoor
open Go.RowKit
set_option linter.unusedVariables false

/-- Goals in a row of the call's own. -/
def GoOwn (D : Nat → Bool) (w : World) (l : List Gl) (e : Ending) (w' : World) : Prop := ∃ (a : Option Addr) (m c : Nat) (D1 : Nat → Bool) (ps : List GlP), e = .returned (.slice a m c) ∧ ps.length = m ∧ ps.map (·.g) = l ∧
  RowQ 6 glCells glOk 80 D1 noM w' w.heap.size (.slice a m c) ps ∧ Turn D noM D1 noM w w' ∧ Okd D1 noM w'
set_option maxHeartbeats 16000000 in
set_option maxRecDepth 100000 in
theorem goals_own_step (M : Nat) (ih : ∀ (r : List Gl), cntL r < M → ∀ (D : Nat → Bool) (w : World) (v : Value), Old D w → GoalsV w r v → Calls Tryz.prog 21 #[v] w fun e w' => ∃ v', e = .returned v' ∧ GoalsV (hide D w') r v' ∧ Below w.heap.size w w')
    (l : List Gl) (hl : cntL l < M + 1) (D : Nat → Bool) (w : World) (v : Value) (hD : Old D w) (hv : GoalsV w l v) : Calls Tryz.prog 21 #[v] w (GoOwn D w l) := by
  obtain ⟨a, c, rfl, h1, h2, h3⟩ := hv.len
  unfold maxLen at h2
  unfold BIG at h3
  have HIH := Lib.hid ih
  have HL := Lib.hid hl
  have HV := Lib.hid hv
  have HD := Lib.hid hD
  obtain ⟨m, hm⟩ : ∃ m, l.length = m := ⟨_, rfl⟩
  have HM := Lib.hid hm
  rw [hm] at h1 h3 HV ⊢
  obtain ⟨i0, hi0, hz0, hs0, hb0⟩ := info_parts infoGoalR
  obtain ⟨i1, hi1, hz1, hs1, hb1⟩ := info_parts infoGoalsR
  have HI0 := Lib.hid (show GI w l D 0 0 none w from ⟨D, [], rfl, rfl, RowQ.none _ _ _ _, Turn.refl _ _ _, okd_no hD⟩)
  clear ih hl hv hD hm
  go_enter Tryz.func21, Tryz.ntmps21
  go_wp2_with fail
  go_loopw [3, 4, 5, 6] (fun r i _ _ wr => ∃ (j c' : Nat) (a' : Option Addr), j ≤ m ∧ r = .slice a' j c' ∧ i = .int .i64 j ∧ Hid (GI w l D j c' a' wr)) (fun _ i _ _ _ => m - (intOf i).toNat)
  case atStart => exact ⟨0, 0, none, Nat.zero_le _, rfl, rfl, HI0⟩
  case round =>
    obtain ⟨j, c', a', hj, rfl, rfl, HP⟩ := hrel
    clear HI0
    by_cases hjm : j < m
    · have hjm2 : (j : Int) < m := by omega
      obtain ⟨g, hg⟩ : ∃ g, l[j]? = some g := ⟨_, List.getElem?_eq_getElem (by rw [HM.out]; exact hjm)⟩
      obtain ⟨D1, ps, hpl, hpm, hrow, htn, hok⟩ := HP.out
      have hbw : Below w.heap.size w wr := htn.bel (Nat.le_refl _) (fun _ _ => rfl)
      have hvr := HV.out.stay (stays_bl hbw)
      obtain ⟨b, off, kt, nt, st, at_, mt, ct, ar, mr, cr, rfl, hblt, d0, d1, d2, d3, d4, d5, hk64, htm, hrows⟩ := hvr.get hg
      have hgl : mr = g.l.length := by obtain ⟨_, _, e, _⟩ := hrows.len; cases e; rfl
      have hmrb : mr ≤ 9223372036854775807 := by obtain ⟨_, _, e, h5, h6, _⟩ := hrows.len; cases e; unfold maxLen at h6; omega
      have hmr24 : mr * 24 ≤ 140737488351232 := by obtain ⟨_, _, e, _, _, h6⟩ := hrows.len; cases e; unfold BIG at h6; omega
      have HG := Lib.hid (And.intro hg hgl)
      have HPS := Lib.hid (And.intro hpl (And.intro hpm (And.intro hrow (And.intro htn hok))))
      have HR := Lib.hid (And.intro hk64 hrows)
      have HBL := Lib.hid hblt
      have HC5 := Lib.hid (fun (wx : World) (hb : Below wr.heap.size wr wx) => (show wx.cell? ⟨b, off + j * 6, none⟩ = some (.int .i64 g.kind) ∧ wx.cell? ⟨b, off + j * 6 + 1, none⟩ = some (.int .i64 kt) ∧ wx.cell? ⟨b, off + j * 6 + 2, none⟩ = some (.int .i64 nt) ∧ wx.cell? ⟨b, off + j * 6 + 3, none⟩ = some (.string st) ∧ wx.cell? ⟨b, off + j * 6 + 4, none⟩ = some (.slice at_ mt ct) from
        ⟨cell_later hb d0, cell_later hb d1, cell_later hb d2, cell_later hb d3, cell_later hb d4⟩))
      have HD5 := Lib.hid d5
      have HOK := Lib.hid hok.2
      have HOWN := Lib.hid (fun (D' : Nat → Bool) (wq : World) (hq : Below wr.heap.size wr wq) (ho : Old D' wq) => own14_at g.t D' wq _ ho (TmV.ext hq _ _ htm))
      obtain ⟨kd, hkd⟩ : ∃ kd, g.kind = kd := ⟨_, rfl⟩
      have HKD := Lib.hid hkd
      rw [hkd] at HC5
      clear hpl hpm hrow htn hok hbw hvr hgl htm hrows hg hk64 hblt d0 d1 d2 d3 d4 d5 hkd HP
      obtain ⟨d0, d1, d2, d3, d4⟩ := HC5.out wr (Below.refl _ _)
      go_upto_region 5 with fail
      go_cut [5] from 13 to 24 (fun s wx => GB D1 wr g s wx)
      case first =>
        refine wp_region_held_drew (S := (fun w' => (w'.cell? ⟨b, off + j * 6, none⟩ = some (.int .i64 kd) ∧ w'.cell? ⟨b, off + j * 6 + 1, none⟩ = some (.int .i64 kt) ∧ w'.cell? ⟨b, off + j * 6 + 2, none⟩ = some (.int .i64 nt) ∧ w'.cell? ⟨b, off + j * 6 + 3, none⟩ = some (.string st) ∧ w'.cell? ⟨b, off + j * 6 + 4, none⟩ = some (.slice at_ mt ct)) ∧ Below wr.heap.size wr w')) (by kernel_rfl) ⟨⟨d0, d1, d2, d3, d4⟩, (Below.refl _ _).drew⟩ (fun hHeld => ?_)
        first | (refine held_t (i := 0) hHeld ?_; apply Exists.intro; refine ⟨fun wq hq => ?_, ?_⟩; (focus ((try dsimp only at hq); go_simp; (first | done | with_reducible rfl | fail)))) | refine held_s (i := 0) hHeld ?_ | fail
        first | (refine held_t (i := 1) hHeld ?_; apply Exists.intro; refine ⟨fun wq hq => ?_, ?_⟩; (focus ((try dsimp only at hq); go_simp; (first | done | with_reducible rfl | fail)))) | refine held_s (i := 1) hHeld ?_ | fail
        first | (refine held_t (i := 2) hHeld ?_; apply Exists.intro; refine ⟨fun wq hq => ?_, ?_⟩; (focus ((try dsimp only at hq); go_simp; (first | done | with_reducible rfl | fail)))) | refine held_s (i := 2) hHeld ?_ | fail
        first | (refine held_t (i := 3) hHeld ?_; apply Exists.intro; refine ⟨fun wq hq => ?_, ?_⟩; (focus ((try dsimp only at hq); go_simp; (first | done | with_reducible rfl | fail)))) | refine held_s (i := 3) hHeld ?_ | fail
        first | (refine held_t (i := 4) hHeld ?_; apply Exists.intro; refine ⟨fun wq hq => ?_, ?_⟩; (focus ((try dsimp only at hq); go_simp; (first | done | with_reducible rfl | fail)))) | refine held_s (i := 4) hHeld ?_ | fail
        first | (refine held_t (i := 5) hHeld ?_; apply Exists.intro; refine ⟨fun wq hq => ?_, ?_⟩; (focus ((try dsimp only at hq); go_simp; (first | done | with_reducible rfl | fail)))) | refine held_s (i := 5) hHeld ?_ | fail
        first | (refine held_t (i := 6) hHeld ?_; apply Exists.intro; refine ⟨fun wq hq => ?_, ?_⟩; (focus ((try dsimp only at hq); go_simp; (first | done | with_reducible rfl | fail)))) | refine held_s (i := 6) hHeld ?_ | fail
        first | (refine held_t (i := 7) hHeld ?_; apply Exists.intro; refine ⟨fun wq hq => ?_, ?_⟩; (focus ((try dsimp only at hq); go_simp; (first | done | with_reducible rfl | fail)))) | refine held_s (i := 7) hHeld ?_ | fail
        first | (refine held_t (i := 8) hHeld ?_; apply Exists.intro; refine ⟨fun wq hq => ?_, ?_⟩; (focus ((try dsimp only at hq); go_simp; (first | done | with_reducible rfl | fail)))) | refine held_s (i := 8) hHeld ?_ | fail
        first | (refine held_t (i := 9) hHeld ?_; apply Exists.intro; refine ⟨fun wq hq => ?_, ?_⟩; (focus ((try dsimp only at hq); go_simp; (first | done | with_reducible rfl | fail)))) | refine held_s (i := 9) hHeld ?_ | fail
        try simp only [Act.put, List.setIfInBounds_toArray, List.set_cons_zero, List.set_cons_succ]
        obtain ⟨wd, hwd⟩ : ∃ wd, wr.drew = wd := ⟨_, rfl⟩
        rw [hwd] at hHeld ⊢
        clear hwd
        have L0 := Lib.hid hHeld.2
        have z0 := hHeld.2.size
        refine wpAnyH_ready (rs := [10, 12]) (by kernel_rfl) (by simp) ?_
        refine AllReadyH.cons (by simp only [List.getElem?_toArray, List.getElem?_cons_zero, List.getElem?_cons_succ]; rfl) (fun K hK => ?_) (AllReadyH.cons (by simp only [List.getElem?_toArray, List.getElem?_cons_zero, List.getElem?_cons_succ]; rfl) (fun K hK => ?_) AllReadyH.nil)
        · go_simp
          (go_at_call 17; refine (HOWN.out D1 _ hHeld.2 (by exact HOK.out.mono hHeld.2.size)).mono ?_; rintro e wb ⟨v5, rfl, hv5, hb5⟩; obtain ⟨k1, n1, s1, a1, m1, c1, rfl, ek, en, es, ep⟩ := four_of hv5; have HV5 := Lib.hid hv5; have HB5 := Lib.hid hb5; have hs5 := hb5.size; clear hv5 ek en es ep hb5)
          refine hK.out _ _ (⟨HC5.out _ (Ext.trans' hHeld.2 HB5.out), Ext.trans' hHeld.2 HB5.out⟩) (fun hHeld => ?_)
          clear hK K
          try simp only [Act.put, List.setIfInBounds_toArray, List.set_cons_zero, List.set_cons_succ]
          first | (refine held_t (i := 11) hHeld ?_; apply Exists.intro; refine ⟨fun wq hq => ?_, ?_⟩; (focus ((try dsimp only at hq); go_simp; (first | done | with_reducible rfl | fail)))) | refine held_s (i := 11) hHeld ?_ | fail
          try simp only [Act.put, List.setIfInBounds_toArray, List.set_cons_zero, List.set_cons_succ]
          refine held_c 12 fun K hK => ?_
          go_simp
          skip
          refine hK.out _ _ (⟨HC5.out _ (Ext.trans' hHeld.2 (bel1' _ _)), Ext.trans' hHeld.2 (bel1' _ _)⟩) (fun hHeld => ?_)
          clear hK K
          try simp only [Act.put, List.setIfInBounds_toArray, List.set_cons_zero, List.set_cons_succ]
          obtain ⟨wa, hwa, hba, hza, hxa⟩ := box_new wb #[.int .i64 0, .int .i64 0, .int .i64 0, .string ⟨#[]⟩, .slice none 0 0, .slice none 0 0] 80
          rw [hwa] at hHeld ⊢
          have hla := hxa.lt
          have HTD := Lib.hid (gb_done (D1 := D1) (g := g) (bg := wb.heap.size) (by omega) hla hxa (TmV.stay (Stays.below hba fun x hx hx' => (plusB_ne (by omega)).trans hx') _ _ HV5.out) hHeld.2)
          obtain ⟨p0, p1, p2, p3, p4, p5, pf⟩ := hxa.six
          rw [HKD.out] at HTD
          have hS4 := Lib.hid hHeld.2
          clear hwa hba hza hxa
          refine held_c 13 fun K hK => ?_
          go_simp
          skip
          refine hK.out _ _ (⟨HC5.out _ (Below.set6 hS4.out (by omega) _ _ _ _ _ _), Below.set6 hS4.out (by omega) _ _ _ _ _ _⟩) (fun hHeld => ?_)
          clear hK K
          try simp only [Act.put, List.setIfInBounds_toArray, List.set_cons_zero, List.set_cons_succ]
          refine wpAnyH_done (by kernel_rfl) ?_ _
          clear hHeld p0 p1 p2 p3 p4 p5 pf hS4 d0 d1 d2 d3 d4
          go_wp2
          all_goals go_meet
          exact HTD.out
        · go_simp
          skip
          refine hK.out _ _ (⟨HC5.out _ (Ext.trans' hHeld.2 (bel1' _ _)), Ext.trans' hHeld.2 (bel1' _ _)⟩) (fun hHeld => ?_)
          clear hK K
          try simp only [Act.put, List.setIfInBounds_toArray, List.set_cons_zero, List.set_cons_succ]
          obtain ⟨wa, hwa, hba, hza, hxa⟩ := box_new wd #[.int .i64 0, .int .i64 0, .int .i64 0, .string ⟨#[]⟩, .slice none 0 0, .slice none 0 0] 80
          rw [hwa] at hHeld ⊢
          have hla := hxa.lt
          have hsa := hba.size
          have HXA := Lib.hid hxa
          have HOP := Lib.hid (show Old (plusB D1 wd.heap.size) wa from fun x hx => (plusB_ne (by omega)).trans (HOK.out x (by omega)))
          clear hwa hba hza hxa
          refine held_c 10 fun K hK => ?_
          go_simp
          (go_at_call 17; refine (HOWN.out (plusB D1 wd.heap.size) _ hHeld.2 (HOP.out)).mono ?_; rintro e wb ⟨v5, rfl, hv5, hb5⟩; obtain ⟨k1, n1, s1, a1, m1, c1, rfl, ek, en, es, ep⟩ := four_of hv5; have HV5 := Lib.hid hv5; have HB5 := Lib.hid hb5; have hs5 := hb5.size; clear hv5 ek en es ep hb5)
          refine hK.out _ _ (⟨HC5.out _ (Ext.trans' hHeld.2 HB5.out), Ext.trans' hHeld.2 HB5.out⟩) (fun hHeld => ?_)
          clear hK K
          try simp only [Act.put, List.setIfInBounds_toArray, List.set_cons_zero, List.set_cons_succ]
          have HTD := Lib.hid (gb_done (D1 := D1) (g := g) (bg := wd.heap.size) (by omega) (by omega) (HXA.out.ext HB5.out) HV5.out hHeld.2)
          obtain ⟨p0, p1, p2, p3, p4, p5, pf⟩ := (HXA.out.ext HB5.out).six
          rw [HKD.out] at HTD
          have hS4 := Lib.hid hHeld.2
          first | (refine held_t (i := 11) hHeld ?_; apply Exists.intro; refine ⟨fun wq hq => ?_, ?_⟩; (focus ((try dsimp only at hq); go_simp; (first | done | with_reducible rfl | fail)))) | refine held_s (i := 11) hHeld ?_ | fail
          try simp only [Act.put, List.setIfInBounds_toArray, List.set_cons_zero, List.set_cons_succ]
          refine held_c 13 fun K hK => ?_
          go_simp
          skip
          refine hK.out _ _ (⟨HC5.out _ (Below.set6 hS4.out (by omega) _ _ _ _ _ _), Below.set6 hS4.out (by omega) _ _ _ _ _ _⟩) (fun hHeld => ?_)
          clear hK K
          try simp only [Act.put, List.setIfInBounds_toArray, List.set_cons_zero, List.set_cons_succ]
          refine wpAnyH_done (by kernel_rfl) ?_ _
          clear hHeld p0 p1 p2 p3 p4 p5 pf hS4 d0 d1 d2 d3 d4
          go_wp2
          all_goals go_meet
          exact HTD.out
      case rest =>
        obtain ⟨bg, n1, k1, s1, a1, m1, c1, rfl, hbg, hblt, hbx, htm, hbw⟩ := hcut
        generalize wc = w5 at *
        have HBL5 := Lib.hid hblt
        have hbb : b < bg := Nat.lt_of_lt_of_le HBL.out hbg
        have hbgs : bg < w5.heap.size := hblt
        have HBG := Lib.hid hbg
        have hwr5 := hbw.size
        have HIN0 := Lib.hid (show InR g.t g.l g.kind D1 wr bg k1 n1 s1 a1 m1 c1 w5.heap.size 0 0 none (plusB D1 bg) [] w5 from
          { len := rfl, fst := rfl, box := hbx, row := RowQ.none _ _ _ _, tn := Turn.into hbw hbg, ok := (okd_no HOK.out).box hbw.size hblt, hid := plusB_self _ _, sz := Nat.le_refl _, tm := htm })
        clear hblt hbx htm hbw d0 d1 d2 d3 d4 HC5 HOWN
        generalize wr = wr0 at *
        go_wp2_with fail
        go_loopw [6] (fun i wr => ∃ (q c2 : Nat) (a2 : Option Addr) (D2 : Nat → Bool) (qs : List (List Gl × Value)), q ≤ mr ∧ i = .int .i64 q ∧ Hid (InR g.t g.l g.kind D1 wr0 bg k1 n1 s1 a1 m1 c1 w5.heap.size q c2 a2 D2 qs wr)) (fun i _ => mr - (intOf i).toNat)
        case atStart => exact ⟨0, 0, none, _, [], Nat.zero_le _, rfl, HIN0⟩
        case round =>
          obtain ⟨q, c2, a2, D2, qs, hq, rfl, HIN⟩ := hrel
          clear HIN0
          have hbel := HIN.out.tn.bel (n := wr0.heap.size) (Nat.le_refl _) (fun _ _ => rfl)
          have HBE := Lib.hid hbel
          have d5 := cell_later hbel HD5.out
          obtain ⟨x0, x1, x2, x3, x4, x5, xf⟩ := HIN.out.box.six
          by_cases hqm : q < mr
          · have hqm2 : (q : Int) < mr := by omega
            obtain ⟨r, hr⟩ : ∃ r, g.l[q]? = some r := ⟨_, List.getElem?_eq_getElem (by rw [← HG.out.2]; exact hqm)⟩
            obtain ⟨b2, off2, a3, c3, rfl, hb2, e0, hgv⟩ := HR.out.2.get hr
            have HRX := Lib.hid hr
            have e1 := cell_later hbel e0
            have hlt := cnt_row (List.mem_of_getElem? HG.out.1) (List.mem_of_getElem? hr)
            have HC := Lib.hid (fun (wq : World) (hq : Below wr.heap.size wr wq) => HIH.out r (by have := HL.out; omega) D2 wq _ (HIN.out.ok.2.mono hq.size) (hgv.stay (stays_bl (Ext.trans' hbel hq))))
            have hb2g : b2 < bg := Nat.lt_of_lt_of_le hb2 HBG.out
            have hbB : b < w5.heap.size := by omega
            have hb2B : b2 < w5.heap.size := by omega
            have hbn : b ≠ bg := by omega
            have hb2n : b2 ≠ bg := by omega
            have HROW := Lib.hid (fun (wq : World) (hq : Below wr.heap.size wr wq) (o : Obj) => HIN.out.own hq o)
            have HSZ := Lib.hid HIN.out.sz
            clear hr hgv hlt e0 hb2 hbel
            go_wp2_with fail
            refine wp_region_held_drew (S := fun w' => w'.cell? ⟨b, off + j * 6 + 5, none⟩ = some (.slice (some ⟨b2, off2, none⟩) mr cr) ∧ w'.cell? ⟨b2, off2 + q, none⟩ = some (.slice a3 r.length c3)) (by kernel_rfl) ⟨d5, e1⟩ (fun hHeld => ?_)
            first | (refine held_t (i := 0) hHeld ?_; apply Exists.intro; refine ⟨fun wq hq => ?_, ?_⟩; (focus ((try dsimp only at hq); go_simp; (first | done | with_reducible rfl | fail)))) | refine held_s (i := 0) hHeld ?_ | fail
            first | (refine held_t (i := 2) hHeld ?_; apply Exists.intro; refine ⟨fun wq hq => ?_, ?_⟩; (focus ((try dsimp only at hq); go_simp; (first | done | with_reducible rfl | fail)))) | refine held_s (i := 2) hHeld ?_ | fail
            first | (refine held_t (i := 3) hHeld ?_; apply Exists.intro; refine ⟨fun wq hq => ?_, ?_⟩; (focus ((try dsimp only at hq); go_simp; (first | done | with_reducible rfl | fail)))) | refine held_s (i := 3) hHeld ?_ | fail
            first | (refine held_t (i := 4) hHeld ?_; apply Exists.intro; refine ⟨fun wq hq => ?_, ?_⟩; (focus ((try dsimp only at hq); go_simp; (first | done | with_reducible rfl | fail)))) | refine held_s (i := 4) hHeld ?_ | fail
            first | (refine held_t (i := 5) hHeld ?_; apply Exists.intro; refine ⟨fun wq hq => ?_, ?_⟩; (focus ((try dsimp only at hq); go_simp; (first | done | with_reducible rfl | fail)))) | refine held_s (i := 5) hHeld ?_ | fail
            first | (refine held_t (i := 6) hHeld ?_; apply Exists.intro; refine ⟨fun wq hq => ?_, ?_⟩; (focus ((try dsimp only at hq); go_simp; (first | done | with_reducible rfl | fail)))) | refine held_s (i := 6) hHeld ?_ | fail
            first | (refine held_t (i := 7) hHeld ?_; apply Exists.intro; refine ⟨fun wq hq => ?_, ?_⟩; (focus ((try dsimp only at hq); go_simp; (first | done | with_reducible rfl | fail)))) | refine held_s (i := 7) hHeld ?_ | fail
            first | (refine held_t (i := 8) hHeld ?_; apply Exists.intro; refine ⟨fun wq hq => ?_, ?_⟩; (focus ((try dsimp only at hq); go_simp; (first | done | with_reducible rfl | fail)))) | refine held_s (i := 8) hHeld ?_ | fail
            first | (refine held_t (i := 9) hHeld ?_; apply Exists.intro; refine ⟨fun wq hq => ?_, ?_⟩; (focus ((try dsimp only at hq); go_simp; (first | done | with_reducible rfl | fail)))) | refine held_s (i := 9) hHeld ?_ | fail
            try simp only [Act.put, List.setIfInBounds_toArray, List.set_cons_zero, List.set_cons_succ]
            refine wpAnyH_ready (rs := [1, 10]) (by kernel_rfl) (by simp) ?_
            refine AllReadyH.cons (by simp only [List.getElem?_toArray, List.getElem?_cons_zero, List.getElem?_cons_succ]; rfl) (fun K hK => ?_) (AllReadyH.cons (by simp only [List.getElem?_toArray, List.getElem?_cons_zero, List.getElem?_cons_succ]; rfl) (fun K hK => ?_) AllReadyH.nil)
            · go_simp
              skip
              refine hK.out _ _ (hHeld) (fun hHeld => ?_)
              clear hK K
              try simp only [Act.put, List.setIfInBounds_toArray, List.set_cons_zero, List.set_cons_succ]
              refine held_c 10 fun K hK => ?_
              go_simp
              (go_at_call 21; refine (HC.out _ ((Below.refl _ _).drew)).mono ?_; rintro e w6 ⟨v6, rfl, hv6, hb6⟩; obtain ⟨a6, c6, rfl, _, _, _⟩ := hv6.len; have HV6 := Lib.hid hv6; have HB6 := Lib.hid (Ext.trans' (Below.refl wr.heap.size wr).drew hb6); obtain ⟨x0, x1, x2, x3, x4, x5, xf⟩ := (HIN.out.box.ext HB6.out).six; have x5' : ∀ o, (w6.alloc o).cell? ⟨bg, 5, none⟩ = some (.slice a2 q c2) := (fun o => Lib.cell?_alloc_some _ x5); have hs6 := HB6.out.size; clear hv6 hb6)
              refine hK.out _ _ (⟨cell_later HB6.out d5, cell_later HB6.out e1⟩) (fun hHeld => ?_)
              clear hK K
              try simp only [Act.put, List.setIfInBounds_toArray, List.set_cons_zero, List.set_cons_succ]
              refine held_c 11 fun K hK => ?_
              go_simp
              skip
              refine hK.out _ _ (⟨cell_later (bel1' _ _) hHeld.1, cell_later (bel1' _ _) hHeld.2⟩) (fun hHeld => ?_)
              clear hK K
              try simp only [Act.put, List.setIfInBounds_toArray, List.set_cons_zero, List.set_cons_succ]
              refine held_c 12 fun K hK => ?_
              (refine step_append_k (by rfl) _ _ _ (by rfl) w5.heap.size 48 i1 (.slice none 0 0) 1 24 Tryz.underlying78 hi1 hz1 hs1 (by decide) hb1 rfl (.slice a2 q c2) q (qs.flatMap rsCells) (by rfl) (HROW.out w6 HB6.out _) (some ⟨w6.heap.size, 0, none⟩) 1 1 [.slice a6 r.length c6] (by rfl) (by rfl) (Or.inr ⟨_, rfl, fun jj uu hu => cell_new w6 #[.slice a6 r.length c6] _ jj uu hu⟩) (by simp [Value.oneCell']) (by unfold maxLen; omega) (by omega) (by have := HSZ.out; simp; omega) (q + 1) (qs.flatMap rsCells ++ [.slice a6 r.length c6]) rfl rfl ?_; intro a7 c7 w7 hown7 hgrow7 hat7; have HN7 := Lib.hid (HIN.out.more hbgs HBG.out HRX.out HB6.out HV6.out hown7 hgrow7 hat7); obtain ⟨y0, y1, y2, y3, y4, y5, yf⟩ := HN7.out.1.six; clear hown7 hgrow7 hat7)
              refine hK.out _ _ (⟨by rw [World.cell?_of_block (HN7.out.2.1 _ hbB)]; exact cell_later HB6.out d5, by rw [World.cell?_of_block (HN7.out.2.1 _ hb2B)]; exact cell_later HB6.out e1⟩) (fun hHeld => ?_)
              clear hK K
              try simp only [Act.put, List.setIfInBounds_toArray, List.set_cons_zero, List.set_cons_succ]
              first | (refine held_t (i := 13) hHeld ?_; apply Exists.intro; refine ⟨fun wq hq => ?_, ?_⟩; (focus ((try dsimp only at hq); go_simp; (first | done | with_reducible rfl | fail)))) | refine held_s (i := 13) hHeld ?_ | fail
              try simp only [Act.put, List.setIfInBounds_toArray, List.set_cons_zero, List.set_cons_succ]
              refine held_c 14 fun K hK => ?_
              go_simp
              skip
              refine hK.out _ _ (⟨far_one hHeld.1 hbn, far_one hHeld.2 hb2n⟩) (fun hHeld => ?_)
              clear hK K
              try simp only [Act.put, List.setIfInBounds_toArray, List.set_cons_zero, List.set_cons_succ]
              refine wpAnyH_done (by kernel_rfl) ?_ _
              clear hHeld x0 x1 x2 x3 x4 x5 xf x5' y0 y1 y2 y3 y4 y5 yf d5 e1
              go_wp2
              go_roundw
              case rel => exact ⟨q + 1, c7, a7, _, _, hqm, by go_num, Lib.hid HN7.out.2.2⟩
              case measure => simp [intOf]; omega
            · go_simp
              (go_at_call 21; refine (HC.out _ ((Below.refl _ _).drew)).mono ?_; rintro e w6 ⟨v6, rfl, hv6, hb6⟩; obtain ⟨a6, c6, rfl, _, _, _⟩ := hv6.len; have HV6 := Lib.hid hv6; have HB6 := Lib.hid (Ext.trans' (Below.refl wr.heap.size wr).drew hb6); obtain ⟨x0, x1, x2, x3, x4, x5, xf⟩ := (HIN.out.box.ext HB6.out).six; have x5' : ∀ o, (w6.alloc o).cell? ⟨bg, 5, none⟩ = some (.slice a2 q c2) := (fun o => Lib.cell?_alloc_some _ x5); have hs6 := HB6.out.size; clear hv6 hb6)
              refine hK.out _ _ (⟨cell_later HB6.out d5, cell_later HB6.out e1⟩) (fun hHeld => ?_)
              clear hK K
              try simp only [Act.put, List.setIfInBounds_toArray, List.set_cons_zero, List.set_cons_succ]
              refine wpAnyH_ready (rs := [1, 11]) (by kernel_rfl) (by simp) ?_
              refine AllReadyH.cons (by simp only [List.getElem?_toArray, List.getElem?_cons_zero, List.getElem?_cons_succ]; rfl) (fun K hK => ?_) (AllReadyH.cons (by simp only [List.getElem?_toArray, List.getElem?_cons_zero, List.getElem?_cons_succ]; rfl) (fun K hK => ?_) AllReadyH.nil)
              · go_simp
                skip
                refine hK.out _ _ (hHeld) (fun hHeld => ?_)
                clear hK K
                try simp only [Act.put, List.setIfInBounds_toArray, List.set_cons_zero, List.set_cons_succ]
                refine held_c 11 fun K hK => ?_
                go_simp
                skip
                refine hK.out _ _ (⟨cell_later (bel1' _ _) hHeld.1, cell_later (bel1' _ _) hHeld.2⟩) (fun hHeld => ?_)
                clear hK K
                try simp only [Act.put, List.setIfInBounds_toArray, List.set_cons_zero, List.set_cons_succ]
                refine held_c 12 fun K hK => ?_
                (refine step_append_k (by rfl) _ _ _ (by rfl) w5.heap.size 48 i1 (.slice none 0 0) 1 24 Tryz.underlying78 hi1 hz1 hs1 (by decide) hb1 rfl (.slice a2 q c2) q (qs.flatMap rsCells) (by rfl) (HROW.out w6 HB6.out _) (some ⟨w6.heap.size, 0, none⟩) 1 1 [.slice a6 r.length c6] (by rfl) (by rfl) (Or.inr ⟨_, rfl, fun jj uu hu => cell_new w6 #[.slice a6 r.length c6] _ jj uu hu⟩) (by simp [Value.oneCell']) (by unfold maxLen; omega) (by omega) (by have := HSZ.out; simp; omega) (q + 1) (qs.flatMap rsCells ++ [.slice a6 r.length c6]) rfl rfl ?_; intro a7 c7 w7 hown7 hgrow7 hat7; have HN7 := Lib.hid (HIN.out.more hbgs HBG.out HRX.out HB6.out HV6.out hown7 hgrow7 hat7); obtain ⟨y0, y1, y2, y3, y4, y5, yf⟩ := HN7.out.1.six; clear hown7 hgrow7 hat7)
                refine hK.out _ _ (⟨by rw [World.cell?_of_block (HN7.out.2.1 _ hbB)]; exact cell_later HB6.out d5, by rw [World.cell?_of_block (HN7.out.2.1 _ hb2B)]; exact cell_later HB6.out e1⟩) (fun hHeld => ?_)
                clear hK K
                try simp only [Act.put, List.setIfInBounds_toArray, List.set_cons_zero, List.set_cons_succ]
                first | (refine held_t (i := 13) hHeld ?_; apply Exists.intro; refine ⟨fun wq hq => ?_, ?_⟩; (focus ((try dsimp only at hq); go_simp; (first | done | with_reducible rfl | fail)))) | refine held_s (i := 13) hHeld ?_ | fail
                try simp only [Act.put, List.setIfInBounds_toArray, List.set_cons_zero, List.set_cons_succ]
                refine held_c 14 fun K hK => ?_
                go_simp
                skip
                refine hK.out _ _ (⟨far_one hHeld.1 hbn, far_one hHeld.2 hb2n⟩) (fun hHeld => ?_)
                clear hK K
                try simp only [Act.put, List.setIfInBounds_toArray, List.set_cons_zero, List.set_cons_succ]
                refine wpAnyH_done (by kernel_rfl) ?_ _
                clear hHeld x0 x1 x2 x3 x4 x5 xf x5' y0 y1 y2 y3 y4 y5 yf d5 e1
                go_wp2
                go_roundw
                case rel => exact ⟨q + 1, c7, a7, _, _, hqm, by go_num, Lib.hid HN7.out.2.2⟩
                case measure => simp [intOf]; omega
              · go_simp
                skip
                refine hK.out _ _ (⟨cell_later (bel1' _ _) hHeld.1, cell_later (bel1' _ _) hHeld.2⟩) (fun hHeld => ?_)
                clear hK K
                try simp only [Act.put, List.setIfInBounds_toArray, List.set_cons_zero, List.set_cons_succ]
                refine held_c 1 fun K hK => ?_
                go_simp
                skip
                refine hK.out _ _ (hHeld) (fun hHeld => ?_)
                clear hK K
                try simp only [Act.put, List.setIfInBounds_toArray, List.set_cons_zero, List.set_cons_succ]
                refine held_c 12 fun K hK => ?_
                (refine step_append_k (by rfl) _ _ _ (by rfl) w5.heap.size 48 i1 (.slice none 0 0) 1 24 Tryz.underlying78 hi1 hz1 hs1 (by decide) hb1 rfl (.slice a2 q c2) q (qs.flatMap rsCells) (by rfl) (HROW.out w6 HB6.out _) (some ⟨w6.heap.size, 0, none⟩) 1 1 [.slice a6 r.length c6] (by rfl) (by rfl) (Or.inr ⟨_, rfl, fun jj uu hu => cell_new w6 #[.slice a6 r.length c6] _ jj uu hu⟩) (by simp [Value.oneCell']) (by unfold maxLen; omega) (by omega) (by have := HSZ.out; simp; omega) (q + 1) (qs.flatMap rsCells ++ [.slice a6 r.length c6]) rfl rfl ?_; intro a7 c7 w7 hown7 hgrow7 hat7; have HN7 := Lib.hid (HIN.out.more hbgs HBG.out HRX.out HB6.out HV6.out hown7 hgrow7 hat7); obtain ⟨y0, y1, y2, y3, y4, y5, yf⟩ := HN7.out.1.six; clear hown7 hgrow7 hat7)
                refine hK.out _ _ (⟨by rw [World.cell?_of_block (HN7.out.2.1 _ hbB)]; exact cell_later HB6.out d5, by rw [World.cell?_of_block (HN7.out.2.1 _ hb2B)]; exact cell_later HB6.out e1⟩) (fun hHeld => ?_)
                clear hK K
                try simp only [Act.put, List.setIfInBounds_toArray, List.set_cons_zero, List.set_cons_succ]
                first | (refine held_t (i := 13) hHeld ?_; apply Exists.intro; refine ⟨fun wq hq => ?_, ?_⟩; (focus ((try dsimp only at hq); go_simp; (first | done | with_reducible rfl | fail)))) | refine held_s (i := 13) hHeld ?_ | fail
                try simp only [Act.put, List.setIfInBounds_toArray, List.set_cons_zero, List.set_cons_succ]
                refine held_c 14 fun K hK => ?_
                go_simp
                skip
                refine hK.out _ _ (⟨far_one hHeld.1 hbn, far_one hHeld.2 hb2n⟩) (fun hHeld => ?_)
                clear hK K
                try simp only [Act.put, List.setIfInBounds_toArray, List.set_cons_zero, List.set_cons_succ]
                refine wpAnyH_done (by kernel_rfl) ?_ _
                clear hHeld x0 x1 x2 x3 x4 x5 xf x5' y0 y1 y2 y3 y4 y5 yf d5 e1
                go_wp2
                go_roundw
                case rel => exact ⟨q + 1, c7, a7, _, _, hqm, by go_num, Lib.hid HN7.out.2.2⟩
                case measure => simp [intOf]; omega
          · have hqe : q = mr := by omega
            subst hqe
            obtain ⟨hpl, hpm, hrow, htn, hok⟩ := HPS.out
            have hF := HIN.out.row.fin @rsOk_stay hwr5 HIN.out.tn HIN.out.ok
            rw [fin_no HOK.out] at hF
            have hrv := own_rows hF.1 hF.2 (by rw [HIN.out.len]; unfold BIG; omega)
            rw [HIN.out.fst, List.take_of_length_le (by rw [← HG.out.2]; exact Nat.le_refl _)] at hrv
            have htf := HIN.out.tm.fin HIN.out.tn HIN.out.ok
            rw [fin_no HOK.out] at htf
            have hpp := tm_parts htf
            have hgc : GlC (hide D1 wr) g (.slice a1 m1 c1) (.slice a2 q c2) := glC_iff.2 ⟨HR.out.1, by rw [hpp.2]; exact htf, hrv⟩
            have hcs : (#[.int .i64 g.kind, .int .i64 k1, .int .i64 n1, .string s1, .slice a1 m1 c1, .slice a2 q c2] : Array Value).toList = glCells ⟨g, .slice a1 m1 c1, .slice a2 q c2⟩ := by
              have e := hpp.1
              unfold pCells at e
              simp only [List.cons.injEq, Value.int.injEq, Value.string.injEq, true_and, and_true] at e
              unfold glCells
              rw [e.1, e.2.1, e.2.2]
            obtain ⟨hrow9, hnext⟩ := gi_more hpl hpm hrow htn hok HG.out.1 hbel hgc hcs
            have HROW := Lib.hid hrow9
            have HN := Lib.hid hnext
            have HLE := Lib.hid (show w.heap.size ≤ (wr.alloc (.cells #[.int .i64 g.kind, .int .i64 k1, .int .i64 n1, .string s1, .slice a1 m1 c1, .slice a2 q c2] 80)).heap.size from Nat.le_trans htn.size (Nat.le_trans hbel.size (by simp)))
            have HONEC := Lib.hid (show ∀ u ∈ [Value.int .i64 g.kind, .int .i64 k1, .int .i64 n1, .string s1, .slice a1 m1 c1, .slice a2 q c2], u.oneCell' = true from fun u hu => by
              simp only [List.mem_cons, List.not_mem_nil, or_false] at hu
              rcases hu with rfl | rfl | rfl | rfl | rfl | rfl <;> rfl)
            clear hpl hpm hrow htn hok hF hrv htf hpp hgc hcs hrow9 hnext hbel
            go_wp2_with (at_builtin; refine wpList_append_k rfl _ _ 48 rfl w.heap.size 80 i0 (.agg #[.int .i64 0, .int .i64 0, .int .i64 0, .string ⟨#[]⟩, .slice none 0 0, .slice none 0 0]) 6 88 Tryz.underlying48 hi0 hz0 hs0 (by decide) hb0 rfl (.slice a' j c') j (ps.flatMap glCells) rfl HROW.out (some ⟨wr.heap.size, 0, none⟩) 1 1 [.int .i64 g.kind, .int .i64 k1, .int .i64 n1, .string s1, .slice a1 m1 c1, .slice a2 q c2] rfl rfl (Or.inr ⟨_, rfl, fun jj uu hu => cell_new wr #[.int .i64 g.kind, .int .i64 k1, .int .i64 n1, .string s1, .slice a1 m1 c1, .slice a2 q c2] _ jj uu hu⟩) HONEC.out (by unfold maxLen; omega) (by omega) HLE.out (j + 1) _ rfl rfl ?_; intro a7 c7 w7 hown7 hgrow7 hat7; have HN7 := Lib.hid (HN.out a7 c7 w7 hown7 hgrow7 hat7); clear hown7 hgrow7 hat7)
            go_roundw
            case rel => exact ⟨j + 1, c7, a7, by omega, rfl, by go_num, HN7⟩
            case measure => simp [intOf]; omega
    · have hje : j = m := by omega
      subst hje
      obtain ⟨D1, ps, hpl, hpm, hrow, htn, hok⟩ := HP.out
      have hpm2 : ps.map (·.g) = l := by rw [hpm, List.take_of_length_le (by rw [HM.out]; exact Nat.le_refl _)]
      have HEND := Lib.hid (show GoOwn D w l (.returned (.slice a' j c')) wr from ⟨a', j, c', D1, ps, rfl, hpl, hpm2, hrow, htn, hok⟩)
      clear hpl hpm hrow htn hok hpm2 HP
      go_wp2
      go_ret
      exact HEND.out
theorem goals_own (l : List Gl) (D : Nat → Bool) (w : World) (v : Value) (hD : Old D w) (hv : GoalsV w l v) : Calls Tryz.prog 21 #[v] w (GoOwn D w l) :=
  goals_own_step (cntL l) (fun r _ D w v hD hv => goals_at r D w v hD hv) l (Nat.lt_succ_self _) D w v hD hv
theorem wpList_append_kw {P : Program} {w : World} {ops : Array Oper} {rest : List Oper} {o : Oper} {a : Act} {Q : Exit → Act → World → Prop} (hwd : Region.wanted o (yielded ops a.tmps) = true) (s x : Operand) (t : TypeId)
    (ho : o.op = .call { callee := .builtin .append, args := #[s, x], argTypes := #[t, t] })
    (base : Nat) (e : TypeId) (i : TypeInfo) (z : Value) (size bytes : Nat) (ht : P.underlying t = some (.slice e)) (hi : P.info? e = some i) (hz : i.zero = some z) (hsize : i.size = size) (hpos : 0 < size) (hby : i.bytes = bytes) (hzs : z.cells.size = size)
    (v : Value) (n : Nat) (xs : List Value) (hs : a.eval s = v) (hown : w.ownsRow base e size v n xs) (ao : Option Addr) (m c : Nat) (news : List Value) (hx : a.eval x = .slice ao m c) (hl : news.length = m * size)
    (hsrc : m = 0 ∨ ∃ ad, ao = some ad ∧ ∀ j u, news[j]? = some u → w.cell? (ad.add j) = some u) (h1 : ∀ u ∈ news, u.oneCell' = true)
    (h63 : n + m ≤ maxLen) (hbytes : (n + m) * bytes ≤ 140737488355328) (hbase : base ≤ w.heap.size) (N : Nat) (L : List Value) (hN : N = n + m) (hL : L = xs ++ news)
    (h : ∀ (a' : Option Addr) (c' : Nat) (w' : World), w'.ownsRow base e size (.slice a' N c') N L → w.grownBy w' v.ownBlock → ((Value.slice a' N c').ownBlock = v.ownBlock ∨ (Value.slice a' N c').ownBlock = some w.heap.size) → wpList P ops Q rest (a.put o.dst (.slice a' N c')) w') :
    wpList P ops Q (o :: rest) a w := by
  refine wpList_step fun K hK => ?_
  rw [if_pos hwd]
  exact wp_append_k s x t ho base e i z size bytes ht hi hz hsize hpos hby hzs v n xs hs hown ao m c news hx hl hsrc h1 h63 hbytes hbase N L hN hL (fun a' c' w' h2 h3 h4 => hK _ _ (h a' c' w' h2 h3 h4))
/-- Goals of the call's own, and goals behind them. -/
theorem app_goals {D D1 : Nat → Bool} {wX w6 w7 w8 : World} {l m : List Gl} {a6 a8 : Option Addr} {n6 c6 c8 N : Nat} {ps qs : List GlP} (hD : Old D wX) (hn : ps.length = n6) (hl : ps.map (·.g) = l) (hrow : RowQ 6 glCells glOk 80 D1 noM w6 wX.heap.size (.slice a6 n6 c6) ps) (htn : Turn D noM D1 noM wX w6) (hok : Okd D1 noM w6)
    (hb7 : Below w6.heap.size w6 w7) (hq : qs.map (·.g) = m) (hqok : ∀ q ∈ qs, glOk (hide D1 w7) q) (hg : w7.grownBy w8 (Value.slice a6 n6 c6).ownBlock) (hat : (Value.slice a8 N c8).ownBlock = (Value.slice a6 n6 c6).ownBlock ∨ (Value.slice a8 N c8).ownBlock = some w7.heap.size)
    (hN : N = n6 + qs.length) (hr : w8.ownsRow wX.heap.size 80 6 (.slice a8 N c8) N (ps.flatMap glCells ++ qs.flatMap glCells)) (hbig : N ≤ 1000000) : GoalsV w8 (l ++ m) (.slice a8 N c8) ∧ Below wX.heap.size wX w8 := by
  have hR := hrow.turn (M := noM) @glOk_stay (Turn.below (D := D1) (M := noM) hb7) hok.1
  have hok7 := hok.later hb7.size
  have hT := (htn.trans (Turn.below (D := D1) (M := noM) hb7)).grown hg (fun g e => (row_in hrow.1 e).1) hat
  have hM := hR.many @glOk_stay hqok hok7 hg hat (by rw [hn, ← hN]; exact hr)
  have hO : Okd (withB D1 (.slice a8 N c8)) noM w8 := ⟨fun k hk => absurd hk (by simp), fun k hk => by
    rw [withB_no (fun e => by have := (row_in hr e).2; omega)]
    exact hok7.2 k (by have := hg.size; omega)⟩
  have hF := hM.fin @glOk_stay (Nat.le_refl _) hT hO
  rw [fin_no hD] at hF
  have hlen : (ps ++ qs).length = N := by rw [List.length_append, hn, hN]
  have hgv := own_goals hF.1 hF.2 (by rw [hlen]; unfold BIG; omega)
  rw [List.map_append, hl, hq] at hgv
  exact ⟨hgv.stay (Stays.unhide _ _), hT.bel (Nat.le_refl _) (fun _ _ => rfl)⟩
end Go.Proofs.YtaojalicnnnkmaaGreatDoor
/- Maps whose keys are addresses, whose values are numbers: made and asked in one call. Nothing here speaks of one program. -/
namespace Go.Proofs.YtaojalicnnnkmaaGreatDoor
open Go.RowKit
set_option linter.unusedVariables false

/-- A block of cells with no mark. -/
def Plain (w : World) (k : Nat) : Prop := ∃ c t, w.heap[k]? = some (.cells c t (0, 0))
theorem Plain.below {w w' : World} {k : Nat} (h : Plain w k) (hb : Below w.heap.size w w') : Plain w' k := by
  obtain ⟨c, t, e⟩ := h
  exact ⟨c, t, (hb.block k (Array.getElem?_eq_some_iff.1 e).1).trans e⟩
section
variable {P : Program} {k te : TypeId} {j : TypeInfo} {w : World}
theorem grown_put (w : World) (b : Nat) (o : Obj) : w.grownBy { w with heap := w.heap.setIfInBounds b o } (some b) :=
  ⟨rfl, rfl, rfl, by simp, fun i _ hne => by
    show (w.heap.setIfInBounds b o)[i]? = w.heap[i]?
    rw [Array.getElem?_setIfInBounds]
    rw [if_neg (fun e => hne (by rw [e]))]⟩
theorem wpList_look_run {ops : Array Oper} {rest : List Oper} {o : Oper} {a : Act} {Q : Exit → Act → World → Prop} (hg : o.guard = none) (m x : Operand) (t : TypeId) (hop : o.op = Op.lookup t m x true) {M X r : Value} (hm : a.eval m = M) (hx : a.eval x = X)
    (hrun : (Instr.lookup t M X true).run P w = .ok r w) (hK : wpList P ops Q rest (a.put o.dst r) w) : wpList P ops Q (o :: rest) a w := by
  refine wpList_plain hg fun K' hK' => ?_
  unfold Oper.wp
  simp [execOp, hop, hm, hx, hrun, Result.andThen]
  exact hK' _ _ hK
theorem wpList_put_run {w' : World} {ops : Array Oper} {rest : List Oper} {o : Oper} {a : Act} {Q : Exit → Act → World → Prop} (hg : o.guard = none) (m x v : Operand) (t : TypeId) (hop : o.op = Op.mapUpdate t m x v) {M X V : Value} (hm : a.eval m = M) (hx : a.eval x = X) (hv : a.eval v = V)
    (hrun : (Instr.mapUpdate t M X V).run P w = .ok () w') (hK : wpList P ops Q rest (a.put o.dst undef) w') : wpList P ops Q (o :: rest) a w := by
  refine wpList_plain hg fun K' hK' => ?_
  unfold Oper.wp
  simp [execOp, hop, hm, hx, hv, hrun, Result.andThen]
  exact hK' _ _ hK
end
end Go.Proofs.YtaojalicnnnkmaaGreatDoor
/- A row in the making whose elements hang on what bears no mark as well (RowQ's laws once more). Nothing here speaks of one program. -/
namespace Go.Proofs.YtaojalicnnnkmaaGreatDoor
open Go.RowKit
set_option linter.unusedVariables false

/-- Each cell that is there is there still, and what bears no mark bears none. -/
def Keeps (w w' : World) : Prop := Stays w w' ∧ ∀ k, Plain w k → Plain w' k
theorem plain_hide {D : Nat → Bool} {w : World} {k : Nat} : Plain (hide D w) k ↔ D k = false ∧ Plain w k := by
  constructor
  · rintro ⟨c, t, e⟩
    cases hd : D k with
    | false => exact ⟨rfl, c, t, by rw [← hide_get D w k hd]; exact e⟩
    | true =>
      exfalso
      unfold hide at e
      simp only [Array.getElem?_mapIdx] at e
      cases hh : w.heap[k]? with
      | none => rw [hh] at e; cases e
      | some o => rw [hh] at e; simp [hd] at e
  · rintro ⟨h1, c, t, e⟩
    exact ⟨c, t, by rw [hide_get D w k h1]; exact e⟩
theorem Keeps.hide {D D' : Nat → Bool} {w w' : World} (hs : w.heap.size ≤ w'.heap.size) (hk : ∀ k, k < w.heap.size → D k = false → D' k = false ∧ w'.heap[k]? = w.heap[k]?) : Keeps (Go.Proofs.YtaojalicnnnkmaaGreatDoor.hide D w) (Go.Proofs.YtaojalicnnnkmaaGreatDoor.hide D' w') := by
  refine ⟨Stays.hide hs hk, fun k hp => ?_⟩
  obtain ⟨h1, h2⟩ := plain_hide.1 hp
  obtain ⟨c, t, e⟩ := h2
  obtain ⟨g1, g2⟩ := hk k (Array.getElem?_eq_some_iff.1 e).1 h1
  exact plain_hide.2 ⟨g1, c, t, g2.trans e⟩
theorem Keeps.below {D D' : Nat → Bool} {w w' : World} (hb : Below w.heap.size w w') (hD : ∀ k, k < w.heap.size → D k = false → D' k = false) : Keeps (Go.Proofs.YtaojalicnnnkmaaGreatDoor.hide D w) (Go.Proofs.YtaojalicnnnkmaaGreatDoor.hide D' w') :=
  Keeps.hide hb.size fun k hk hd => ⟨hD k hk hd, hb.block k hk⟩
theorem Keeps.less {D D' : Nat → Bool} {w : World} (hD : ∀ k, D k = false → D' k = false) : Keeps (Go.Proofs.YtaojalicnnnkmaaGreatDoor.hide D w) (Go.Proofs.YtaojalicnnnkmaaGreatDoor.hide D' w) :=
  Keeps.hide (Nat.le_refl _) fun k _ hd => ⟨hD k hd, rfl⟩
theorem Keeps.set {D : Nat → Bool} {w : World} (a : Addr) (v : Value) (h : D a.block = true) : Keeps (Go.Proofs.YtaojalicnnnkmaaGreatDoor.hide D w) (Go.Proofs.YtaojalicnnnkmaaGreatDoor.hide D (w.setCell a v)) :=
  Keeps.hide (by simp [World.setCell]) fun k _ hd => ⟨hd, Below.heap_setCell w a v k (fun e => by rw [e, h] at hd; cases hd)⟩
theorem keeps_bel {D : Nat → Bool} {w w' : World} (hb : Below w.heap.size w w') : Keeps (hide D w) (hide D w') := Keeps.below hb fun _ _ h => h
theorem keeps_bare {w w' : World} (hb : Below w.heap.size w w') : Keeps w w' := ⟨⟨hb.size, fun x v hv => cell_later hb hv⟩, fun k hp => hp.below hb⟩
theorem Turn.keeps {D M D' M' : Nat → Bool} {w w' : World} (h : Turn D M D' M' w w') (md : ∀ k, M k = true → D k = true) : Keeps (hide D w) (hide D' w') :=
  Keeps.hide h.size fun k hk hd => ⟨(h.dd k hk).trans hd, h.kept k hk (by cases hm : M k with | false => rfl | true => rw [md k hm] at hd; cases hd)⟩
theorem grown_keeps {D : Nat → Bool} {W w' : World} {v v' : Value} (hg : W.grownBy w' v.ownBlock) (hD : ∀ g, v.ownBlock = some g → D g = true) (hv : v'.ownBlock = v.ownBlock ∨ v'.ownBlock = some W.heap.size) : Keeps (hide D W) (hide (withB D v') w') :=
  Keeps.hide hg.size fun k hk hd => ⟨by
    rw [withB_no]
    · exact hd
    · intro e
      rcases hv with hv | hv
      · rw [hD k (hv.symm.trans e)] at hd; cases hd
      · rw [hv] at e; injection e with e; omega, hg.block k hk (fun e => by rw [hD k e.symm] at hd; cases hd)⟩
/-- Being ok hangs on the cells that are there and on what bears no mark. -/
def KeepOk {α : Type} (ok : World → α → Prop) : Prop := ∀ {w w' : World} {x : α}, Keeps w w' → ok w x → ok w' x
section
variable {α : Type} {S : Nat} {cells : α → List Value} {ok : World → α → Prop} {ty : TypeId}
theorem RowQ.turnK (hs : KeepOk ok) {D M D' M' : Nat → Bool} {w w' : World} {base : Nat} {v : Value} {ps : List α} (h : RowQ S cells ok ty D M w base v ps) (ht : Turn D M D' M' w w') (md : ∀ k, M k = true → D k = true) : RowQ S cells ok ty D' M' w' base v ps := by
  obtain ⟨h1, h2, h3⟩ := h
  refine ⟨row_at h1 (fun g hg => ht.kept g (row_in h1 hg).2 (h2 g hg).2), fun g hg => ?_, fun p hp => hs (ht.keeps md) (h3 p hp)⟩
  have hlt := (row_in h1 hg).2
  rw [ht.dd g hlt, ht.mm g hlt]
  exact h2 g hg
/-- One more. -/
theorem RowQ.moreK (hs : KeepOk ok) {D M : Nat → Bool} {W w' : World} {base : Nat} {v v' : Value} {ps : List α} {p : α} (h : RowQ S cells ok ty D M W base v ps) (hp : ok (hide D W) p) (ho : Okd D M W) (hg : W.grownBy w' v.ownBlock) (hv : v'.ownBlock = v.ownBlock ∨ v'.ownBlock = some W.heap.size)
    (hr : w'.ownsRow base ty S v' (ps.length + 1) (ps.flatMap cells ++ cells p)) : RowQ S cells ok ty (withB D v') M w' base v' (ps ++ [p]) := by
  obtain ⟨h1, h2, h3⟩ := h
  have hst := grown_keeps hg (fun g e => (h2 g e).1) hv
  refine ⟨?_, fun g hg' => ⟨withB_own hg', ?_⟩, fun q hq => ?_⟩
  · rw [List.length_append, List.flatMap_append, List.length_singleton]
    simpa using hr
  · rcases hv with hv | hv
    · exact (h2 g (hv.symm.trans hg')).2
    · rw [hv] at hg'
      injection hg' with e
      subst e
      cases hm : M W.heap.size with
      | false => rfl
      | true => have := ho.1 _ hm; rw [ho.2 _ (Nat.le_refl _)] at this; cases this
  · rcases List.mem_append.1 hq with hq | hq
    · exact hs hst (h3 q hq)
    · simp at hq
      subst hq
      exact hs hst hp
theorem RowQ.putK (hs : KeepOk ok) {D M : Nat → Bool} {w : World} {base : Nat} {v : Value} {ps : List α} (h : RowQ S cells ok ty D M w base v ps) (a : Addr) (u : Value) (hd : D a.block = true) (hne : ∀ g, v.ownBlock = some g → g ≠ a.block) : RowQ S cells ok ty D M (w.setCell a u) base v ps :=
  ⟨row_at h.1 (fun g hg => Below.heap_setCell w a u g (hne g hg)), h.2.1, fun p hp => hs (Keeps.set a u hd) (h.2.2 p hp)⟩
/-- The row is looked at again. -/
theorem RowQ.finK (hs : KeepOk ok) {D M D1 M' : Nat → Bool} {w w' : World} {v : Value} {ps : List α} {base : Nat} (hbase : w.heap.size ≤ base) (h : RowQ S cells ok ty D1 M' w' base v ps) (ht : Turn D M D1 M' w w') (ho : Okd D1 M' w') :
    (hide (Fin D M' w.heap.size) w').ownsRow base ty S v ps.length (ps.flatMap cells) ∧ ∀ p ∈ ps, ok (hide (Fin D M' w.heap.size) w') p := by
  obtain ⟨h1, h2, h3⟩ := h
  refine ⟨row_at h1 (fun g hg => hide_get _ _ _ ?_), fun p hp => hs (Keeps.less fun k hk => fin_less ht ho hk) (h3 p hp)⟩
  rw [fin_new (Nat.le_trans hbase (row_in h1 hg).1)]
  exact (h2 g hg).2
end
end Go.Proofs.YtaojalicnnnkmaaGreatDoor
/- Goals in memory whose rows bear no mark. Nothing here speaks of one program. -/
namespace Go.Proofs.YtaojalicnnnkmaaGreatDoor
open Go.RowKit
set_option linter.unusedVariables false

mutual
/-- How goals lie: kinds and rows, all of them in blocks without a mark. -/
def SkG (w : World) : Gl → Value → Prop
  | .mk _ _ ls, v => ∃ (a : Option Addr) (c : Nat), v = .slice a ls.length c ∧ (ls = [] ∨ ∃ b off, a = some ⟨b, off, none⟩ ∧ SkR w ls b off)
def SkRow (w : World) : List Gl → Nat → Nat → Prop
  | [], _, _ => True
  | g :: r, b, off => (∃ v, w.cell? ⟨b, off, none⟩ = some (.int .i64 g.kind) ∧ w.cell? ⟨b, off + 5, none⟩ = some v ∧ SkG w g v) ∧ SkRow w r b (off + 6)
def SkR (w : World) : List (List Gl) → Nat → Nat → Prop
  | [], _, _ => True
  | l :: r, b, off => (∃ v, w.cell? ⟨b, off, none⟩ = some v ∧ ∃ (a : Option Addr) (c : Nat), v = .slice a l.length c ∧ (l = [] ∨ ∃ b' off', a = some ⟨b', off', none⟩ ∧ Plain w b' ∧ SkRow w l b' off')) ∧ SkR w r b (off + 1)
end
/-- A row of goals lies so. -/
def SkV (w : World) (l : List Gl) (v : Value) : Prop := ∃ (a : Option Addr) (c : Nat), v = .slice a l.length c ∧ (l = [] ∨ ∃ b off, a = some ⟨b, off, none⟩ ∧ Plain w b ∧ SkRow w l b off)
/-- Rows of goals lie so. -/
def SkW (w : World) (ls : List (List Gl)) (v : Value) : Prop := ∃ (a : Option Addr) (c : Nat), v = .slice a ls.length c ∧ (ls = [] ∨ ∃ b off, a = some ⟨b, off, none⟩ ∧ SkR w ls b off)
theorem skG_iff {w : World} {g : Gl} {v : Value} : SkG w g v ↔ SkW w g.l v := by
  obtain ⟨k, t, ls⟩ := g
  rw [SkG]
  exact Iff.rfl
theorem skR_cons {w : World} {l : List Gl} {r : List (List Gl)} {b off : Nat} : SkR w (l :: r) b off ↔ (∃ v, w.cell? ⟨b, off, none⟩ = some v ∧ SkV w l v) ∧ SkR w r b (off + 1) := by
  rw [SkR]
  exact Iff.rfl
mutual
theorem SkG.keep {w w' : World} (hb : Keeps w w') : ∀ (g : Gl) (v : Value), SkG w g v → SkG w' g v
  | .mk k t ls, v, h => by
    rw [SkG] at h ⊢
    obtain ⟨a, c, e1, e5⟩ := h
    refine ⟨a, c, e1, ?_⟩
    rcases e5 with e5 | ⟨b, off, f1, f3⟩
    · exact Or.inl e5
    · exact Or.inr ⟨b, off, f1, SkR.keep hb ls b off f3⟩
theorem SkRow.keep {w w' : World} (hb : Keeps w w') : ∀ (l : List Gl) (b off : Nat), SkRow w l b off → SkRow w' l b off
  | [], b, off, _ => by rw [SkRow]; trivial
  | g :: r, b, off, h => by
    rw [SkRow] at h ⊢
    obtain ⟨⟨v, h0, h1, h2⟩, h3⟩ := h
    exact ⟨⟨v, hb.1.2 _ _ h0, hb.1.2 _ _ h1, SkG.keep hb g v h2⟩, SkRow.keep hb r b (off + 6) h3⟩
theorem SkR.keep {w w' : World} (hb : Keeps w w') : ∀ (l : List (List Gl)) (b off : Nat), SkR w l b off → SkR w' l b off
  | [], b, off, _ => by rw [SkR]; trivial
  | l :: r, b, off, h => by
    rw [SkR] at h ⊢
    obtain ⟨⟨v, h1, a, c, e1, e5⟩, h3⟩ := h
    refine ⟨⟨v, hb.1.2 _ _ h1, a, c, e1, ?_⟩, SkR.keep hb r b (off + 1) h3⟩
    rcases e5 with e5 | ⟨b', off', f1, f2, f3⟩
    · exact Or.inl e5
    · exact Or.inr ⟨b', off', f1, hb.2 _ f2, SkRow.keep hb l b' off' f3⟩
end
theorem SkV.keep {w w' : World} {l : List Gl} {v : Value} (h : SkV w l v) (hb : Keeps w w') : SkV w' l v := by
  obtain ⟨a, c, e1, e5⟩ := h
  refine ⟨a, c, e1, ?_⟩
  rcases e5 with e5 | ⟨b, off, f1, f2, f3⟩
  · exact Or.inl e5
  · exact Or.inr ⟨b, off, f1, hb.2 _ f2, SkRow.keep hb l b off f3⟩
theorem SkW.keep {w w' : World} {l : List (List Gl)} {v : Value} (h : SkW w l v) (hb : Keeps w w') : SkW w' l v := by
  obtain ⟨a, c, e1, e5⟩ := h
  refine ⟨a, c, e1, ?_⟩
  rcases e5 with e5 | ⟨b, off, f1, f3⟩
  · exact Or.inl e5
  · exact Or.inr ⟨b, off, f1, SkR.keep hb l b off f3⟩
theorem SkV.nil (w : World) : SkV w [] (.slice none 0 0) := ⟨none, 0, rfl, Or.inl rfl⟩
theorem SkW.nil (w : World) : SkW w [] (.slice none 0 0) := ⟨none, 0, rfl, Or.inl rfl⟩
theorem SkRow.get {w : World} : ∀ {l : List Gl} {b off : Nat}, SkRow w l b off → ∀ (i : Nat) (g : Gl), l[i]? = some g → ∃ v, w.cell? ⟨b, off + i * 6, none⟩ = some (.int .i64 g.kind) ∧ w.cell? ⟨b, off + i * 6 + 5, none⟩ = some v ∧ SkW w g.l v
  | [], b, off, _, i, g, hg => by simp at hg
  | y :: r, b, off, h, 0, g, hg => by
    simp at hg
    subst hg
    rw [SkRow] at h
    rw [Nat.zero_mul, Nat.add_zero]
    obtain ⟨⟨v, h1, h2, h3⟩, _⟩ := h
    exact ⟨v, h1, h2, skG_iff.1 h3⟩
  | y :: r, b, off, h, i + 1, g, hg => by
    rw [SkRow] at h
    have := SkRow.get h.2 i g (by simpa using hg)
    rw [show off + (i + 1) * 6 = off + 6 + i * 6 by omega]
    exact this
theorem SkRow.mk {w : World} : ∀ {l : List Gl} {b off : Nat}, (∀ (i : Nat) (g : Gl), l[i]? = some g → ∃ v, w.cell? ⟨b, off + i * 6, none⟩ = some (.int .i64 g.kind) ∧ w.cell? ⟨b, off + i * 6 + 5, none⟩ = some v ∧ SkW w g.l v) → SkRow w l b off
  | [], b, off, _ => by rw [SkRow]; trivial
  | y :: r, b, off, h => by
    rw [SkRow]
    refine ⟨?_, SkRow.mk fun i g hg => ?_⟩
    · obtain ⟨v, h1, h2, h3⟩ := h 0 y rfl
      rw [Nat.zero_mul, Nat.add_zero] at h1 h2
      exact ⟨v, h1, h2, skG_iff.2 h3⟩
    · have := h (i + 1) g (by simpa using hg)
      rw [show off + (i + 1) * 6 = off + 6 + i * 6 by omega] at this
      exact this
theorem SkR.get {w : World} : ∀ {l : List (List Gl)} {b off : Nat}, SkR w l b off → ∀ (i : Nat) (g : List Gl), l[i]? = some g → ∃ v, w.cell? ⟨b, off + i, none⟩ = some v ∧ SkV w g v
  | [], b, off, _, i, g, hg => by simp at hg
  | y :: r, b, off, h, 0, g, hg => by
    simp at hg
    subst hg
    exact (skR_cons.1 h).1
  | y :: r, b, off, h, i + 1, g, hg => by
    have := SkR.get (skR_cons.1 h).2 i g (by simpa using hg)
    rw [show off + (i + 1) = off + 1 + i by omega]
    exact this
theorem SkR.mk {w : World} : ∀ {l : List (List Gl)} {b off : Nat}, (∀ (i : Nat) (g : List Gl), l[i]? = some g → ∃ v, w.cell? ⟨b, off + i, none⟩ = some v ∧ SkV w g v) → SkR w l b off
  | [], b, off, _ => by rw [SkR]; trivial
  | y :: r, b, off, h => by
    refine skR_cons.2 ⟨h 0 y rfl, SkR.mk fun i g hg => ?_⟩
    have := h (i + 1) g (by simpa using hg)
    rw [show off + (i + 1) = off + 1 + i by omega] at this
    exact this
mutual
/-- What lies so is one and the same, but for its terms. -/
theorem SkG.same {w : World} : ∀ (g g' : Gl) (v : Value), SkG w g v → SkG w g' v → cntR g.l = cntR g'.l ∧ cutR g.l = cutR g'.l ∧ cutT g.l = cutT g'.l
  | .mk k t ls, .mk k' t' ls', v, h, h' => by
    rw [SkG] at h h'
    obtain ⟨a, c, rfl, h5⟩ := h
    obtain ⟨a', c', e, g5⟩ := h'
    injection e with e1 e2 e3
    subst e1
    show cntR ls = cntR ls' ∧ cutR ls = cutR ls' ∧ cutT ls = cutT ls'
    rcases h5 with rfl | ⟨b, off, rfl, f1⟩
    · obtain rfl : ls' = [] := List.length_eq_zero_iff.1 e2.symm
      exact ⟨rfl, rfl, rfl⟩
    · rcases g5 with rfl | ⟨b', off', e4, f2⟩
      · obtain rfl : ls = [] := List.length_eq_zero_iff.1 e2
        exact ⟨rfl, rfl, rfl⟩
      · cases e4
        exact SkR.same ls ls' b off e2 f1 f2
theorem SkRow.same {w : World} : ∀ (l l' : List Gl) (b off : Nat), l.length = l'.length → SkRow w l b off → SkRow w l' b off → cntL l = cntL l' ∧ cutL l = cutL l'
  | [], [], b, off, _, _, _ => ⟨rfl, rfl⟩
  | .mk k t ls :: r, .mk k' t' ls' :: q, b, off, hl, h, h' => by
    rw [SkRow] at h h'
    obtain ⟨⟨v, h0, h1, h2⟩, h3⟩ := h
    obtain ⟨⟨v', g0, g1, g2⟩, g3⟩ := h'
    rw [h0] at g0; rw [h1] at g1
    cases g1
    have hk : k = k' := by injection g0 with g0; injection g0
    subst hk
    obtain ⟨a1, a2, a3⟩ := SkG.same _ _ v h2 g2
    obtain ⟨b1, b2⟩ := SkRow.same r q b (off + 6) (by simpa using hl) h3 g3
    simp only [Gl.l] at a1 a2 a3
    refine ⟨by rw [cntL, cntL, cntG, cntG, a1, b1], by rw [cutL, cutL, cutG, cutG, a2, a3, b2]⟩
  | [], y :: q, b, off, hl, _, _ => by simp at hl
  | x :: r, [], b, off, hl, _, _ => by simp at hl
theorem SkR.same {w : World} : ∀ (l l' : List (List Gl)) (b off : Nat), l.length = l'.length → SkR w l b off → SkR w l' b off → cntR l = cntR l' ∧ cutR l = cutR l' ∧ cutT l = cutT l'
  | [], [], b, off, _, _, _ => ⟨rfl, rfl, rfl⟩
  | x :: r, y :: q, b, off, hl, h, h' => by
    rw [SkR] at h h'
    obtain ⟨⟨v, h1, a, c, rfl, h5⟩, h3⟩ := h
    obtain ⟨⟨v', g1, a', c', rfl, g5⟩, g3⟩ := h'
    rw [h1] at g1
    injection g1 with e
    injection e with e1 e2 e3
    subst e1
    obtain ⟨b1, b2, b3⟩ := SkR.same r q b (off + 1) (by simpa using hl) h3 g3
    have key : cntL x = cntL y ∧ cutL x = cutL y := by
      rcases h5 with rfl | ⟨b', off', rfl, f0, f1⟩
      · obtain rfl : y = [] := List.length_eq_zero_iff.1 e2.symm
        exact ⟨rfl, rfl⟩
      · rcases g5 with rfl | ⟨b2', off2', e4, _, f2⟩
        · obtain rfl : x = [] := List.length_eq_zero_iff.1 e2
          exact ⟨rfl, rfl⟩
        · cases e4
          exact SkRow.same x y b' off' e2 f1 f2
    exact ⟨by rw [cntR, cntR, key.1, b1], by rw [cutR, cutR, key.2, b2], by rw [cutT, cutT, b2]⟩
  | [], y :: q, b, off, hl, _, _ => by simp at hl
  | x :: r, [], b, off, hl, _, _ => by simp at hl
end
/-- Goals, and how they lie. -/
def GoalsK (w : World) (l : List Gl) (v : Value) : Prop := GoalsV w l v ∧ SkV w l v
theorem GoalsK.nil (w : World) : GoalsK w [] (.slice none 0 0) := ⟨GoalsV.nil w, SkV.nil w⟩
theorem GoalsK.keep {w w' : World} {l : List Gl} {v : Value} (h : GoalsK w l v) (hb : Keeps w w') : GoalsK w' l v := ⟨h.1.stay hb.1, h.2.keep hb⟩
def RowsK (w : World) (ls : List (List Gl)) (v : Value) : Prop := RowsV w ls v ∧ SkW w ls v
theorem RowsK.keep {w w' : World} {l : List (List Gl)} {v : Value} (h : RowsK w l v) (hb : Keeps w w') : RowsK w' l v := ⟨h.1.stay hb.1, h.2.keep hb⟩
/-- A row of goals of the call's own. -/
def gkOk (w : World) (p : GlP) : Prop := glOk w p ∧ SkG w p.g p.v
theorem gkOk_keep : KeepOk gkOk := fun hs h => ⟨GlC.stay hs.1 _ _ _ h.1, SkG.keep hs _ _ h.2⟩
def rkOk (w : World) (p : List Gl × Value) : Prop := GoalsK w p.1 p.2
theorem rkOk_keep : KeepOk rkOk := fun hs h => GoalsK.keep h hs
theorem own_goalsK {w : World} {base : Nat} {ty : TypeId} {v : Value} {ps : List GlP} (h : w.ownsRow base ty 6 v ps.length (ps.flatMap glCells)) (hp : ∀ p ∈ ps, gkOk w p) (hl : ps.length * 88 ≤ BIG) : GoalsK w (ps.map (·.g)) v := by
  refine ⟨own_goals h (fun p hpm => (hp p hpm).1) hl, ?_⟩
  have hown := h
  obtain ⟨a, c, rfl, h1, h2, h3⟩ := Elems.owned glCells_len h
  refine ⟨a, c, by rw [List.length_map], ?_⟩
  rcases h3 with rfl | ⟨b, off, rfl, hb, hc⟩
  · left; rfl
  · have hpl : Plain w b := by
      rcases hown.2 with ⟨e, _⟩ | ⟨g, cap, cur, e, _, hh, _⟩
      · cases e
      · cases e
        exact ⟨cur, ty, hh⟩
    refine Or.inr ⟨b, off, rfl, hpl, SkRow.mk fun i x hx => ?_⟩
    rw [List.getElem?_map] at hx
    obtain ⟨p, hpi, rfl⟩ := Option.map_eq_some_iff.1 hx
    exact ⟨p.v, by have := hc i p hpi 0 _ rfl; simpa [Nat.add_assoc] using this, by have := hc i p hpi 5 _ rfl; simpa [Nat.add_assoc] using this, skG_iff.1 (hp p (List.mem_of_getElem? hpi)).2⟩
theorem own_rowsK {w : World} {base : Nat} {ty : TypeId} {v : Value} {ps : List (List Gl × Value)} (h : w.ownsRow base ty 1 v ps.length (ps.flatMap rsCells)) (hp : ∀ p ∈ ps, rkOk w p) (hl : ps.length * 24 ≤ BIG) : RowsK w (ps.map (·.1)) v := by
  refine ⟨own_rows h (fun p hpm => (hp p hpm).1) hl, ?_⟩
  obtain ⟨a, c, rfl, h1, h2, h3⟩ := Elems.owned rsCells_len h
  refine ⟨a, c, by rw [List.length_map], ?_⟩
  rcases h3 with rfl | ⟨b, off, rfl, hb, hc⟩
  · left; rfl
  · refine Or.inr ⟨b, off, rfl, SkR.mk fun i x hx => ?_⟩
    rw [List.getElem?_map] at hx
    obtain ⟨p, hpi, rfl⟩ := Option.map_eq_some_iff.1 hx
    exact ⟨p.2, by have := hc i p hpi 0 _ rfl; simpa using this, (hp p (List.mem_of_getElem? hpi)).2⟩
end Go.Proofs.YtaojalicnnnkmaaGreatDoor
