/- TermKnown walked. -/
import Derived.Test.YthikbenfhaglkaaTnY
namespace Go.Proofs.Ythikbenfhaglkaa
open Go.RowKit
set_option linter.unusedVariables false
set_option maxHeartbeats 8000000 in
set_option maxRecDepth 100000 in
theorem known_walk {W : World} : Calls Try.prog 3 #[] W fun e w' => IsBool W true e w' := by
  have hmk := made_z
  have C9 := fun (w1 : World) => comp_ps (w := w1.alloc (.cells Z9 25)) (ao := some ⟨w1.heap.size, 0, none⟩) (m := 9) (c := 9) (List.replicate 9 zp) ⟨#[102]⟩ rfl (by unfold BIG; omega) (pCells_one _ (w := w1) (fun p hp => by
    rw [List.eq_of_mem_replicate hp]
    exact z_tm w1)) (Or.inr ⟨_, rfl, fun j u hu => cell_new w1 Z9 _ j u (by rw [Z9_cells]; exact hu)⟩)
  go_enter Try.func3, Try.ntmps3
  (go_wp2_with fail; go_fit (tawake_at _); rintro e w1 ⟨rfl, b1⟩)
  have B1 := Lib.hid b1
  clear b1
  (go_wp2_with fail; go_fit (C9 _); rintro e w2 ⟨a9, c9, rfl, h9, b2⟩)
  have H9 : Hid (TmV w2 (.mk 2 0 ⟨#[102]⟩ (List.replicate 9 zT)) (.agg #[.int .i64 2, .int .i64 0, .string ⟨#[102]⟩, .slice a9 9 c9])) := Lib.hid (by
    have hT := h9.terms (fun p hp => by rw [List.eq_of_mem_replicate hp]; exact z_tm w2) (by rw [List.length_replicate]; unfold BIG; omega)
    rw [List.map_replicate] at hT
    exact tmV_iff.2 ⟨_, rfl, by unfold BIG; decide, i64_2, i64_0, hT⟩)
  have B2 := Lib.hid (Ext.trans' B1.out (Ext.trans' (bel1' _ _) b2))
  clear h9 b2 B1 C9 hmk
  go_wp2_with fail
  go_loopw [2] (fun z wr => ∃ i : Nat, i ≤ 11 ∧ z = .int .i64 i ∧ Hid (Below W.heap.size W wr ∧ Tms wr (.slice (some ⟨w2.heap.size + 1, 0, none⟩) 11 11) badT)) (fun z _ => 11 - (intOf z).toNat)
  case atStart =>
    refine ⟨0, by omega, rfl, Lib.hid ⟨Ext.trans' B2.out ((bel1' w2 _).alloc (by simp) _), ?_⟩⟩
    have hw := (bel1' w2 (box4 0 0 ⟨#[]⟩ (.slice none 0 0) 25)).alloc (o := .cells ((bps (.slice a9 9 c9) (.slice (some ⟨w2.heap.size, 0, none⟩) 1 1)).flatMap pCells).toArray 25) (by simp)
    have h10 := laid_tms (w := w2) (cs := #[.int .i64 0, .int .i64 0, .string ⟨#[]⟩, .slice none 0 0]) (ty := 25) [zp] rfl (fun p hp => by simp at hp; subst hp; exact z_tm _) (by unfold BIG; decide) rfl rfl
    have h11 := laid_tms (w := w2.alloc (box4 0 0 ⟨#[]⟩ (.slice none 0 0) 25)) (cs := ((bps (.slice a9 9 c9) (.slice (some ⟨w2.heap.size, 0, none⟩) 1 1)).flatMap pCells).toArray) (ty := 25) (bps (.slice a9 9 c9) (.slice (some ⟨w2.heap.size, 0, none⟩) 1 1)) rfl (bps_tm (TmV.ext hw _ _ H9.out) (h10.ext (bel1' _ _))) (by unfold BIG; simp [bps]) (n := 11) rfl (ts := badT) rfl
    rw [show (w2.alloc (box4 0 0 ⟨#[]⟩ (.slice none 0 0) 25)).heap.size = w2.heap.size + 1 by simp] at h11
    exact h11
  case round =>
    obtain ⟨i, hi, rfl, HI⟩ := hrel
    by_cases hil : i < 11
    · obtain ⟨y, hy⟩ : ∃ y, badT[i]? = some y := ⟨_, List.getElem?_eq_getElem hil⟩
      have hyg := bad_all y (List.mem_of_getElem? hy)
      obtain ⟨b, off, k1, n1, s1, u1, hbe, hbb, _, _, _, c0, c1, c2, c3, htu, hty⟩ := HI.out.2.get hy
      cases hbe
      obtain ⟨au, cu, rfl, _⟩ := htu.len
      obtain ⟨mu, hmu⟩ : ∃ m, y.args.length = m := ⟨_, rfl⟩
      rw [hmu] at c3 hty
      have IB := items_bad y wr _ hty hyg
      have GQ := Lib.hid (fun (wq : World) (hq : Below wr.heap.size wr wq) => by
        have h := Good_at y wq _ (TmV.ext hq _ _ hty)
        rw [hyg] at h
        exact h)
      have VQ := Lib.hid (fun (wq : World) (hq : Below wr.heap.size wr wq) => vars_bad y wq _ (TmV.ext hq _ _ hty) hyg)
      have SQ := Lib.hid (fun (wq : World) (hq : Below wr.heap.size wr wq) => by
        have h := Same_at (TmV.ext hq _ _ hty) (TmV.ext hq _ _ hty)
        rw [hyg, Bool.false_and, Bool.false_and] at h
        exact h)
      simp only [Nat.zero_add] at c0 c1 c2 c3
      clear htu hty hmu hy hyg
      (go_wp2_with fail; go_fit (IB); rintro e w3 ⟨rfl, b3⟩)
      have B3 := Lib.hid b3
      clear b3 IB
      go_wp2_with fail
      have hb5 : Below wr.heap.size wr (w3.alloc (.cells #[.int .i64 k1, .int .i64 n1, .string s1, .slice au mu cu] 25)) := Ext.trans' B3.out (bel1' _ _)
      have d0 := cell_later hb5 c0
      have d1 := cell_later hb5 c1
      have d2 := cell_later hb5 c2
      have d3 := cell_later hb5 c3
      have e0 : (w3.alloc (.cells #[.int .i64 k1, .int .i64 n1, .string s1, .slice au mu cu] 25)).cell? ⟨w3.heap.size, 0, none⟩ = some (.int .i64 k1) := by simp
      (refine wp_region_class (fun w' => (w'.cell? ⟨w2.heap.size + 1, i * 4, none⟩ = some (.int .i64 k1) ∧ w'.cell? ⟨w2.heap.size + 1, i * 4 + 1, none⟩ = some (.int .i64 n1) ∧ w'.cell? ⟨w2.heap.size + 1, i * 4 + 2, none⟩ = some (.string s1) ∧ w'.cell? ⟨w2.heap.size + 1, i * 4 + 3, none⟩ = some (.slice au mu cu) ∧ w'.cell? ⟨w3.heap.size, 0, none⟩ = some (.int .i64 k1)) ∧ Below wr.heap.size wr w') (by kernel_rfl) (by kernel_rfl) (⟨⟨d0, d1, d2, d3, e0⟩, hb5.drew⟩) ?_; (repeat (first | go_big_quiet_skip | (go_big_quiet_want; refine quiet_of ?_; apply Exists.intro; refine ⟨fun wq hq => ?_, ?_⟩; (focus ((try dsimp only at hq); go_simp; (first | done | with_reducible rfl | (first | (go_at_call 10; refine (GQ.out wq hq.2).mono ?_; rintro e w6 ⟨rfl, h6⟩; exact ⟨rfl, ⟨cell_later h6 hq.1.1, cell_later h6 hq.1.2.1, cell_later h6 hq.1.2.2.1, cell_later h6 hq.1.2.2.2.1, cell_later h6 hq.1.2.2.2.2⟩, Below.trans hq.2 (h6.mono hq.2.size)⟩) | (go_at_call 11; refine (VQ.out wq hq.2).mono ?_; rintro e w6 ⟨rfl, h6⟩; exact ⟨rfl, ⟨cell_later h6 hq.1.1, cell_later h6 hq.1.2.1, cell_later h6 hq.1.2.2.1, cell_later h6 hq.1.2.2.2.1, cell_later h6 hq.1.2.2.2.2⟩, Below.trans hq.2 (h6.mono hq.2.size)⟩) | (go_at_call 12; refine (SQ.out wq hq.2).mono ?_; rintro e w6 ⟨rfl, h6⟩; exact ⟨rfl, ⟨cell_later h6 hq.1.1, cell_later h6 hq.1.2.1, cell_later h6 hq.1.2.2.1, cell_later h6 hq.1.2.2.2.1, cell_later h6 hq.1.2.2.2.2⟩, Below.trans hq.2 (h6.mono hq.2.size)⟩) | fail) | fail))); try simp only [Act.put, List.setIfInBounds_toArray, List.set_cons_zero, List.set_cons_succ]; go_big_quiet_on) | fail)); refine wpQuiet_nil ?_; intro wz hz)
      have HZ := Lib.hid (show Below W.heap.size W wz ∧ Tms wz (.slice (some ⟨w2.heap.size + 1, 0, none⟩) 11 11) badT from ⟨Ext.trans' HI.out.1 hz.2, HI.out.2.ext hz.2⟩)
      clear hz d0 d1 d2 d3 e0 hb5 c0 c1 c2 c3
      go_wp2
      go_roundw
      case rel => exact ⟨i + 1, by omega, by go_num, HZ⟩
      case measure => simp [intOf]; omega
    · obtain rfl : i = 11 := by omega
      have B4 := Lib.hid HI.out.1
      clear HI H9 B2
      (go_wp2_with fail; go_fit (int_at _ _); rintro e w5 ⟨rfl, b5⟩)
      have B5 := Lib.hid (Ext.trans' B4.out b5)
      clear b5 B4
      have X5 := BoxAt.new (w := w5) (x := chainT 0) (k := 1) (n := 0) (s := ⟨#[]⟩) (u := .slice none 0 0) rfl rfl rfl (leaf_q noB w5 i64_1 i64_0 (by unfold BIG; decide))
      go_wp2_with fail
      go_loopw [6] (fun z wr => ∃ (i : Nat) (u : Value), i ≤ 63 ∧ z = .int .i64 i ∧ Hid (Below W.heap.size W wr ∧ BoxAt w5.heap.size wr (chainT i) u)) (fun z _ => 63 - (intOf z).toNat)
      case atStart => exact ⟨0, _, by omega, rfl, Lib.hid ⟨Ext.trans' B5.out (bel1' _ _), X5⟩⟩
      case round =>
        obtain ⟨i, u, hi, rfl, HX⟩ := hrel
        by_cases hil : i < 63
        · obtain ⟨k1, n1, s1, a1, m1, c1, q1, x0, x1, x2, x3⟩ := HX.out.2.full
          have CC := fun (w1 : World) (hw : Below wr.heap.size wr w1) (hsrc : ∀ (j : Nat) (v : Value), ([.int .i64 k1, .int .i64 n1, .string s1, .slice a1 m1 c1] : List Value)[j]? = some v → w1.cell? ((⟨wr.heap.size, 0, none⟩ : Addr).add j) = some v) => comp_one (w := w1) (c := 1) ⟨#[102]⟩ (by unfold BIG; decide) ((only_old HX.out.2.lt).mono hw.size) (q1.later hw) ⟨wr.heap.size, 0, none⟩ hsrc
          (go_wp2_with fail; go_fit (CC _ (bel1' _ _) (fun j v hv => cell_new _ _ _ j v hv)); rintro e w7 ⟨a7, c7, rfl, h7, b7⟩)
          obtain ⟨y0, y1, y2, y3, yf⟩ := HX.out.2.at4 b7
          have NX : Hid (BoxAt w5.heap.size (setFour w7 w5.heap.size (.int .i64 2) (.int .i64 0) (.string ⟨#[102]⟩) (.slice a7 1 c7)) (chainT (i + 1)) (.slice a7 1 c7)) := Lib.hid (HX.out.2.next' b7 (chain_succ i) h7)
          have B7 : Hid (Below W.heap.size W (setFour w7 w5.heap.size (.int .i64 2) (.int .i64 0) (.string ⟨#[102]⟩) (.slice a7 1 c7))) := Lib.hid (four_below _ _ _ _ (Ext.trans' HX.out.1 (Ext.trans' (bel1' _ _) b7)) B5.out.size)
          unfold setFour at NX B7
          clear b7 h7 CC q1
          go_wp2
          go_roundw
          case rel => exact ⟨i + 1, .slice a7 1 c7, by omega, by go_num, Lib.hid ⟨B7.out, NX.out⟩⟩
          case measure => simp [intOf]; omega
        · obtain rfl : i = 63 := by omega
          obtain ⟨kd, nd, sd, ad, md, cd, qd, x0, x1, x2, x3⟩ := HX.out.2.full
          have CC := fun (w1 : World) (hw : Below wr.heap.size wr w1) (hsrc : ∀ (j : Nat) (v : Value), ([.int .i64 kd, .int .i64 nd, .string sd, .slice ad md cd] : List Value)[j]? = some v → w1.cell? ((⟨wr.heap.size, 0, none⟩ : Addr).add j) = some v) => comp_one (w := w1) (c := 1) ⟨#[102]⟩ (by unfold BIG; decide) ((only_old HX.out.2.lt).mono hw.size) (qd.later hw) ⟨wr.heap.size, 0, none⟩ hsrc
          have QD := Lib.hid qd
          have XD := Lib.hid (And.intro x0 (And.intro x1 (And.intro x2 x3)))
          have B8 := Lib.hid HX.out.1
          (go_wp2_with fail; go_fit (CC _ (bel1' _ _) (fun j v hv => cell_new _ _ _ j v hv)); rintro e w7 ⟨ae, ce, rfl, h7, b7⟩)
          have QE : Hid (TmQ (only w5.heap.size) w7 (chainT 64) (.agg #[.int .i64 2, .int .i64 0, .string ⟨#[102]⟩, .slice ae 1 ce])) := Lib.hid h7
          have B7 := Lib.hid (Ext.trans' (bel1' wr _) b7)
          clear b7 h7 CC qd x0 x1 x2 x3 HX
          (go_wp2_with fail; go_fit (atom_at _ _); rintro e w8 ⟨rfl, b8⟩)
          have B9 := Lib.hid b8
          have X8 := BoxAt.new (w := w8) (x := wideT 0) (k := 2) (n := 0) (s := ⟨#[97]⟩) (u := .slice none 0 0) rfl rfl rfl (leaf_q noB w8 i64_2 i64_0 (by unfold BIG; decide))
          clear b8
          go_wp2_with fail
          go_loopw [9] (fun z wq => ∃ (i : Nat) (u : Value), i ≤ 4 ∧ z = .int .i64 i ∧ Hid (Below w8.heap.size w8 wq ∧ BoxAt w8.heap.size wq (wideT i) u)) (fun z _ => 4 - (intOf z).toNat)
          case atStart => exact ⟨0, _, by omega, rfl, Lib.hid ⟨bel1' _ _, X8⟩⟩
          case round =>
            obtain ⟨i, u, hi, rfl, HX⟩ := hrel
            by_cases hil : i < 4
            · obtain ⟨k1, n1, s1, a1, m1, c1, q1, x0, x1, x2, x3⟩ := HX.out.2.full
              have CC := comp_eight (w := wr.alloc (.cells (cs8 (.int .i64 k1) (.int .i64 n1) (.string s1) (.slice a1 m1 c1)) 25)) (c := 8) ⟨#[103]⟩ (by unfold BIG; decide) ((only_old HX.out.2.lt).mono (bel1' _ _).size) (q1.later (bel1' _ _)) ⟨wr.heap.size, 0, none⟩ (fun j v hv => cell_new wr _ _ j v (by rw [cs8_list]; exact hv))
              unfold cs8 at CC
              (go_wp2_with fail; go_fit (CC); rintro e w10 ⟨a7, c7, rfl, h7, b7⟩)
              obtain ⟨y0, y1, y2, y3, yf⟩ := HX.out.2.at4 b7
              have NX : Hid (BoxAt w8.heap.size (setFour w10 w8.heap.size (.int .i64 2) (.int .i64 0) (.string ⟨#[103]⟩) (.slice a7 8 c7)) (wideT (i + 1)) (.slice a7 8 c7)) := Lib.hid (HX.out.2.next' b7 (wide_succ i) h7)
              have B10 : Hid (Below w8.heap.size w8 (setFour w10 w8.heap.size (.int .i64 2) (.int .i64 0) (.string ⟨#[103]⟩) (.slice a7 8 c7))) := Lib.hid (four_below _ _ _ _ (Ext.trans' HX.out.1 (Ext.trans' (bel1' _ _) b7)) (Nat.le_refl _))
              unfold setFour at NX B10
              clear b7 h7 CC q1
              go_wp2
              go_roundw
              case rel => exact ⟨i + 1, .slice a7 8 c7, by omega, by go_num, Lib.hid ⟨B10.out, NX.out⟩⟩
              case measure => simp [intOf]; omega
            · obtain rfl : i = 4 := by omega
              obtain ⟨kw, nw, sw, aw, mw, cw, qw, z0, z1, z2, z3⟩ := HX.out.2.full
              have QW : Hid (TmV wr (wideT 4) (.agg #[.int .i64 kw, .int .i64 nw, .string sw, .slice aw mw cw])) := Lib.hid qw.bare
              have XW := Lib.hid (And.intro z0 (And.intro z1 (And.intro z2 z3)))
              have B10 := Lib.hid HX.out.1
              clear HX qw z0 z1 z2 z3 X8 X5
              (go_wp2_with fail; go_fit (int_at _ _); rintro e w10 ⟨rfl, b10⟩)
              (go_wp2_with fail; go_fit (atom_at _ _); rintro e w11 ⟨rfl, b11⟩)
              have B11 := Lib.hid (Ext.trans' b10 b11)
              clear b10 b11
              (go_wp2_with fail; go_fit (var_at _ _); rintro e w12 ⟨rfl, b12⟩)
              have B12 := Lib.hid b12
              have T12 : Tms (w11.alloc (.cells #[.int .i64 1, .int .i64 1, .string ⟨#[]⟩, .slice none 0 0, .int .i64 2, .int .i64 0, .string ⟨#[98]⟩, .slice none 0 0] 25)) (.slice (some ⟨w11.heap.size, 0, none⟩) 2 2) [intT 1, atomT ⟨#[98]⟩] := laid_tms [(intT 1, .slice none 0 0), (atomT ⟨#[98]⟩, .slice none 0 0)] rfl (fun p hp => by
                simp at hp
                rcases hp with rfl | rfl
                · exact leaf_tm _ i64_1 i64_1 (by unfold BIG; decide)
                · exact leaf_tm _ i64_2 i64_0 (by unfold BIG; decide)) (by unfold BIG; simp) rfl rfl
              have LI := list_in (D := noB) (w := w12) (oldNo w12) (by rw [show hide noB w12 = w12 from hide_none w12]; exact T12.ext b12) (by rw [show hide noB w12 = w12 from hide_none w12]; exact leaf_tm w12 (k := 0) (n := 0) (s := ⟨#[]⟩) i64_0 i64_0 (by unfold BIG; decide))
              clear T12 b12
              (go_wp2_with fail; go_fit (LI); rintro e w13 ⟨r, rfl, hT, b13⟩)
              obtain ⟨kl, nl, sl, al, ml, cl, rfl⟩ := hT.full
              have QL : Hid (TmV w13 lT (.agg #[.int .i64 kl, .int .i64 nl, .string sl, .slice al ml cl])) := Lib.hid hT.bare
              have B13 := Lib.hid b13
              have IT := items_at lT _ _ (TmV.ext (bel1' w13 (box4 kl nl sl (.slice al ml cl) 25)) _ _ QL.out) l_good
              clear hT b13 LI
              (go_wp2_with fail; go_fit (IT); rintro e w14 ⟨lv, tv, rfl, hm, ht, b14⟩)
              rw [l_items] at hm ht
              obtain ⟨am, cm, rfl, hm1, hm2, hm3⟩ := hm.len
              obtain ⟨kt, nt, st, at', mt, ct, rfl⟩ := ht.full
              have QM : Hid (Tms w14 (.slice am 2 cm) [intT 1, atomT ⟨#[98]⟩]) := Lib.hid hm
              have QT : Hid (TmV w14 (varT 0) (.agg #[.int .i64 kt, .int .i64 nt, .string st, .slice at' mt ct])) := Lib.hid ht
              have B14 := Lib.hid b14
              clear hm ht b14 IT
              (go_wp2_with fail; go_fit (atom_at _ _); rintro e w15 ⟨rfl, b15⟩)
              have B15 := Lib.hid b15
              have IN := items_at (atomT ⟨#[91, 93]⟩) w15 _ (leaf_tm w15 (k := 2) (n := 0) (s := ⟨#[91, 93]⟩) i64_2 i64_0 (by unfold BIG; decide)) nil_good
              clear b15
              (go_wp2_with fail; go_fit (IN); rintro e w16 ⟨lv2, tv2, rfl, hn, he, b16⟩)
              rw [nil_items] at hn he
              obtain ⟨an, cn, rfl, hn1, hn2, hn3⟩ := hn.len
              obtain ⟨ke, ne, se, ae2, me, ce2, rfl⟩ := he.full
              have QN : Hid (TmV w16 (atomT ⟨#[91, 93]⟩) (.agg #[.int .i64 ke, .int .i64 ne, .string se, .slice ae2 me ce2])) := Lib.hid he
              have B16 := Lib.hid b16
              clear hn he b16 IN
              go_wp2_with fail
              obtain ⟨wF, hwF⟩ : ∃ wF, w16.alloc (box4 ke ne se (.slice ae2 me ce2) 25) = wF := ⟨_, rfl⟩
              have F16 : Below w16.heap.size w16 wF := by rw [← hwF]; exact bel1' _ _
              have F15 := Ext.trans' B16.out F16
              have F14a := Ext.trans' B15.out F15
              have F14 := Ext.trans' (bel1' w14 _) F14a
              have F13a := Ext.trans' B14.out F14
              have F13 := Ext.trans' (bel1' w13 _) F13a
              have F12 := Ext.trans' B13.out F13
              have F11 := Ext.trans' (bel1' w11 _) (Ext.trans' B12.out F12)
              have Fr := Ext.trans' B11.out F11
              have F8 := Ext.trans' B10.out Fr
              have F7a := Ext.trans' B9.out F8
              have F7 := Ext.trans' (bel1' w7 _) F7a
              have FA := Ext.trans' B7.out F7
              have HW := Lib.hid (Ext.trans' B8.out FA)
              obtain ⟨y4, y5, y6, y7⟩ := box_cells w7 25 _ _ _ _ F7a
              obtain ⟨y12, y13, y14, y15⟩ := box_cells w13 25 _ _ _ _ F13a
              obtain ⟨y16, y17, y18, y19⟩ := box_cells w14 25 _ _ _ _ F14a
              obtain ⟨y20, y21, y22, y23⟩ := box_cells w16 25 _ _ _ _ (show Below (w16.alloc (box4 ke ne se (.slice ae2 me ce2) 25)).heap.size (w16.alloc (box4 ke ne se (.slice ae2 me ce2) 25)) wF by rw [hwF]; exact Below.refl _ _)
              obtain ⟨bm, om, km, nm, sm, um, rfl, _, _, _, _, g0, g1, g2, g3, hmu, hmt⟩ := QM.out.get (i := 1) rfl
              obtain ⟨aq, cq, rfl, _⟩ := hmu.len
              obtain ⟨mq, hmq⟩ : ∃ m, (atomT ⟨#[98]⟩).args.length = m := ⟨_, rfl⟩
              rw [hmq] at g3 hmt
              simp only [Nat.one_mul] at g0 g1 g2 g3
              unfold box4 at hwF
              rw [hwF]
              refine last_region (QD.out.later FA) (QE.out.later F7) (TmV.ext Fr _ _ QW.out) (TmV.ext F13 _ _ QL.out) (TmV.ext F14 _ _ QT.out) (TmV.ext F16 _ _ QN.out) (TmV.ext F14 _ _ hmt)
                ⟨cell_later FA XD.out.1, cell_later FA XD.out.2.1, cell_later FA XD.out.2.2.1, cell_later FA XD.out.2.2.2, y4, y5, y6, y7, cell_later Fr XW.out.1, cell_later Fr XW.out.2.1, cell_later Fr XW.out.2.2.1, cell_later Fr XW.out.2.2.2, y12, y13, y14, y15, y16, y17, y18, y19, y20, y21, y22, y23, cell_later F14 g0, cell_later F14 g1, cell_later F14 g2, cell_later F14 g3⟩ ?_
              intros
              rename_i wE hE
              go_wp2
              go_ret
              exact ⟨rfl, Ext.trans' HW.out hE⟩
end Go.Proofs.Ythikbenfhaglkaa
