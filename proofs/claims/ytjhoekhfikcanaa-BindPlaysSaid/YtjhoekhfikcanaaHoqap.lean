import Derived.Test.YtjhoekhfikcanaaHoqao
import Derived.Deep.CutBlock
set_option linter.unusedVariables false
set_option linter.unusedSimpArgs false
/- Stage 11's laws: BindPlays. -/
namespace Go.Proofs.Ytjhoekhfikcanaa
open Go.RowKit
set_option linter.unusedVariables false

theorem actB_cells {W : World} {b off i : Nat} {l : List ActB} {y : ActB} (hc : ∀ i x, l[i]? = some x → ∀ j u, (actBCells x)[j]? = some u → W.cell? ⟨b, off + (i * 6 + j), none⟩ = some u) (hy : l[i]? = some y) (hok : actBOk W y) :
    ∃ yk ym ys ya yl yc, TmV W y.t.1 (.agg #[.int .i64 yk, .int .i64 ym, .string ys, .slice ya yl yc]) ∧ W.cell? ⟨b, off + i * 6, none⟩ = some (.int .i64 y.op) ∧ W.cell? ⟨b, off + i * 6 + 1, none⟩ = some (.int .i64 y.n) ∧ W.cell? ⟨b, off + i * 6 + 2, none⟩ = some (.int .i64 yk) ∧ W.cell? ⟨b, off + i * 6 + 3, none⟩ = some (.int .i64 ym) ∧ W.cell? ⟨b, off + i * 6 + 4, none⟩ = some (.string ys) ∧ W.cell? ⟨b, off + i * 6 + 5, none⟩ = some (.slice ya yl yc) := by
  obtain ⟨yo, yn, ⟨yt, yu⟩⟩ := y
  obtain ⟨ok1, ok2, ok3⟩ := hok
  have k0 := hc i _ hy 0 _ rfl
  have k1 := hc i _ hy 1 _ rfl
  have k2 := hc i _ hy 2 _ rfl
  have k3 := hc i _ hy 3 _ rfl
  have k4 := hc i _ hy 4 _ rfl
  have k5 := hc i _ hy 5 _ rfl
  obtain ⟨yk, ym, ys, ya, yl, yc, hv, f1, f2, f3, fv⟩ := four_of ok3
  have ok4 : TmV W yt (.agg #[.int .i64 yk, .int .i64 ym, .string ys, .slice ya yl yc]) := by rw [← hv]; exact ok3
  simp only [pVal, Value.agg.injEq] at hv
  have hv' := congrArg Array.toList hv
  simp only [List.cons.injEq, and_true] at hv'
  obtain ⟨g1, g2, g3, g4⟩ := hv'
  simp only [g1, g2, g3, g4, ← Nat.add_assoc, Nat.add_zero] at k0 k1 k2 k3 k4 k5
  exact ⟨yk, ym, ys, ya, yl, yc, ok4, k0, k1, k2, k3, k4, k5⟩
theorem setB_range {N : Nat} {R : List (Int × Tm)} {n : Int} {x : Tm} (h : ¬ (0 ≤ n ∧ n < N ∧ fitsB N x = true)) : setB N R n x = 1 := by
  unfold setB
  rw [if_neg]
  intro e
  simp only [Bool.and_eq_true, decide_eq_true_eq] at e
  exact h ⟨e.1.1, e.1.2, e.2⟩
/-- What a Set answers, and what both sides are. -/
structure hHcT (N : Nat) (S R : List (Int × Tm)) (u : Nat) (x : Tm) (c : Int) : Prop where
  is : setB N R u x = c
  sync : Sync R S
  tri : Tri N S ∧ N ≤ 65536
theorem hHcT.isset {N : Nat} {S R : List (Int × Tm)} {u : Nat} {x : Tm} {c : Int} (h : hHcT N S R u x c) (hf : fitsB N x = true) (hu : u < N) (hg : (getB S u).isSome = true) : c = 8 := by
  rw [← h.is]
  unfold setB
  rw [if_pos (by simp [hf, hu]), h.sync.isSome, if_pos hg]
theorem hHcT.wants {N : Nat} {S R : List (Int × Tm)} {u : Nat} {x : Tm} {c : Int} (h : hHcT N S R u x c) (hf : fitsB N x = true) (h0 : 0 ≤ (u : Int)) (hu : u < N) (hg : (getB S u).isSome = false) {hb : Bool} {hn : Nat} (hh : hasB N S u x 100000 = (hb, hn)) (hc : hn ≤ 100000) : c = if hb = true then 5 else 0 := by
  have := set_wants h.tri.1 h.tri.2 h0 (by omega) hf (by simpa using hg) (by rw [hh]; exact hc)
  rw [hh] at this
  rw [← h.is, h.sync.setB]
  exact this
set_option maxHeartbeats 16000000 in
set_option maxRecDepth 100000 in
theorem bindPlays_at {W : World} {vl vt : Value} {l : List ActB} {x : Tm} {n most : Int} (hl : ActsB W vl l) (ht : TmV W x vt) (hn : I64 n) (hmost : I64 most) :
    Calls Try.prog 4 #[vl, vt, .int .i64 n, .int .i64 most] W fun e w' => e = .returned (.bool true) ∧ Below W.heap.size W w' := by
  obtain ⟨⟨la, lc, rfl, hl1, hl2, hlc⟩, hlok, hlb⟩ := hl
  obtain ⟨kt, nt, st, at', mt, ct, rfl⟩ := ht.full
  obtain ⟨m, hm⟩ : ∃ m, l.length = m := ⟨_, rfl⟩
  rw [hm] at hl1 hlb ⊢
  unfold maxLen at hl2
  have HL := Lib.hid (And.intro hlc (And.intro hlok hm))
  have HT := Lib.hid ht
  have DP := fun (w1 : World) (hb : Below W.heap.size W w1) => deep11_at _ x (Nat.le_refl _) 70 (by unfold I64; omega) w1 _ (TmV.ext hb _ _ ht)
  have HDP := Lib.hid DP
  have HNM := Lib.hid (And.intro hn hmost)
  clear hlc hlok hm ht DP hn hmost
  go_enter Try.func4, Try.ntmps4
  (go_wp2_with fail; go_fit (bawake_at _); rintro e w2 ⟨rfl, b2⟩)
  have e2 := box_cells W 31 _ _ _ _ b2
  have B2 := Lib.hid (Ext.trans' (bel1' W _) b2)
  obtain ⟨x0, x1, x2, x3⟩ := e2
  clear b2
  by_cases h60 : 60 < m
  · have h60' : (60 : Int) < m := by omega
    go_wp2
    go_ret
    exact ⟨rfl, B2.out⟩
  have h60' : ¬ (60 : Int) < m := by omega
  have C := HDP.out w2 B2.out
  cases hdp : deepT x 70
  rotate_left
  · rw [hdp] at C
    (go_wp2_with fail; go_fit (C); rintro e w3 ⟨rfl, b3⟩)
    have B3 := Lib.hid (B2.out.trans (b3.mono B2.out.size))
    clear b3 hdp C
    go_wp2
    go_ret
    exact ⟨rfl, B3.out⟩
  rw [hdp] at C
  (go_wp2_with fail; go_fit (C); rintro e w3 ⟨rfl, b3⟩)
  have B3 := Lib.hid (B2.out.trans (b3.mono B2.out.size))
  have X3 := Lib.hid (show w3.cell? ⟨W.heap.size, 0, none⟩ = some (.int .i64 kt) ∧ w3.cell? ⟨W.heap.size, 1, none⟩ = some (.int .i64 nt) ∧ w3.cell? ⟨W.heap.size, 2, none⟩ = some (.string st) ∧ w3.cell? ⟨W.heap.size, 3, none⟩ = some (.slice at' mt ct) from ⟨cell_later b3 x0, cell_later b3 x1, cell_later b3 x2, cell_later b3 x3⟩)
  clear b3 hdp C
  clear x0 x1 x2 x3
  (go_wp2_with fail; go_fit (both_at (V := w3) (Stays.refl w3) 6 (by omega)); rintro e w4 ⟨p, q, rfl, h4⟩)
  have H4 := Lib.hid (h4.two (Below.refl _ _))
  have B4 := Lib.hid (h4.two B3.out).bel
  obtain ⟨bq, rfl⟩ : ∃ bq, q = .pointer (some ⟨bq, 0, none⟩) := by obtain ⟨_, _, _, h2, _⟩ := h4; obtain ⟨bt, _, _, _, _, _, _, rfl, _⟩ := h2.open; exact ⟨bt, rfl⟩
  clear h4
  go_wp2_with fail
  go_loopw [11] (fun z wr => ∃ i : Nat, i ≤ m ∧ z = .int .i64 i ∧ Hid (∃ N, N ≤ 6 + i ∧ TwoI w3 wr p (.pointer (some ⟨bq, 0, none⟩)) N)) (fun z _ => m - (intOf z).toNat)
  case atStart => exact ⟨0, Nat.zero_le _, rfl, Lib.hid ⟨6, by omega, H4.out⟩⟩
  case round =>
    obtain ⟨i, hi, rfl, HM⟩ := hrel
    clear H4 B4
    by_cases him : i < m
    · obtain ⟨y, hy⟩ : ∃ y, l[i]? = some y := ⟨_, List.getElem?_eq_getElem (by rw [HL.out.2.2]; exact him)⟩
      rcases HL.out.1 with hnil | ⟨b, off, rfl, hbw, hc⟩
      · rw [hnil] at hy; simp at hy
      have hok := HL.out.2.1 _ (List.mem_of_getElem? hy)
      obtain ⟨yk, ym, ys, ya, yl, yc, ht4, k0, k1, k2, k3, k4, k5⟩ := actB_cells hc hy hok
      obtain ⟨ok1, ok2, _⟩ := hok
      obtain ⟨N, hN6, h2⟩ := HM.out
      have hw : Below W.heap.size W wr := B3.out.trans (h2.bel.mono B3.out.size)
      have k0 := cell_later hw k0
      have k1 := cell_later hw k1
      have k2 := cell_later hw k2
      have k3 := cell_later hw k3
      have k4 := cell_later hw k4
      have k5 := cell_later hw k5
      obtain ⟨yo, yn, ⟨yt, yu⟩⟩ := y
      obtain ⟨w5, e5, b5, z5, x5⟩ := box_new wr #[.int .i64 yo, .int .i64 yn, .int .i64 yk, .int .i64 ym, .string ys, .slice ya yl yc] 45
      have C := deep11_at _ yt (Nat.le_refl _) 30 (by unfold I64; omega) w5 _ (TmV.ext (hw.trans (b5.mono hw.size)) _ _ ht4)
      have HA := Lib.hid (show TmV W yt _ ∧ I64 yo ∧ I64 yn from ⟨ht4, ok1, ok2⟩)
      have HX5 := Lib.hid (And.intro b5 x5)
      have HN := Lib.hid (And.intro hN6 h2)
      have him2 : (i : Int) < m := by omega
      clear hy hc ok1 ok2 ht4 hN6 h2 hw b5 x5 z5 HM HDP
      go_upto_region 10 with fail
      (try rw [e5])
      have d0 := HX5.out.2.cells 0 _ rfl
      have d1 := HX5.out.2.cells 1 _ rfl
      have d2 := HX5.out.2.cells 2 _ rfl
      have d3 := HX5.out.2.cells 3 _ rfl
      have d4 := HX5.out.2.cells 4 _ rfl
      have d5 := HX5.out.2.cells 5 _ rfl
      clear e5 k0 k1 k2 k3 k4 k5
      cases hdq : deepT yt 30
      rotate_left
      · rw [hdq] at C
        clear hdq
        (go_wp2_with fail; go_fit (C); rintro e w6 ⟨rfl, b6⟩)
        have HB6 := Lib.hid (Ext.trans' HX5.out.1 b6)
        clear C b6
        go_wp2
        go_ret
        exact ⟨rfl, B3.out.trans ((HN.out.2.bel.trans (HB6.out.mono HN.out.2.bel.size)).mono B3.out.size)⟩
      · rw [hdq] at C
        clear hdq
        (go_wp2_with fail; go_fit (C); rintro e w6 ⟨rfl, b6⟩)
        have hb6 := Ext.trans' HX5.out.1 b6
        obtain ⟨hN6, V0, F, F2, R, S, hP, hS⟩ := HN.out
        have hP6 := (hP.ext hb6).rebase
        have HY6 := Lib.hid (TmV.stay (hP.ext hb6).old _ _ (TmV.ext B3.out _ _ HA.out.1))
        have HD := Lib.hid (show (seenB F F2 w6).cell? ⟨wr.heap.size, 0, none⟩ = some (.int .i64 yo) ∧ (seenB F F2 w6).cell? ⟨wr.heap.size, 1, none⟩ = some (.int .i64 yn) ∧ (seenB F F2 w6).cell? ⟨wr.heap.size, 2, none⟩ = some (.int .i64 yk) ∧ (seenB F F2 w6).cell? ⟨wr.heap.size, 3, none⟩ = some (.int .i64 ym) ∧ (seenB F F2 w6).cell? ⟨wr.heap.size, 4, none⟩ = some (.string ys) ∧ (seenB F F2 w6).cell? ⟨wr.heap.size, 5, none⟩ = some (.slice ya yl yc) from
          ⟨hP.newer (Nat.le_refl _) (cell_later b6 d0), hP.newer (Nat.le_refl _) (cell_later b6 d1), hP.newer (Nat.le_refl _) (cell_later b6 d2), hP.newer (Nat.le_refl _) (cell_later b6 d3), hP.newer (Nat.le_refl _) (cell_later b6 d4), hP.newer (Nat.le_refl _) (cell_later b6 d5)⟩)
        generalize seenB F F2 w6 = V at *
        have HN6 := Lib.hid hN6
        have HS := Lib.hid hS
        clear C hb6 b6 d0 d1 d2 d3 d4 d5 hP hN6 hS HN HX5
        have d0 := hP6.cell HD.out.1
        have d1 := hP6.cell HD.out.2.1
        have d2 := hP6.cell HD.out.2.2.1
        have d3 := hP6.cell HD.out.2.2.2.1
        have d4 := hP6.cell HD.out.2.2.2.2.1
        have d5 := hP6.cell HD.out.2.2.2.2.2
        go_upto_block 2 with fail
        go_cut [13, 14, 15, 16, 17, 18, 19, 20, 21] from 56 to 175 (fun _ _ _ _ _ _ _ _ _ wx => Hid (∃ N, N ≤ 7 + i ∧ TwoI w3 wx p (.pointer (some ⟨bq, 0, none⟩)) N))
        case first =>
          by_cases hop0 : yo = 0
          · subst hop0
            (go_wp2_with fail; go_fit (Set_at hP6.1 HA.out.2.2 HY6.out); rintro e w7 h7)
            obtain ⟨F7, R7, rfl, h7, t7, in7, hc7⟩ := h7
            have hP7 := hP6.left h7 t7 in7
            obtain ⟨c, hc⟩ : ∃ c, setB N R yn yt = c := ⟨_, rfl⟩
            rw [hc] at hc7 ⊢
            clear d0 d1 d2 d3 d4 d5 h7 t7 in7 hP6
            have d2 := hP7.cell HD.out.2.2.1
            have d3 := hP7.cell HD.out.2.2.2.1
            have d4 := hP7.cell HD.out.2.2.2.2.1
            have d5 := hP7.cell HD.out.2.2.2.2.2
            have CO := own10_at yt (awayB (F7 ++ F2)) w7 _ hP7.oldD (TmV.stay hP7.1.see.1 _ _ HY6.out)
            have HP7 := Lib.hid hP7
            have HC := Lib.hid (And.intro hc hc7)
            clear hc hc7 hP7
            (go_wp2_with fail; go_fit (CO); rintro e w8 ⟨vx, rfl, hvx, b8⟩)
            have hP8 := (HP7.out.ext b8).rebase
            have hst8 := (HP7.out.ext b8).stays
            obtain ⟨xk, xm, xs, xa, xl, xc, rfl, f1, f2, f3, fv⟩ := four_of hvx
            clear fv f1 f2 f3 CO d2 d3 d4 d5
            obtain ⟨w9, e9, b9, z9, x9⟩ := box_new w8 #[.int .i64 xk, .int .i64 xm, .string xs, .slice xa xl xc] 48
            have hP9 := (hP8.ext b9).rebase
            have hst9 := (hP8.ext b9).stays
            have HX9 := Lib.hid (TmV.stay hst9 _ _ hvx)
            have HD9 := Lib.hid (show (seenB F7 F2 w9).cell? ⟨wr.heap.size, 1, none⟩ = some (.int .i64 yn) ∧ (seenB F7 F2 w9).cell? ⟨w8.heap.size, 0, none⟩ = some (.int .i64 xk) ∧ (seenB F7 F2 w9).cell? ⟨w8.heap.size, 1, none⟩ = some (.int .i64 xm) ∧ (seenB F7 F2 w9).cell? ⟨w8.heap.size, 2, none⟩ = some (.string xs) ∧ (seenB F7 F2 w9).cell? ⟨w8.heap.size, 3, none⟩ = some (.slice xa xl xc) from by
              obtain ⟨x0, x1, x2, x3, _⟩ := x9.four
              exact ⟨hst9.2 _ _ (hst8.2 _ _ HD.out.2.1), hP8.newer (Nat.le_refl _) x0, hP8.newer (Nat.le_refl _) x1, hP8.newer (Nat.le_refl _) x2, hP8.newer (Nat.le_refl _) x3⟩)
            clear hst8 hst9 b8 hP8 hvx HY6 HD
            generalize seenB F7 F2 w9 = V9 at *
            have HE9 := Lib.hid e9
            have hB9 := Lib.hid (show wr.heap.size < w9.heap.size ∧ w8.heap.size < w9.heap.size from ⟨by have := World.block_lt_of_cell? _ _ (hP9.cell HD9.out.1); exact this, by omega⟩)
            clear b9 z9 x9 e9
            have HP9 := Lib.hid hP9
            clear hP9
            go_upto_block 3 with fail
            (try rw [HE9.out])
            clear HE9
            have d1 := HP9.out.cell HD9.out.1
            have x0 := HP9.out.cell HD9.out.2.1
            have x1 := HP9.out.cell HD9.out.2.2.1
            have x2 := HP9.out.cell HD9.out.2.2.2.1
            have x3 := HP9.out.cell HD9.out.2.2.2.2
            go_cut [15, 16, 17] from 94 to 133 (fun s _ _ wx => s = .int .i64 c ∧ Hid (Below w9.heap.size w9 wx))
            case first =>
              obtain ⟨bt, a1, c1, a2, c2, a3, c3, hbq, _, q0, q1, _, hs⟩ := HP9.out.2.1.open
              cases hbq
              have hHc := HC.out.1
              have HSL := Lib.hid hs
              clear hs
              by_cases cA : yn < 0
              · obtain rfl : c = 1 := by rw [← hHc]; exact setB_range (by omega)
                clear hHc q0 q1 x0 x1 x2 x3
                go_wp2_with fail
                go_quiet (fail)
                go_wp2
                go_meet
                exact ⟨rfl, Lib.hid (belN (Below.refl _ _) nq)⟩
              have cA' : decide (yn < 0) = false := by simpa using cA
              by_cases cB : (N : Int) ≤ yn
              · obtain rfl : c = 1 := by rw [← hHc]; exact setB_range (by omega)
                have cB' : decide ((N : Int) ≤ yn) = true := by simpa using cB
                clear hHc q1 x0 x1 x2 x3 cA
                go_wp2_with fail
                go_quiet (fail)
                go_wp2
                go_meet
                exact ⟨rfl, Lib.hid (belN (Below.refl _ _) nq)⟩
              have cB' : decide ((N : Int) ≤ yn) = false := by simpa using cB
              have HK := Lib.hid (fun (wq : World) (hb : Below w9.heap.size w9 wq) => RKnown_at (HP9.out.2.1.ext hb) (TmV.stay (HP9.out.1.see.1.later hb) _ _ HX9.out))
              obtain ⟨u, rfl⟩ : ∃ u : Nat, yn = (u : Int) := ⟨yn.toNat, by omega⟩
              have huN : u < N := by omega
              have huN2 : (u : Int) < N := by omega
              have cB2 : decide (N ≤ u) = false := by simp; omega
              have hu0 : (0 : Int) ≤ u := by omega
              have hHd : hHcT N S R u yt c := ⟨hHc, HS.out, HP9.out.2.1.tri⟩
              have HHD := Lib.hid hHd
              clear hHc hHd cA cB
              cases cf : fitsB N yt
              · rw [cf] at HK
                obtain rfl : c = 1 := by rw [← HHD.out.1]; exact setB_range (by rw [cf]; simp)
                clear q1 cf
                go_wp2_with fail
                (refine wp_region_class (fun w' => (w'.cell? ⟨wr.heap.size, 1, none⟩ = some (.int .i64 u) ∧ w'.cell? ⟨w8.heap.size, 0, none⟩ = some (.int .i64 xk) ∧ w'.cell? ⟨w8.heap.size, 1, none⟩ = some (.int .i64 xm) ∧ w'.cell? ⟨w8.heap.size, 2, none⟩ = some (.string xs) ∧ w'.cell? ⟨w8.heap.size, 3, none⟩ = some (.slice xa xl xc) ∧ w'.cell? ⟨bq, 0, none⟩ = some (.slice a1 N c1)) ∧ Below w9.heap.size w9 w') (by kernel_rfl) (by kernel_rfl) (⟨⟨d1, x0, x1, x2, x3, q0⟩, (Below.refl _ _).drew⟩) ?_; (repeat (first | go_big_quiet_skip | (go_big_quiet_want; refine quiet_of ?_; apply Exists.intro; refine ⟨fun wq hq => ?_, ?_⟩; (focus ((try dsimp only at hq); go_simp; (first | done | with_reducible rfl | ((first | (go_at_call 23; refine (HK.out wq hq.2).mono ?_; rintro e w6 ⟨rfl, h6⟩; exact ⟨rfl, ⟨cell_later h6 hq.1.1, cell_later h6 hq.1.2.1, cell_later h6 hq.1.2.2.1, cell_later h6 hq.1.2.2.2.1, cell_later h6 hq.1.2.2.2.2.1, cell_later h6 hq.1.2.2.2.2.2⟩, Below.trans hq.2 (h6.mono hq.2.size)⟩) | fail)) | fail))); try simp only [Act.put, List.setIfInBounds_toArray, List.set_cons_zero, List.set_cons_succ]; go_big_quiet_on) | fail)); refine wpQuiet_nil ?_; intro wz hz)
                go_wp2
                go_meet
                exact ⟨rfl, Lib.hid hz.2⟩
              · rw [cf] at HK
                have HCF := Lib.hid cf
                clear cf
                go_wp2_with fail
                (refine wp_region_class (fun w' => (w'.cell? ⟨wr.heap.size, 1, none⟩ = some (.int .i64 u) ∧ w'.cell? ⟨w8.heap.size, 0, none⟩ = some (.int .i64 xk) ∧ w'.cell? ⟨w8.heap.size, 1, none⟩ = some (.int .i64 xm) ∧ w'.cell? ⟨w8.heap.size, 2, none⟩ = some (.string xs) ∧ w'.cell? ⟨w8.heap.size, 3, none⟩ = some (.slice xa xl xc) ∧ w'.cell? ⟨bq, 0, none⟩ = some (.slice a1 N c1)) ∧ Below w9.heap.size w9 w') (by kernel_rfl) (by kernel_rfl) (⟨⟨d1, x0, x1, x2, x3, q0⟩, (Below.refl _ _).drew⟩) ?_; (repeat (first | go_big_quiet_skip | (go_big_quiet_want; refine quiet_of ?_; apply Exists.intro; refine ⟨fun wq hq => ?_, ?_⟩; (focus ((try dsimp only at hq); go_simp; (first | done | with_reducible rfl | ((first | (go_at_call 23; refine (HK.out wq hq.2).mono ?_; rintro e w6 ⟨rfl, h6⟩; exact ⟨rfl, ⟨cell_later h6 hq.1.1, cell_later h6 hq.1.2.1, cell_later h6 hq.1.2.2.1, cell_later h6 hq.1.2.2.2.1, cell_later h6 hq.1.2.2.2.2.1, cell_later h6 hq.1.2.2.2.2.2⟩, Below.trans hq.2 (h6.mono hq.2.size)⟩) | fail)) | fail))); try simp only [Act.put, List.setIfInBounds_toArray, List.set_cons_zero, List.set_cons_succ]; go_big_quiet_on) | fail)); refine wpQuiet_nil ?_; intro wz hz)
                have HBZ := Lib.hid hz.2
                obtain ⟨g1, g2, rfl, rfl, s0, _⟩ := HSL.out u huN
                have s0 := cell_later HBZ.out s0
                have q1 := cell_later HBZ.out q1
                clear q0 d1 x0 x1 x2 x3 HSL HK
                obtain ⟨⟨d1, x0, x1, x2, x3, _⟩, _⟩ := hz
                cases hg : (getB S u).isSome
                · rw [hg] at s0
                  go_wp2_with fail
                  go_quiet (fail)
                  have HBQ := Lib.hid (belN HBZ.out nq)
                  have HR := Lib.hid (fun (wq : World) (hb : Below w9.heap.size w9 wq) => RHas_at (HP9.out.2.1.ext hb) (n := (u : Int)) HA.out.2.2 HX9.out (most := 100000) (by unfold I64; omega) (by omega))
                  rw [show (100000 : Int).toNat = 100000 from rfl] at HR
                  obtain ⟨hb, hn, hHas⟩ : ∃ hb hn, hasB N S u yt 100000 = (hb, hn) := ⟨_, _, rfl⟩
                  rw [hHas] at HR
                  have HHAS := Lib.hid hHas
                  have HG := Lib.hid hg
                  have d1 := HBQ.out
                  clear d1 x0 x1 x2 x3 s0 q1 hHas hg
                  have d1 := cell_later HBQ.out (HP9.out.cell HD9.out.1)
                  have x0 := cell_later HBQ.out (HP9.out.cell HD9.out.2.1)
                  have x1 := cell_later HBQ.out (HP9.out.cell HD9.out.2.2.1)
                  have x2 := cell_later HBQ.out (HP9.out.cell HD9.out.2.2.2.1)
                  have x3 := cell_later HBQ.out (HP9.out.cell HD9.out.2.2.2.2)
                  have CR := HR.out _ HBQ.out
                  clear HR
                  generalize wz.drewN nq = w10 at *
                  (go_wp2_with fail; go_fit (CR); rintro e w11 ⟨rfl, b11⟩)
                  have HB11 := Lib.hid (HBQ.out.trans (b11.mono HBQ.out.size))
                  clear CR b11 d1 x0 x1 x2 x3
                  by_cases hbig : 100000 < hn
                  · have hbig2 : (100000 : Int) < hn := by omega
                    go_wp2
                    go_ret
                    exact ⟨rfl, B3.out.trans ((HP9.out.bel.trans (HB11.out.mono HP9.out.bel.size)).mono B3.out.size)⟩
                  · have hbig2 : ¬ (100000 : Int) < hn := by omega
                    have hcc : c = if hb = true then 5 else 0 := by
                      have := HHD.out.wants HCF.out (by omega) huN HG.out HHAS.out (by omega)
                      exact this
                    cases hb
                    · obtain rfl : c = 0 := hcc
                      go_wp2_with fail
                      go_meet
                      exact ⟨rfl, HB11⟩
                    · obtain rfl : c = 5 := hcc
                      go_wp2_with fail
                      go_meet
                      exact ⟨rfl, HB11⟩
                · rw [hg] at s0
                  obtain rfl : c = 8 := HHD.out.isset HCF.out huN hg
                  clear hg
                  go_wp2_with fail
                  go_quiet (fail)
                  go_wp2
                  go_meet
                  exact ⟨rfl, Lib.hid (belN HBZ.out nq)⟩
            case rest =>
              obtain ⟨rfl, HBX⟩ := hcut
              have hcc : (c != c) = false := by simp
              clear d1 x0 x1 x2 x3
              by_cases hc0 : c = 0
              · subst hc0
                generalize wc = w10 at *
                obtain ⟨hz1, hz2, hz3, hz4, hz5⟩ := set_zero HC.out.1
                obtain ⟨u, rfl⟩ : ∃ u : Nat, yn = (u : Int) := ⟨yn.toNat, by omega⟩
                have huN : u < N := by omega
                have huN2 : (u : Int) < N := by omega
                have hu0 : (0 : Int) ≤ u := by omega
                obtain ⟨wd, hwd⟩ : ∃ wd, w10.drew = wd := ⟨_, rfl⟩
                have hPd := HP9.out.ext HBX.out.drew
                rw [hwd] at hPd
                have hT : Tri N (((u : Int), yt) :: S) := Tri.setx hPd.2.1.tri.1 (by rw [← HS.out.setB]; exact HC.out.1)
                have hlS : S.length ≤ 65536 := by have := dom_len hPd.2.1.tri.1; have := hPd.2.1.tri.2; omega
                obtain ⟨bt, g1, c1, g2, c2, a3, c3, hbq, ⟨l0, l1, l2⟩, ⟨n01, n02, n12⟩, ⟨f0, f1, f2⟩, ⟨q0, q1, q2⟩, hex1, ⟨z2, he2⟩, fz1, fz2, ⟨hc3, hc3m⟩, hfin⟩ := hPd.2.1.store huN HX9.out hT
                cases hbq
                obtain ⟨y, hR7, hy⟩ : ∃ y, R7 = ((u : Int), y) :: R ∧ subT (fullB R) y = subT (fullB R) yt := by
                  rcases HC.out.2 with ⟨_, y, h⟩ | ⟨h, _⟩
                  · exact ⟨y, h⟩
                  · exact absurd rfl h
                have HSY := Lib.hid (show Sync R7 (((u : Int), yt) :: S) by rw [hR7]; exact HS.out.set hy)
                have hnot : ∀ (b j : Nat) (v : Value), V9.cell? ⟨b, j, none⟩ = some v → ∀ g, g ∈ F2 → b ≠ g := fun b j v hv g hg e => by
                  have := hPd.2.1.see.2 ⟨b, j, none⟩ (by rw [e]; exact hg)
                  rw [this] at hv
                  cases hv
                have na1 := hnot _ _ _ HD9.out.1 _ f1
                have na2 := hnot _ _ _ HD9.out.1 _ f2
                have nx1 := hnot _ _ _ HD9.out.2.1 _ f1
                have nx2 := hnot _ _ _ HD9.out.2.1 _ f2
                obtain ⟨y0, k0⟩ := hex1 0 (by omega)
                obtain ⟨y1, k1⟩ := hex1 1 (by omega)
                obtain ⟨y2, k2⟩ := hex1 2 (by omega)
                obtain ⟨y3, k3⟩ := hex1 3 (by omega)
                rw [Nat.add_zero] at k0
                have he2' : (setAt wd g1 (u * 4) (.int .i64 xk) (.int .i64 xm) (.string xs) (.slice xa xl xc)).cell? ⟨g2, u, none⟩ = some z2 := (setAt_far n12.symm).trans he2
                have d1 := hPd.cell HD9.out.1
                have x0 := hPd.cell HD9.out.2.1
                have x1 := hPd.cell HD9.out.2.2.1
                have x2 := hPd.cell HD9.out.2.2.2.1
                have x3 := hPd.cell HD9.out.2.2.2.2
                have HPD := Lib.hid hPd
                have HWD := Lib.hid hwd
                clear hwd
                have HFIN := Lib.hid hfin
                have HQ2 := Lib.hid (And.intro q2 (And.intro hc3 hc3m))
                have HLS := Lib.hid hlS
                have HD1 := Lib.hid (And.intro d1 (And.intro na1 na2))
                clear hPd hfin hex1 hnot hR7 hy hT hc3 hc3m q2 hlS hz1 hz2 hz3 hz4 hz5 f0 f1 f2 l0 l1 l2
                go_upto_region 33 with fail
                go_cut [] from 139 to 153 (fun wx => Hid (wx = putR wd g1 g2 u (.int .i64 xk) (.int .i64 xm) (.string xs) (.slice xa xl xc)))
                case first =>
                  refine wp_region_held_drew (S := fun w' => w'.cell? ⟨bq, 0, none⟩ = some (.slice (some ⟨g1, 0, none⟩) N c1) ∧ w'.cell? ⟨bq, 1, none⟩ = some (.slice (some ⟨g2, 0, none⟩) N c2) ∧ w'.cell? ⟨wr.heap.size, 1, none⟩ = some (.int .i64 u) ∧ w'.cell? ⟨w8.heap.size, 0, none⟩ = some (.int .i64 xk) ∧ w'.cell? ⟨w8.heap.size, 1, none⟩ = some (.int .i64 xm) ∧ w'.cell? ⟨w8.heap.size, 2, none⟩ = some (.string xs) ∧ w'.cell? ⟨w8.heap.size, 3, none⟩ = some (.slice xa xl xc)) (by kernel_rfl) (by rw [HWD.out]; exact ⟨q0, q1, d1, x0, x1, x2, x3⟩) (fun hHeld => ?_)
                  (try rw [HWD.out] at hHeld)
                  (try rw [HWD.out])
                  first | (refine held_t (i := 0) hHeld ?_; apply Exists.intro; refine ⟨fun wq hq => ?_, ?_⟩; (focus ((try dsimp only at hq); go_simp; (first | done | with_reducible rfl | fail)))) | refine held_s (i := 0) hHeld ?_ | fail
                  first | (refine held_t (i := 1) hHeld ?_; apply Exists.intro; refine ⟨fun wq hq => ?_, ?_⟩; (focus ((try dsimp only at hq); go_simp; (first | done | with_reducible rfl | fail)))) | refine held_s (i := 1) hHeld ?_ | fail
                  first | (refine held_t (i := 2) hHeld ?_; apply Exists.intro; refine ⟨fun wq hq => ?_, ?_⟩; (focus ((try dsimp only at hq); go_simp; (first | done | with_reducible rfl | fail)))) | refine held_s (i := 2) hHeld ?_ | fail
                  first | (refine held_t (i := 3) hHeld ?_; apply Exists.intro; refine ⟨fun wq hq => ?_, ?_⟩; (focus ((try dsimp only at hq); go_simp; (first | done | with_reducible rfl | fail)))) | refine held_s (i := 3) hHeld ?_ | fail
                  first | (refine held_t (i := 4) hHeld ?_; apply Exists.intro; refine ⟨fun wq hq => ?_, ?_⟩; (focus ((try dsimp only at hq); go_simp; (first | done | with_reducible rfl | fail)))) | refine held_s (i := 4) hHeld ?_ | fail
                  first | (refine held_t (i := 5) hHeld ?_; apply Exists.intro; refine ⟨fun wq hq => ?_, ?_⟩; (focus ((try dsimp only at hq); go_simp; (first | done | with_reducible rfl | fail)))) | refine held_s (i := 5) hHeld ?_ | fail
                  first | (refine held_t (i := 6) hHeld ?_; apply Exists.intro; refine ⟨fun wq hq => ?_, ?_⟩; (focus ((try dsimp only at hq); go_simp; (first | done | with_reducible rfl | fail)))) | refine held_s (i := 6) hHeld ?_ | fail
                  first | (refine held_t (i := 7) hHeld ?_; apply Exists.intro; refine ⟨fun wq hq => ?_, ?_⟩; (focus ((try dsimp only at hq); go_simp; (first | done | with_reducible rfl | fail)))) | refine held_s (i := 7) hHeld ?_ | fail
                  try simp only [Act.put, List.setIfInBounds_toArray, List.set_cons_zero, List.set_cons_succ]
                  first | (refine held_t (i := 8) hHeld ?_; apply Exists.intro; refine ⟨fun wq hq => ?_, ?_⟩; (focus ((try dsimp only at hq); go_simp; (first | done | with_reducible rfl | fail)))) | refine held_s (i := 8) hHeld ?_ | fail
                  first | (refine held_t (i := 9) hHeld ?_; apply Exists.intro; refine ⟨fun wq hq => ?_, ?_⟩; (focus ((try dsimp only at hq); go_simp; (first | done | with_reducible rfl | fail)))) | refine held_s (i := 9) hHeld ?_ | fail
                  first | (refine held_t (i := 10) hHeld ?_; apply Exists.intro; refine ⟨fun wq hq => ?_, ?_⟩; (focus ((try dsimp only at hq); go_simp; (first | done | with_reducible rfl | fail)))) | refine held_s (i := 10) hHeld ?_ | fail
                  first | (refine held_t (i := 11) hHeld ?_; apply Exists.intro; refine ⟨fun wq hq => ?_, ?_⟩; (focus ((try dsimp only at hq); go_simp; (first | done | with_reducible rfl | fail)))) | refine held_s (i := 11) hHeld ?_ | fail
                  first | (refine held_t (i := 12) hHeld ?_; apply Exists.intro; refine ⟨fun wq hq => ?_, ?_⟩; (focus ((try dsimp only at hq); go_simp; (first | done | with_reducible rfl | fail)))) | refine held_s (i := 12) hHeld ?_ | fail
                  first | (refine held_t (i := 13) hHeld ?_; apply Exists.intro; refine ⟨fun wq hq => ?_, ?_⟩; (focus ((try dsimp only at hq); go_simp; (first | done | with_reducible rfl | fail)))) | refine held_s (i := 13) hHeld ?_ | fail
                  try simp only [Act.put, List.setIfInBounds_toArray, List.set_cons_zero, List.set_cons_succ]
                  refine held_c 14 fun K hK => ?_
                  go_simp
                  skip
                  refine hK.out _ _ (⟨(setAt_far n01).trans hHeld.1, (setAt_far n01).trans hHeld.2.1, (setAt_far na1).trans hHeld.2.2.1, (setAt_far nx1).trans hHeld.2.2.2.1, (setAt_far nx1).trans hHeld.2.2.2.2.1, (setAt_far nx1).trans hHeld.2.2.2.2.2.1, (setAt_far nx1).trans hHeld.2.2.2.2.2.2⟩) (fun hHeld => ?_)
                  clear hK K
                  try simp only [Act.put, List.setIfInBounds_toArray, List.set_cons_zero, List.set_cons_succ]
                  first | (refine held_t (i := 15) hHeld ?_; apply Exists.intro; refine ⟨fun wq hq => ?_, ?_⟩; (focus ((try dsimp only at hq); go_simp; (first | done | with_reducible rfl | fail)))) | refine held_s (i := 15) hHeld ?_ | fail
                  try simp only [Act.put, List.setIfInBounds_toArray, List.set_cons_zero, List.set_cons_succ]
                  refine held_c 16 fun K hK => ?_
                  go_simp
                  skip
                  refine hK.out _ _ (⟨(far_cell n02).trans hHeld.1, (far_cell n02).trans hHeld.2.1, (far_cell na2).trans hHeld.2.2.1, (far_cell nx2).trans hHeld.2.2.2.1, (far_cell nx2).trans hHeld.2.2.2.2.1, (far_cell nx2).trans hHeld.2.2.2.2.2.1, (far_cell nx2).trans hHeld.2.2.2.2.2.2⟩) (fun hHeld => ?_)
                  clear hK K
                  try simp only [Act.put, List.setIfInBounds_toArray, List.set_cons_zero, List.set_cons_succ]
                  refine wpAnyH_done (by kernel_rfl) ?_ _
                  go_wp2_with fail
                  go_meet
                  exact Lib.hid rfl
                case rest =>
                  obtain ⟨tS, rS, cS, fS, hfin2⟩ := HFIN.out _ hcut.out
                  clear d1 x0 x1 x2 x3 k0 k1 k2 k3 he2 he2' q0 q1 fz1 fz2
                  have d1 : wc.cell? ⟨wr.heap.size, 1, none⟩ = some (.int .i64 u) := by
                    rw [hcut.out]
                    exact (far_cell HD1.out.2.2).trans ((setAt_far HD1.out.2.1).trans HD1.out.1)
                  have q2 := (cS 2).trans HQ2.out.1
                  have HBC := Lib.hid tS.size
                  generalize wc = w12 at *
                  obtain ⟨L, hL⟩ : ∃ L, S.length = L := ⟨_, rfl⟩
                  have hLS := HLS.out
                  have hc3 := HQ2.out.2.1
                  have hc3m := HQ2.out.2.2
                  rw [hL] at q2 rS hfin2 hLS hc3 HQ2
                  have q2' := fun o => Lib.cell?_alloc_some o q2
                  have d1' := fun o => Lib.cell?_alloc_some o d1
                  obtain ⟨i0, hi0, hz0, hs0, hb0⟩ := info_parts infoI64
                  have HROW := Lib.hid (fun (o : Obj) => (show (w12.alloc o).drew.ownsRow 0 2 1 (.slice a3 L c3) L (trailV S) from rS.alloc o))
                  have HPU := Lib.hid (fun (o : Obj) (w7 : World) (v' : Value) hg hat hr => hfin2 (w12.alloc o).drew w7 v' (bel1' w12 o).drew hg hat hr)
                  have fz2 := fS 2
                  unfold maxLen at hc3m
                  clear hfin2 rS tS cS fS hL
                  go_wp2_with fail
                  go_region_law ((refine step_append_k (by rfl) _ _ 51 (by rfl) 0 2 i0 (.int .i64 0) 1 8 Try.underlying51 hi0 hz0 hs0 (by decide) hb0 rfl (.slice a3 L c3) L (trailV S) (by rfl) (HROW.out _) (some ⟨w12.heap.size, 0, none⟩) 1 1 [.int .i64 u] (by rfl) (by rfl) (Or.inr ⟨_, rfl, fun j u' hu' => cell_new w12 #[.int .i64 u] _ j u' hu'⟩) (by simp [Value.oneCell']) (by unfold maxLen; omega) (by omega) (Nat.zero_le _) (L + 1) (trailV S ++ [.int .i64 u]) rfl rfl ?_; intro a7 c7 w7 hown7 hgrow7 hat7; obtain ⟨r1, r2, F8, r3, r4, r5⟩ := HPU.out _ w7 (.slice a7 (L + 1) c7) hgrow7 hat7 hown7; have g4 : w7.cell? ⟨bq, 2, none⟩ = some (.slice a3 L c3) := (r1 2).trans HQ2.out.1; have f4 := r2 2; have HR7 := Lib.hid (And.intro r3 (And.intro r4 r5)); have hc7 := css (v := Value.slice a7 (L + 1) c7) g4; clear r1 r2 r3 r4 r5 hown7 hgrow7 hat7))
                  all_goals
                    go_wp2_with fail
                    go_meet
                    exact Lib.hid ⟨N, by have := HN6.out; omega, _, _, _, _, _, HPD.out.right HR7.out.1 HR7.out.2.1 HR7.out.2.2, HSY.out⟩
              · have hc0' : (c == 0) = false := by simpa using hc0
                go_wp2_with fail
                go_meet
                obtain ⟨hc1, hc2⟩ := HC.out
                rcases hc2 with ⟨h0, _⟩ | ⟨_, rfl⟩
                · exact absurd h0 hc0
                · exact Lib.hid ⟨N, by have := HN6.out; omega, _, _, _, _, _, HP9.out.ext HBX.out, HS.out⟩
          · have hop0' : (yo == 0) = false := by simp [hop0]
            by_cases hop1 : yo = 1
            · subst hop1
              by_cases hin : 0 ≤ yn ∧ yn ≤ R.length
              · obtain ⟨k, rfl⟩ : ∃ k : Nat, yn = (k : Int) := ⟨yn.toNat, by omega⟩
                obtain ⟨m', hm'⟩ : ∃ m', R.length = k + m' := ⟨R.length - k, by omega⟩
                have HM' := Lib.hid (show R.length = k + m' ∧ S.length = k + m' from ⟨hm', by rw [← HS.out.len]; exact hm'⟩)
                have HP6 := Lib.hid hP6
                clear hP6 hm' hin d0 d2 d3 d4 d5
                go_wp2_with fail
                refine wp_region_held_drew (S := fun w' => w'.cell? ⟨wr.heap.size, 1, none⟩ = some (.int .i64 k)) (by kernel_rfl) d1 (fun hHeld => ?_)
                first | (refine held_t (i := 0) hHeld ?_; apply Exists.intro; refine ⟨fun wq hq => ?_, ?_⟩; (focus ((try dsimp only at hq); go_simp; (first | done | with_reducible rfl | fail)))) | refine held_s (i := 0) hHeld ?_ | fail
                first | (refine held_t (i := 1) hHeld ?_; apply Exists.intro; refine ⟨fun wq hq => ?_, ?_⟩; (focus ((try dsimp only at hq); go_simp; (first | done | with_reducible rfl | fail)))) | refine held_s (i := 1) hHeld ?_ | fail
                first | (refine held_t (i := 2) hHeld ?_; apply Exists.intro; refine ⟨fun wq hq => ?_, ?_⟩; (focus ((try dsimp only at hq); go_simp; (first | done | with_reducible rfl | fail)))) | refine held_s (i := 2) hHeld ?_ | fail
                first | (refine held_t (i := 4) hHeld ?_; apply Exists.intro; refine ⟨fun wq hq => ?_, ?_⟩; (focus ((try dsimp only at hq); go_simp; (first | done | with_reducible rfl | fail)))) | refine held_s (i := 4) hHeld ?_ | fail
                first | (refine held_t (i := 5) hHeld ?_; apply Exists.intro; refine ⟨fun wq hq => ?_, ?_⟩; (focus ((try dsimp only at hq); go_simp; (first | done | with_reducible rfl | fail)))) | refine held_s (i := 5) hHeld ?_ | fail
                first | (refine held_t (i := 6) hHeld ?_; apply Exists.intro; refine ⟨fun wq hq => ?_, ?_⟩; (focus ((try dsimp only at hq); go_simp; (first | done | with_reducible rfl | fail)))) | refine held_s (i := 6) hHeld ?_ | fail
                try simp only [Act.put, List.setIfInBounds_toArray, List.set_cons_zero, List.set_cons_succ]
                refine held_c 3 fun K hK => ?_
                go_simp
                (go_at_call 17; refine (Undo_yes (HP6.out.1.ext (Below.refl _ _).drew) k m' HM'.out.1).mono ?_; rintro e w7 ⟨rfl, h7, t7⟩; have HP7 := Lib.hid ((HP6.out.ext (Below.refl _ _).drew).left h7 t7 (fun k hk => Or.inl hk)); clear h7 t7)
                refine hK.out _ _ (HP7.out.cell HD.out.2.1) (fun hHeld => ?_)
                clear hK K
                try simp only [Act.put, List.setIfInBounds_toArray, List.set_cons_zero, List.set_cons_succ]
                refine held_c 7 fun K hK => ?_
                go_simp
                (go_at_call 25; refine (RUndo_yes HP7.out.2.1 k m' HM'.out.2).mono ?_; rintro e w8 ⟨F8, rfl, h8, t8, in8⟩; have HP8 := Lib.hid (HP7.out.right h8 t8 in8); clear h8 t8 in8)
                refine hK.out _ _ (HP8.out.cell HD.out.2.1) (fun hHeld => ?_)
                clear hK K
                try simp only [Act.put, List.setIfInBounds_toArray, List.set_cons_zero, List.set_cons_succ]
                first | (refine held_t (i := 8) hHeld ?_; apply Exists.intro; refine ⟨fun wq hq => ?_, ?_⟩; (focus ((try dsimp only at hq); go_simp; (first | done | with_reducible rfl | fail)))) | refine held_s (i := 8) hHeld ?_ | fail
                try simp only [Act.put, List.setIfInBounds_toArray, List.set_cons_zero, List.set_cons_succ]
                refine wpAnyH_done (by kernel_rfl) ?_ _
                go_wp2_with fail
                go_meet
                exact Lib.hid ⟨N, by have := HN6.out; omega, _, _, _, _, _, HP8.out, HS.out.drop m'⟩
              · have hin2 : yn < 0 ∨ (R.length : Int) < yn := by omega
                have HM' := Lib.hid (show (yn < 0 ∨ (R.length : Int) < yn) ∧ (yn < 0 ∨ (S.length : Int) < yn) from ⟨hin2, by rw [← HS.out.len]; exact hin2⟩)
                have HP6 := Lib.hid hP6
                clear hP6 hin hin2 d0 d2 d3 d4 d5
                go_wp2_with fail
                refine wp_region_held_drew (S := fun w' => w'.cell? ⟨wr.heap.size, 1, none⟩ = some (.int .i64 yn)) (by kernel_rfl) d1 (fun hHeld => ?_)
                first | (refine held_t (i := 0) hHeld ?_; apply Exists.intro; refine ⟨fun wq hq => ?_, ?_⟩; (focus ((try dsimp only at hq); go_simp; (first | done | with_reducible rfl | fail)))) | refine held_s (i := 0) hHeld ?_ | fail
                first | (refine held_t (i := 1) hHeld ?_; apply Exists.intro; refine ⟨fun wq hq => ?_, ?_⟩; (focus ((try dsimp only at hq); go_simp; (first | done | with_reducible rfl | fail)))) | refine held_s (i := 1) hHeld ?_ | fail
                first | (refine held_t (i := 2) hHeld ?_; apply Exists.intro; refine ⟨fun wq hq => ?_, ?_⟩; (focus ((try dsimp only at hq); go_simp; (first | done | with_reducible rfl | fail)))) | refine held_s (i := 2) hHeld ?_ | fail
                first | (refine held_t (i := 4) hHeld ?_; apply Exists.intro; refine ⟨fun wq hq => ?_, ?_⟩; (focus ((try dsimp only at hq); go_simp; (first | done | with_reducible rfl | fail)))) | refine held_s (i := 4) hHeld ?_ | fail
                first | (refine held_t (i := 5) hHeld ?_; apply Exists.intro; refine ⟨fun wq hq => ?_, ?_⟩; (focus ((try dsimp only at hq); go_simp; (first | done | with_reducible rfl | fail)))) | refine held_s (i := 5) hHeld ?_ | fail
                first | (refine held_t (i := 6) hHeld ?_; apply Exists.intro; refine ⟨fun wq hq => ?_, ?_⟩; (focus ((try dsimp only at hq); go_simp; (first | done | with_reducible rfl | fail)))) | refine held_s (i := 6) hHeld ?_ | fail
                try simp only [Act.put, List.setIfInBounds_toArray, List.set_cons_zero, List.set_cons_succ]
                refine held_c 3 fun K hK => ?_
                go_simp
                (go_at_call 17; refine (Undo_no (HP6.out.1.ext (Below.refl _ _).drew) yn HM'.out.1).mono ?_; rintro e w7 ⟨rfl, rfl⟩)
                refine hK.out _ _ (hHeld) (fun hHeld => ?_)
                clear hK K
                try simp only [Act.put, List.setIfInBounds_toArray, List.set_cons_zero, List.set_cons_succ]
                refine held_c 7 fun K hK => ?_
                go_simp
                (go_at_call 25; refine (RUndo_no (HP6.out.2.1.ext (Below.refl _ _).drew) yn HM'.out.2).mono ?_; rintro e w8 ⟨rfl, rfl⟩)
                refine hK.out _ _ (hHeld) (fun hHeld => ?_)
                clear hK K
                try simp only [Act.put, List.setIfInBounds_toArray, List.set_cons_zero, List.set_cons_succ]
                first | (refine held_t (i := 8) hHeld ?_; apply Exists.intro; refine ⟨fun wq hq => ?_, ?_⟩; (focus ((try dsimp only at hq); go_simp; (first | done | with_reducible rfl | fail)))) | refine held_s (i := 8) hHeld ?_ | fail
                try simp only [Act.put, List.setIfInBounds_toArray, List.set_cons_zero, List.set_cons_succ]
                refine wpAnyH_done (by kernel_rfl) ?_ _
                go_wp2_with fail
                go_meet
                exact Lib.hid ⟨N, by have := HN6.out; omega, _, _, _, _, _, HP6.out.ext (Below.refl _ _).drew, HS.out⟩
            · have hop1' : (yo == 1) = false := by simp [hop1]
              have hN0 : N < 65536 := by have := HN6.out; omega
              (go_wp2_with fail; go_fit (Fresh_at hP6.1 hN0); rintro e w7 ⟨F7, rfl, h7, t7, in7⟩)
              have hP7 := hP6.left h7 t7 in7
              obtain ⟨w8, e8, b8, z8, x8⟩ := box_new w7 #[.int .i64 0, .int .i64 N, .string ⟨#[]⟩, .slice none 0 0] 31
              have hP8 := (hP7.ext b8).rebase
              have HD8 := Lib.hid (show (seenB F7 F2 w8).cell? ⟨w7.heap.size, 0, none⟩ = some (.int .i64 0) ∧ (seenB F7 F2 w8).cell? ⟨w7.heap.size, 1, none⟩ = some (.int .i64 N) from by
                obtain ⟨x0, x1, x2, x3, _⟩ := x8.four
                exact ⟨hP7.newer (Nat.le_refl _) x0, hP7.newer (Nat.le_refl _) x1⟩)
              generalize seenB F7 F2 w8 = V8 at *
              have HE8 := Lib.hid e8
              clear h7 t7 in7 b8 z8 x8 e8 d0 d1 d2 d3 d4 d5 hP6 hP7
              go_upto_region 14 with fail
              (try rw [HE8.out])
              (go_wp2_with fail; go_fit (RFresh_at hP8.2.1 hN0); rintro e w9 ⟨F9, rfl, h9, t9, in9⟩)
              have hP9 := hP8.right h9 t9 in9
              obtain ⟨w10, e10, b10, z10, x10⟩ := box_new w9 #[.int .i64 0, .int .i64 N, .string ⟨#[]⟩, .slice none 0 0] 48
              have y0 := cell_later b10 (hP9.cell HD8.out.1)
              have y1 := cell_later b10 (hP9.cell HD8.out.2)
              obtain ⟨x0, x1, x2, x3, _⟩ := x10.four
              have HP10 := Lib.hid (hP9.ext b10)
              have HE10 := Lib.hid e10
              have hNN : ((N : Int) != N) = false := by simp
              have hNN2 : (N != N) = false := by simp
              clear hP8 hP9 h9 t9 in9 b10 z10 x10 e10
              go_upto_region 15 with fail
              (try rw [HE10.out])
              go_wp2_with fail
              go_meet
              exact Lib.hid ⟨N + 1, by have := HN6.out; omega, _, _, _, _, _, HP10.out, HS.out⟩
        case rest =>
          obtain ⟨N', hN', V', F', F2', R', S', hP', hS'⟩ := hcut.out
          obtain ⟨bt, a1, c1, a2, c2, a3, c3, hbq, _, q0, _, _, _⟩ := hP'.2.1.open
          cases hbq
          have HP' := Lib.hid (And.intro hN' (And.intro hP' hS'))
          clear hN' hP' hS' d0 d1 d2 d3 d4 d5 hP6 HY6 HD HN6 HS
          (go_wp2_with fail; go_fit (alike_at HP'.out.2.1.1 HP'.out.2.1.2.1 HP'.out.2.2); rintro e w7 ⟨rfl, b7⟩)
          have HN7 := Lib.hid (show ∃ N, N ≤ 6 + (i + 1) ∧ TwoI w3 w7 p (.pointer (some ⟨bq, 0, none⟩)) N from ⟨N', by have := HP'.out.1; omega, _, _, _, _, _, HP'.out.2.1.ext b7, HP'.out.2.2⟩)
          clear b7 q0
          go_wp2
          go_roundw
          case rel => exact ⟨i + 1, by omega, by go_num, HN7⟩
          case measure => simp [intOf]; omega
    · clear HDP
      have him2 : i = m := by omega
      have him3 : ¬ (i : Int) < m := by omega
      obtain ⟨N, hN, hTI⟩ := HM.out
      obtain ⟨F, F2, R, S, hP, hS, hst⟩ := hTI.open
      have HXT := Lib.hid (TmV.stay hst _ _ (TmV.ext B3.out _ _ HT.out))
      have HXD := Lib.hid (show (seenB F F2 wr).cell? ⟨W.heap.size, 0, none⟩ = some (.int .i64 kt) ∧ (seenB F F2 wr).cell? ⟨W.heap.size, 1, none⟩ = some (.int .i64 nt) ∧ (seenB F F2 wr).cell? ⟨W.heap.size, 2, none⟩ = some (.string st) ∧ (seenB F F2 wr).cell? ⟨W.heap.size, 3, none⟩ = some (.slice at' mt ct) from ⟨hst.2 _ _ X3.out.1, hst.2 _ _ X3.out.2.1, hst.2 _ _ X3.out.2.2.1, hst.2 _ _ X3.out.2.2.2⟩)
      generalize seenB F F2 wr = V at *
      obtain ⟨WR, hWR⟩ : ∃ WR, wholeB N R x = WR := ⟨_, rfl⟩
      have HWR := Lib.hid (And.intro hWR (show wholeB N S x = WR by rw [← hS.wholeB, hWR]))
      have x0 := hP.cell HXD.out.1
      have x1 := hP.cell HXD.out.2.1
      have x2 := hP.cell HXD.out.2.2.1
      have x3 := hP.cell HXD.out.2.2.2
      have C1 := Whole_at hP.1 HXT.out
      rw [hWR] at C1
      have HP := Lib.hid hP
      have HS := Lib.hid hS
      have HIM := Lib.hid him2
      clear hN hTI hst hWR hP hS him2 hi HM
      (go_wp2_with fail; go_fit (C1); rintro e w5 ⟨r, rfl, hr, b5⟩)
      obtain ⟨kr, nr, sr, ar, mr, cr, rfl, f1, f2, f3, fv⟩ := four_of hr
      obtain ⟨w6, e6, b6, z6, x6⟩ := box_new w5 #[.int .i64 kr, .int .i64 nr, .string sr, .slice ar mr cr] 31
      have hP6 := HP.out.ext (Ext.trans' b5 b6)
      have HR6 := Lib.hid (And.intro (TmV.ext b6 _ _ hr.bare) x6)
      have HE6 := Lib.hid e6
      have CO := own10_at x (awayB (F ++ F2)) w6 _ hP6.oldD (TmV.stay hP6.1.see.1 _ _ HXT.out)
      have HB6 := Lib.hid (Ext.trans' b5 b6)
      clear f1 f2 f3 fv hr b5 b6 z6 x6 e6 C1 x0 x1 x2 x3
      have x0 := hP6.cell HXD.out.1
      have x1 := hP6.cell HXD.out.2.1
      have x2 := hP6.cell HXD.out.2.2.1
      have x3 := hP6.cell HXD.out.2.2.2
      have HP6 := Lib.hid hP6
      clear hP6
      go_upto_region 41 with fail
      (try rw [HE6.out])
      (go_wp2_with fail; go_fit (CO); rintro e w7 ⟨v7, rfl, hv7, b7⟩)
      have hP7 := (HP6.out.ext b7).rebase
      have hst7 := (HP6.out.ext b7).stays
      have HXT7 := Lib.hid (And.intro (TmV.stay hst7 _ _ HXT.out) (show (seenB F F2 w7).cell? ⟨W.heap.size, 0, none⟩ = some (.int .i64 kt) ∧ (seenB F F2 w7).cell? ⟨W.heap.size, 1, none⟩ = some (.int .i64 nt) ∧ (seenB F F2 w7).cell? ⟨W.heap.size, 2, none⟩ = some (.string st) ∧ (seenB F F2 w7).cell? ⟨W.heap.size, 3, none⟩ = some (.slice at' mt ct) from ⟨hst7.2 _ _ HXD.out.1, hst7.2 _ _ HXD.out.2.1, hst7.2 _ _ HXD.out.2.2.1, hst7.2 _ _ HXD.out.2.2.2⟩))
      have hv7' : TmV (seenB F F2 w7) x v7 := hv7
      generalize seenB F F2 w7 = V7 at *
      have C2 := RWhole_at hP7.2.1 hv7'
      rw [HWR.out.2] at C2
      have HP7 := Lib.hid hP7
      have HR7 := Lib.hid (And.intro (TmV.ext b7 _ _ HR6.out.1) (HR6.out.2.ext b7))
      clear hv7 hv7' hst7 b7 CO x0 x1 x2 x3 hP7
      (go_wp2_with fail; go_fit (C2); rintro e w8 ⟨s, rfl, hs, b8⟩)
      obtain ⟨ks, ns, ss, as', ms, cs, rfl, f1, f2, f3, fv⟩ := four_of hs
      obtain ⟨w9, e9, b9, z9, x9⟩ := box_new w8 #[.int .i64 ks, .int .i64 ns, .string ss, .slice as' ms cs] 48
      have hb9 := Ext.trans' b8 b9
      have hP9 := HP7.out.ext hb9
      have HR9 := Lib.hid (show TmV w9 WR.1 (.agg #[.int .i64 kr, .int .i64 nr, .string sr, .slice ar mr cr]) ∧ Box w9 w5.heap.size [.int .i64 kr, .int .i64 nr, .string sr, .slice ar mr cr] ∧ TmV w9 WR.1 (.agg #[.int .i64 ks, .int .i64 ns, .string ss, .slice as' ms cs]) ∧ Box w9 w8.heap.size [.int .i64 ks, .int .i64 ns, .string ss, .slice as' ms cs] from ⟨TmV.ext hb9 _ _ HR7.out.1, HR7.out.2.ext hb9, TmV.ext b9 _ _ hs.bare, x9⟩)
      have HE9 := Lib.hid e9
      clear f1 f2 f3 fv hs b8 b9 z9 x9 e9 hb9 C2 HE6
      have HP9 := Lib.hid hP9
      clear hP9
      go_upto_region 42 with fail
      (try rw [HE9.out])
      clear HE9
      by_cases h30 : 3000 < most
      · have h30' : (3000 : Int) < most := h30
        go_wp2
        go_ret
        exact ⟨rfl, B3.out.trans (HP9.out.bel.mono B3.out.size)⟩
      have h30' : ¬ (3000 : Int) < most := h30
      have x0 := HP9.out.cell HXT7.out.2.1
      have x1 := HP9.out.cell HXT7.out.2.2.1
      have x2 := HP9.out.cell HXT7.out.2.2.2.1
      have x3 := HP9.out.cell HXT7.out.2.2.2.2
      obtain ⟨hb, hn, hHas⟩ : ∃ hb hn, hasB N R n x most.toNat = (hb, hn) := ⟨_, _, rfl⟩
      have C3 := Has_at HP9.out.1 HNM.out.1 HXT7.out.1 HNM.out.2 (by omega)
      rw [hHas] at C3
      have HHAS := Lib.hid (And.intro hHas (show hasB N S n x most.toNat = (hb, hn) by rw [← HS.out.hasB, hHas]))
      clear hHas
      (go_wp2_with fail; go_fit (C3); rintro e w10 ⟨rfl, b10⟩)
      have hP10 := HP9.out.ext b10
      have CO := own10_at x (awayB (F ++ F2)) w10 _ hP10.oldD (TmV.stay hP10.1.see.1 _ _ HXT7.out.1)
      clear C3 x0 x1 x2 x3
      have x0 := hP10.cell HXT7.out.2.1
      have x1 := hP10.cell HXT7.out.2.2.1
      have x2 := hP10.cell HXT7.out.2.2.2.1
      have x3 := hP10.cell HXT7.out.2.2.2.2
      have HB10 := Lib.hid b10
      have HP10 := Lib.hid hP10
      clear hP10 b10
      (go_wp2_with fail; go_fit (CO); rintro e w11 ⟨v11, rfl, hv11, b11⟩)
      have hP11 := (HP10.out.ext b11).rebase
      have C4 := RHas_at hP11.2.1 HNM.out.1 (show TmV (seenB F F2 w11) x v11 from hv11) HNM.out.2 (by omega)
      rw [HHAS.out.2] at C4
      have HB11 := Lib.hid (Ext.trans' HB10.out b11)
      have HBL := Lib.hid hP11.bel
      clear CO hv11 b11 x0 x1 x2 x3 hP11
      (go_wp2_with fail; go_fit (C4); rintro e w12 ⟨rfl, b12⟩)
      have hb12 := Ext.trans' HB11.out b12
      have HBL2 := Lib.hid (HBL.out.trans (b12.mono HBL.out.size))
      obtain ⟨r0, r1, r2, r3, _⟩ := (HR9.out.2.1.ext hb12).four
      obtain ⟨s0, s1, s2, s3, _⟩ := (HR9.out.2.2.2.ext hb12).four
      have HC := Lib.hid (fun (wq : World) (hq : Below w12.heap.size w12 wq) => own10_at WR.1 (fun _ => false) wq _ (fun _ _ => rfl) (TmV.ext hq _ _ (TmV.ext hb12 _ _ HR9.out.1)))
      have HY := Lib.hid (TmV.ext hb12 _ _ HR9.out.2.2.1)
      have he1 : (WR.2 == WR.2) = true := by simp
      have he2 : (hb == hb) = true := by simp
      have he3 : ((hn : Int) == (hn : Int)) = true := by simp
      clear C4 b12 hb12
      go_wp2_with fail
      refine wp_region_held_drew (S := fun w' => (w'.cell? ⟨w5.heap.size, 0, none⟩ = some (.int .i64 kr) ∧ w'.cell? ⟨w5.heap.size, 1, none⟩ = some (.int .i64 nr) ∧ w'.cell? ⟨w5.heap.size, 2, none⟩ = some (.string sr) ∧ w'.cell? ⟨w5.heap.size, 3, none⟩ = some (.slice ar mr cr) ∧ w'.cell? ⟨w8.heap.size, 0, none⟩ = some (.int .i64 ks) ∧ w'.cell? ⟨w8.heap.size, 1, none⟩ = some (.int .i64 ns) ∧ w'.cell? ⟨w8.heap.size, 2, none⟩ = some (.string ss) ∧ w'.cell? ⟨w8.heap.size, 3, none⟩ = some (.slice as' ms cs)) ∧ Below w12.heap.size w12 w') (by kernel_rfl) ⟨⟨r0, r1, r2, r3, s0, s1, s2, s3⟩, (Below.refl _ _).drew⟩ (fun hHeld => ?_)
      first | (refine held_t (i := 0) hHeld ?_; apply Exists.intro; refine ⟨fun wq hq => ?_, ?_⟩; (focus ((try dsimp only at hq); go_simp; (first | done | with_reducible rfl | fail)))) | refine held_s (i := 0) hHeld ?_ | fail
      first | (refine held_t (i := 1) hHeld ?_; apply Exists.intro; refine ⟨fun wq hq => ?_, ?_⟩; (focus ((try dsimp only at hq); go_simp; (first | done | with_reducible rfl | fail)))) | refine held_s (i := 1) hHeld ?_ | fail
      try simp only [Act.put, List.setIfInBounds_toArray, List.set_cons_zero, List.set_cons_succ]
      first | (refine held_t (i := 2) hHeld ?_; apply Exists.intro; refine ⟨fun wq hq => ?_, ?_⟩; (focus ((try dsimp only at hq); go_simp; (first | done | with_reducible rfl | fail)))) | refine held_s (i := 2) hHeld ?_ | fail
      first | (refine held_t (i := 3) hHeld ?_; apply Exists.intro; refine ⟨fun wq hq => ?_, ?_⟩; (focus ((try dsimp only at hq); go_simp; (first | done | with_reducible rfl | fail)))) | refine held_s (i := 3) hHeld ?_ | fail
      try simp only [Act.put, List.setIfInBounds_toArray, List.set_cons_zero, List.set_cons_succ]
      first | (refine held_t (i := 4) hHeld ?_; apply Exists.intro; refine ⟨fun wq hq => ?_, ?_⟩; (focus ((try dsimp only at hq); go_simp; (first | done | with_reducible rfl | fail)))) | refine held_s (i := 4) hHeld ?_ | fail
      first | (refine held_t (i := 6) hHeld ?_; apply Exists.intro; refine ⟨fun wq hq => ?_, ?_⟩; (focus ((try dsimp only at hq); go_simp; (first | done | with_reducible rfl | fail)))) | refine held_s (i := 6) hHeld ?_ | fail
      try simp only [Act.put, List.setIfInBounds_toArray, List.set_cons_zero, List.set_cons_succ]
      refine held_c 5 fun K hK => ?_
      go_simp
      (go_at_call 22; refine (HC.out _ hHeld.2).mono ?_; rintro e w6 ⟨v6, rfl, hv6, h6⟩; have HV6 := Lib.hid hv6; clear hv6)
      refine hK.out _ _ (⟨⟨cell_later h6 hHeld.1.1, cell_later h6 hHeld.1.2.1, cell_later h6 hHeld.1.2.2.1, cell_later h6 hHeld.1.2.2.2.1, cell_later h6 hHeld.1.2.2.2.2.1, cell_later h6 hHeld.1.2.2.2.2.2.1, cell_later h6 hHeld.1.2.2.2.2.2.2.1, cell_later h6 hHeld.1.2.2.2.2.2.2.2⟩, Ext.trans' hHeld.2 h6⟩) (fun hHeld => ?_)
      clear hK K
      try simp only [Act.put, List.setIfInBounds_toArray, List.set_cons_zero, List.set_cons_succ]
      refine held_c 7 fun K hK => ?_
      go_simp
      (go_at_call 30; refine (rsame_at _ WR.1 (Nat.le_refl _) WR.1 _ _ _ (TmV.stay (Stays.unhide _ _) _ _ HV6.out) (TmV.ext hHeld.2 _ _ HY.out)).mono ?_; rintro e w7 ⟨rfl, h7⟩; rw [same_self])
      refine hK.out _ _ (⟨⟨cell_later h7 hHeld.1.1, cell_later h7 hHeld.1.2.1, cell_later h7 hHeld.1.2.2.1, cell_later h7 hHeld.1.2.2.2.1, cell_later h7 hHeld.1.2.2.2.2.1, cell_later h7 hHeld.1.2.2.2.2.2.1, cell_later h7 hHeld.1.2.2.2.2.2.2.1, cell_later h7 hHeld.1.2.2.2.2.2.2.2⟩, Ext.trans' hHeld.2 h7⟩) (fun hHeld => ?_)
      clear hK K
      try simp only [Act.put, List.setIfInBounds_toArray, List.set_cons_zero, List.set_cons_succ]
      first | (refine held_t (i := 8) hHeld ?_; apply Exists.intro; refine ⟨fun wq hq => ?_, ?_⟩; (focus ((try dsimp only at hq); go_simp; (first | done | with_reducible rfl | fail)))) | refine held_s (i := 8) hHeld ?_ | fail
      first | (refine held_t (i := 9) hHeld ?_; apply Exists.intro; refine ⟨fun wq hq => ?_, ?_⟩; (focus ((try dsimp only at hq); go_simp; (first | done | with_reducible rfl | fail)))) | refine held_s (i := 9) hHeld ?_ | fail
      try simp only [Act.put, List.setIfInBounds_toArray, List.set_cons_zero, List.set_cons_succ]
      first | (refine held_t (i := 10) hHeld ?_; apply Exists.intro; refine ⟨fun wq hq => ?_, ?_⟩; (focus ((try dsimp only at hq); go_simp; (first | done | with_reducible rfl | fail)))) | refine held_s (i := 10) hHeld ?_ | fail
      first | (refine held_t (i := 11) hHeld ?_; apply Exists.intro; refine ⟨fun wq hq => ?_, ?_⟩; (focus ((try dsimp only at hq); go_simp; (first | done | with_reducible rfl | fail)))) | refine held_s (i := 11) hHeld ?_ | fail
      try simp only [Act.put, List.setIfInBounds_toArray, List.set_cons_zero, List.set_cons_succ]
      first | (refine held_t (i := 12) hHeld ?_; apply Exists.intro; refine ⟨fun wq hq => ?_, ?_⟩; (focus ((try dsimp only at hq); go_simp; (first | done | with_reducible rfl | fail)))) | refine held_s (i := 12) hHeld ?_ | fail
      first | (refine held_t (i := 13) hHeld ?_; apply Exists.intro; refine ⟨fun wq hq => ?_, ?_⟩; (focus ((try dsimp only at hq); go_simp; (first | done | with_reducible rfl | fail)))) | refine held_s (i := 13) hHeld ?_ | fail
      try simp only [Act.put, List.setIfInBounds_toArray, List.set_cons_zero, List.set_cons_succ]
      first | (refine held_t (i := 14) hHeld ?_; apply Exists.intro; refine ⟨fun wq hq => ?_, ?_⟩; (focus ((try dsimp only at hq); go_simp; (first | done | with_reducible rfl | fail)))) | refine held_s (i := 14) hHeld ?_ | fail
      first | (refine held_t (i := 15) hHeld ?_; apply Exists.intro; refine ⟨fun wq hq => ?_, ?_⟩; (focus ((try dsimp only at hq); go_simp; (first | done | with_reducible rfl | fail)))) | refine held_s (i := 15) hHeld ?_ | fail
      try simp only [Act.put, List.setIfInBounds_toArray, List.set_cons_zero, List.set_cons_succ]
      first | (refine held_t (i := 16) hHeld ?_; apply Exists.intro; refine ⟨fun wq hq => ?_, ?_⟩; (focus ((try dsimp only at hq); go_simp; (first | done | with_reducible rfl | fail)))) | refine held_s (i := 16) hHeld ?_ | fail
      first | (refine held_t (i := 17) hHeld ?_; apply Exists.intro; refine ⟨fun wq hq => ?_, ?_⟩; (focus ((try dsimp only at hq); go_simp; (first | done | with_reducible rfl | fail)))) | refine held_s (i := 17) hHeld ?_ | fail
      try simp only [Act.put, List.setIfInBounds_toArray, List.set_cons_zero, List.set_cons_succ]
      first | (refine held_t (i := 18) hHeld ?_; apply Exists.intro; refine ⟨fun wq hq => ?_, ?_⟩; (focus ((try dsimp only at hq); go_simp; (first | done | with_reducible rfl | fail)))) | refine held_s (i := 18) hHeld ?_ | fail
      first | (refine held_t (i := 19) hHeld ?_; apply Exists.intro; refine ⟨fun wq hq => ?_, ?_⟩; (focus ((try dsimp only at hq); go_simp; (first | done | with_reducible rfl | fail)))) | refine held_s (i := 19) hHeld ?_ | fail
      try simp only [Act.put, List.setIfInBounds_toArray, List.set_cons_zero, List.set_cons_succ]
      have HEND := Lib.hid hHeld.2
      clear hHeld
      refine wpAnyH_done (by kernel_rfl) ?_ _
      go_wp2
      go_ret
      exact ⟨rfl, B3.out.trans ((HBL2.out.trans (HEND.out.mono HBL2.out.size)).mono B3.out.size)⟩
end Go.Proofs.Ytjhoekhfikcanaa
