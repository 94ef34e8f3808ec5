import Derived.Test.YtllpdciehoenaaaGreatDoorGav
set_option linter.unusedVariables false
set_option linter.unusedSimpArgs false
/- ReadParts: texts that are read each by itself are read one behind the other, at every two texts. The card ties the package variables of the standard library that its row lists. -/
namespace Go.Proofs.YtllpdciehoenaaaGreatDoor
open Go.Shelf Go.RowKit
set_option linter.unusedVariables false

theorem allP_bad {s : ByteArray} {k : Int} (hX : readB ALL opsB (bl s) = .bad k) (hs : s.size ≤ 140737488351232) {w : World} (he : Err w) {v : Value} (ho : Ops w v opsB) : Calls Tryz.prog 10 #[.agg #[v], .string s] w fun e w' => e = .returned (.tuple #[.slice none 0 0, .int .i64 k]) ∧ Below w.heap.size w w' :=
  (allP_at hX hs he ho).mono fun e w' h => h
theorem allP_ok {s : ByteArray} {l : List Tm} (hX : readB ALL opsB (bl s) = .ok l) (hs : s.size ≤ 140737488351232) {w : World} (he : Err w) {v : Value} (ho : Ops w v opsB) : Calls Tryz.prog 10 #[.agg #[v], .string s] w fun e w' => (∃ a c, e = .returned (.tuple #[.slice a l.length c, .int .i64 0]) ∧ Tms w' (.slice a l.length c) l) ∧ Below w.heap.size w w' :=
  (allP_at hX hs he ho).mono fun e w' h => h
set_option maxRecDepth 100000 in
set_option maxHeartbeats 8000000 in
theorem parts8_at (a c : ByteArray) (ha : a.size ≤ 140737488351232) (hc : c.size ≤ 140737488351232) {w : World} (he : Err w) : Calls Tryz.prog 5 #[.string a, .string c] w fun e w' => e = .returned (.bool true) ∧ Below w.heap.size w w' := by
  have HAW := Lib.hid (awake8_at he)
  have HE := Lib.hid he
  clear he
  by_cases hbig : 800 < a.size
  · have hd : decide ((800 : Int) < (a.size : Int)) = true := decide_eq_true (by omega)
    go_enter Tryz.func5, Tryz.ntmps5
    (go_wp2_with fail; go_fit (HAW.out); rintro e w1 ⟨rfl, b1⟩)
    go_wp2
    go_ret
    exact ⟨rfl, b1⟩
  have hda : decide ((800 : Int) < (a.size : Int)) = false := decide_eq_false (by omega)
  by_cases hbig2 : 800 < c.size
  · have hd : decide ((800 : Int) < (c.size : Int)) = true := decide_eq_true (by omega)
    go_enter Tryz.func5, Tryz.ntmps5
    (go_wp2_with fail; go_fit (HAW.out); rintro e w1 ⟨rfl, b1⟩)
    go_wp2
    go_ret
    exact ⟨rfl, b1⟩
  have hdc : decide ((800 : Int) < (c.size : Int)) = false := decide_eq_false (by omega)
  have HP := Lib.hid (fun wq => plain_walk wq)
  have ha8 : a.size ≤ 800 := by omega
  have hc8 : c.size ≤ 800 := by omega
  clear hbig hbig2
  go_enter Tryz.func5, Tryz.ntmps5
  (go_wp2_with fail; go_fit (HAW.out); rintro e w1 ⟨rfl, b1⟩)
  have B1 := Lib.hid b1
  clear b1 HAW
  (go_wp2_with fail; go_fit (HP.out _); rintro e w2 ⟨v2, rfl, o2, b2⟩)
  have B2 := Lib.hid (Ext.trans' B1.out b2)
  have O2 := Lib.hid o2
  clear b2 o2
  cases hX : readB ALL opsB (bl a) with
  | bad k =>
    have hk := readB_bad hX
    have HC := Lib.hid (allP_bad hX ha (HE.out.ext B2.out) O2.out)
    clear hX
    (go_wp2_with fail; go_fit (HC.out); rintro e w3 ⟨rfl, b3⟩)
    have B3 := Lib.hid (Ext.trans' B2.out b3)
    clear b3
    (go_wp2_with fail; go_fit (HP.out _); rintro e w4 ⟨v4, rfl, o4, b4⟩)
    have B4 := Lib.hid (Ext.trans' B3.out b4)
    have O4 := Lib.hid o4
    clear b4 o4
    cases hY : readB ALL opsB (bl c) with
    | bad j =>
      have HD := Lib.hid (allP_bad hY hc (HE.out.ext B4.out) O4.out)
      clear hY
      (go_wp2_with fail; go_fit (HD.out); rintro e w5 ⟨rfl, b5⟩)
      go_wp2
      go_ret
      exact ⟨rfl, Ext.trans' B4.out b5⟩
    | ok y =>
      have HD := Lib.hid (allP_ok hY hc (HE.out.ext B4.out) O4.out)
      clear hY
      (go_wp2_with fail; go_fit (HD.out); rintro e w5 ⟨⟨ay, cy, rfl, hy⟩, b5⟩)
      clear hy
      go_wp2
      go_ret
      exact ⟨rfl, Ext.trans' B4.out b5⟩
  | ok x =>
    have HC := Lib.hid (allP_ok hX ha (HE.out.ext B2.out) O2.out)
    have HX := Lib.hid hX
    clear hX
    (go_wp2_with fail; go_fit (HC.out); rintro e w3 ⟨⟨ax, cx, rfl, hx⟩, b3⟩)
    have B3 := Lib.hid (Ext.trans' B2.out b3)
    have TX := Lib.hid hx
    clear b3 hx HC
    (go_wp2_with fail; go_fit (HP.out _); rintro e w4 ⟨v4, rfl, o4, b4⟩)
    have B4 := Lib.hid (Ext.trans' B3.out b4)
    have TX4 := Lib.hid (TX.out.ext b4)
    have O4 := Lib.hid o4
    clear b4 o4
    cases hY : readB ALL opsB (bl c) with
    | bad j =>
      have hk := readB_bad hY
      have HD := Lib.hid (allP_bad hY hc (HE.out.ext B4.out) O4.out)
      clear hY
      (go_wp2_with fail; go_fit (HD.out); rintro e w5 ⟨rfl, b5⟩)
      go_wp2
      go_ret
      exact ⟨rfl, Ext.trans' B4.out b5⟩
    | ok y =>
      have HD := Lib.hid (allP_ok hY hc (HE.out.ext B4.out) O4.out)
      have HY := Lib.hid hY
      clear hY
      (go_wp2_with fail; go_fit (HD.out); rintro e w5 ⟨⟨ay, cy, rfl, hy⟩, b5⟩)
      have B5 := Lib.hid (Ext.trans' B4.out b5)
      have TX5 := Lib.hid (TX4.out.ext b5)
      have TY5 := Lib.hid hy
      clear b5 hy HD
      have hZ := read_parts HX.out HY.out (by rw [bl_len]; omega) (by rw [bl_len]; omega)
      have hbl : bl (a ++ ⟨#[10]⟩ ++ c) = bl a ++ 10 :: bl c := by rw [bl_cat, bl_cat]; simp [bl]
      rw [← hbl] at hZ
      have HZ := Lib.hid hZ
      have hsz : (a ++ ⟨#[10]⟩ ++ c).size ≤ 140737488351232 := by
        rw [size_bl, hbl, List.length_append, List.length_cons, bl_len, bl_len]; omega
      have HSZ := Lib.hid hsz
      clear hZ hbl hsz
      (go_wp2_with fail; go_fit (HP.out _); rintro e w6 ⟨v6, rfl, o6, b6⟩)
      have B6 := Lib.hid (Ext.trans' B5.out b6)
      have TX6 := Lib.hid (TX5.out.ext b6)
      have TY6 := Lib.hid (TY5.out.ext b6)
      have O6 := Lib.hid o6
      clear b6 o6
      rcases HZ.out with hz | hz
      · have HF := Lib.hid (allP_ok hz HSZ.out (HE.out.ext B6.out) O6.out)
        clear hz
        (go_wp2_with fail; go_fit (HF.out); rintro e w7 ⟨⟨az, cz, rfl, hz⟩, b7⟩)
        have B7 := Lib.hid (Ext.trans' B6.out b7)
        obtain ⟨n, hn⟩ : ∃ n, x.length = n := ⟨_, rfl⟩
        obtain ⟨m, hm⟩ : ∃ m, y.length = m := ⟨_, rfl⟩
        obtain ⟨N, hnm⟩ : ∃ N, (x ++ y).length = N := ⟨_, rfl⟩
        have hN : N = n + m := by rw [← hnm, List.length_append, hn, hm]
        have tx := TX6.out.ext b7
        have ty := TY6.out.ext b7
        have GX := Lib.hid (readB_good HX.out)
        have GY := Lib.hid (readB_good HY.out)
        have hlx := tx.len
        have hly := ty.len
        have hlz := hz.len
        rw [hnm] at hz hlz
        rw [hn] at tx hlx
        rw [hm] at ty hly
        obtain ⟨_, _, ex, lx1, lx2, lx3⟩ := hlx
        obtain ⟨_, _, ey, ly1, ly2, ly3⟩ := hly
        obtain ⟨_, _, ez, lz1, lz2, lz3⟩ := hlz
        cases ex
        cases ey
        cases ez
        unfold maxLen at lx2 ly2 lz2
        unfold BIG at lx3 ly3 lz3
        have TX7 := Lib.hid tx
        have TY7 := Lib.hid ty
        have TZ7 := Lib.hid hz
        have HN := Lib.hid hn
        have HM := Lib.hid hm
        simp only [hn, hm, hnm]
        clear b7 hz tx ty hn hm hnm HF TX TX4 TX5 TX6 TY5 TY6 O2 O4 O6
        have hw : IntKind.i64.wrap ((n : Int) + (m : Int)) = (N : Int) := by rw [IntKind.wrap_i64]; omega
        have HNM := Lib.hid hN
        clear hN
        go_wp2_with fail
        go_loopw [11] (fun v wr => ∃ i : Nat, i ≤ N ∧ v = .int .i64 i ∧ Hid (Below w7.heap.size w7 wr)) (fun v _ => N - (intOf v).toNat)
        case atStart => exact ⟨0, Nat.zero_le _, rfl, Lib.hid (Below.refl _ _)⟩
        case round =>
          obtain ⟨i, hi, rfl, HB12⟩ := hrel
          by_cases hil : i < N
          · by_cases hni : i < n
            · have hin : i < n := hni
              have hd1 : decide ((i : Int) < (n : Int)) = true := decide_eq_true (by omega)
              have hd2 : decide (n ≤ i) = false := decide_eq_false (by omega)
              obtain ⟨t, ht⟩ : ∃ t, x[i]? = some t := ⟨_, List.getElem?_eq_getElem (by first | rw [HN.out]; exact hin | rw [HM.out]; exact hin)⟩
              have htz : (x ++ y)[i]? = some t := by rw [List.getElem?_append_left (by rw [HN.out]; exact hin)]; exact ht
              have hgt := GX.out t (List.mem_of_getElem? ht)
              obtain ⟨b, off, k1, n1, s1, u1, rfl, hbb, _, _, _, c0, c1, c2, c3, htu, hty⟩ := (TZ7.out.ext HB12.out).get htz
              obtain ⟨b', off', k2, n2, s2, u2, rfl, hbb', _, _, _, d0, d1, d2, d3, htu', hty'⟩ := (TX7.out.ext HB12.out).get ht
              have SM := Lib.hid (fun (wq : World) (hq : Below wr.heap.size wr wq) => same_good hgt (TmV.ext hq _ _ hty) (TmV.ext hq _ _ hty'))
              clear htu htu' hty hty' hgt ht htz
              go_wp2_with fail
              (refine wp_region_class (fun w' => (w'.cell? ⟨b, off + i * 4, none⟩ = some (.int .i64 k1) ∧ w'.cell? ⟨b, off + i * 4 + 1, none⟩ = some (.int .i64 n1) ∧ w'.cell? ⟨b, off + i * 4 + 2, none⟩ = some (.string s1) ∧ w'.cell? ⟨b, off + i * 4 + 3, none⟩ = some u1 ∧ w'.cell? ⟨b', off' + i * 4, none⟩ = some (.int .i64 k2) ∧ w'.cell? ⟨b', off' + i * 4 + 1, none⟩ = some (.int .i64 n2) ∧ w'.cell? ⟨b', off' + i * 4 + 2, none⟩ = some (.string s2) ∧ w'.cell? ⟨b', off' + i * 4 + 3, none⟩ = some u2) ∧ Below wr.heap.size wr w') (by kernel_rfl) (by kernel_rfl) (⟨⟨c0, c1, c2, c3, d0, d1, d2, d3⟩, (Below.refl _ _).drew⟩) ?_; (repeat (first | go_big_quiet_skip | (go_big_quiet_want; refine quiet_of ?_; apply Exists.intro; refine ⟨fun wq hq => ?_, ?_⟩; (focus ((try dsimp only at hq); go_simp; (first | done | with_reducible rfl | ((go_at_call 12; refine (SM.out wq hq.2).mono ?_; rintro e w6 ⟨rfl, h6⟩; exact ⟨rfl, ⟨cell_later h6 hq.1.1, cell_later h6 hq.1.2.1, cell_later h6 hq.1.2.2.1, cell_later h6 hq.1.2.2.2.1, cell_later h6 hq.1.2.2.2.2.1, cell_later h6 hq.1.2.2.2.2.2.1, cell_later h6 hq.1.2.2.2.2.2.2.1, cell_later h6 hq.1.2.2.2.2.2.2.2⟩, Below.trans hq.2 (h6.mono hq.2.size)⟩)) | fail))); try simp only [Act.put, List.setIfInBounds_toArray, List.set_cons_zero, List.set_cons_succ]; go_big_quiet_on) | fail)); refine wpQuiet_nil ?_; intro wz hz)
              have HB13 := Lib.hid (Ext.trans' HB12.out hz.2)
              clear hz
              go_wp2
              go_roundw
              case rel => exact ⟨i + 1, by omega, by go_num, HB13⟩
              case measure => simp [intOf]; omega
            · obtain ⟨i2, hi2⟩ : ∃ i2, i = n + i2 := ⟨i - n, by omega⟩
              have hin : i2 < m := by have := HNM.out; omega
              have hwi : IntKind.i64.wrap ((i : Int) - (n : Int)) = (i2 : Int) := by rw [IntKind.wrap_i64]; omega
              have hd1 : decide ((i : Int) < (n : Int)) = false := decide_eq_false (by omega)
              have hd2 : decide (n ≤ i) = true := decide_eq_true (by omega)
              have HI2 := Lib.hid hi2
              clear hi2
              obtain ⟨t, ht⟩ : ∃ t, y[i2]? = some t := ⟨_, List.getElem?_eq_getElem (by first | rw [HN.out]; exact hin | rw [HM.out]; exact hin)⟩
              have htz : (x ++ y)[i]? = some t := by rw [List.getElem?_append_right (by rw [HN.out]; omega), HN.out, show i - n = i2 from by have := HI2.out; omega]; exact ht
              have hgt := GY.out t (List.mem_of_getElem? ht)
              obtain ⟨b, off, k1, n1, s1, u1, rfl, hbb, _, _, _, c0, c1, c2, c3, htu, hty⟩ := (TZ7.out.ext HB12.out).get htz
              obtain ⟨b', off', k2, n2, s2, u2, rfl, hbb', _, _, _, d0, d1, d2, d3, htu', hty'⟩ := (TY7.out.ext HB12.out).get ht
              have SM := Lib.hid (fun (wq : World) (hq : Below wr.heap.size wr wq) => same_good hgt (TmV.ext hq _ _ hty) (TmV.ext hq _ _ hty'))
              clear htu htu' hty hty' hgt ht htz
              go_wp2_with fail
              (refine wp_region_class (fun w' => (w'.cell? ⟨b, off + i * 4, none⟩ = some (.int .i64 k1) ∧ w'.cell? ⟨b, off + i * 4 + 1, none⟩ = some (.int .i64 n1) ∧ w'.cell? ⟨b, off + i * 4 + 2, none⟩ = some (.string s1) ∧ w'.cell? ⟨b, off + i * 4 + 3, none⟩ = some u1 ∧ w'.cell? ⟨b', off' + i2 * 4, none⟩ = some (.int .i64 k2) ∧ w'.cell? ⟨b', off' + i2 * 4 + 1, none⟩ = some (.int .i64 n2) ∧ w'.cell? ⟨b', off' + i2 * 4 + 2, none⟩ = some (.string s2) ∧ w'.cell? ⟨b', off' + i2 * 4 + 3, none⟩ = some u2) ∧ Below wr.heap.size wr w') (by kernel_rfl) (by kernel_rfl) (⟨⟨c0, c1, c2, c3, d0, d1, d2, d3⟩, (Below.refl _ _).drew⟩) ?_; (repeat (first | go_big_quiet_skip | (go_big_quiet_want; refine quiet_of ?_; apply Exists.intro; refine ⟨fun wq hq => ?_, ?_⟩; (focus ((try dsimp only at hq); go_simp; (first | done | with_reducible rfl | ((go_at_call 12; refine (SM.out wq hq.2).mono ?_; rintro e w6 ⟨rfl, h6⟩; exact ⟨rfl, ⟨cell_later h6 hq.1.1, cell_later h6 hq.1.2.1, cell_later h6 hq.1.2.2.1, cell_later h6 hq.1.2.2.2.1, cell_later h6 hq.1.2.2.2.2.1, cell_later h6 hq.1.2.2.2.2.2.1, cell_later h6 hq.1.2.2.2.2.2.2.1, cell_later h6 hq.1.2.2.2.2.2.2.2⟩, Below.trans hq.2 (h6.mono hq.2.size)⟩)) | fail))); try simp only [Act.put, List.setIfInBounds_toArray, List.set_cons_zero, List.set_cons_succ]; go_big_quiet_on) | fail)); refine wpQuiet_nil ?_; intro wz hz)
              have HB13 := Lib.hid (Ext.trans' HB12.out hz.2)
              clear hz
              go_wp2
              go_roundw
              case rel => exact ⟨i + 1, by omega, by go_num, HB13⟩
              case measure => simp [intOf]; omega
          · obtain rfl : N = i := by omega
            go_wp2_with fail
            go_ret
            exact ⟨rfl, Ext.trans' B7.out HB12.out⟩
      · have HF := Lib.hid (allP_bad hz HSZ.out (HE.out.ext B6.out) O6.out)
        clear hz
        (go_wp2_with fail; go_fit (HF.out); rintro e w7 ⟨rfl, b7⟩)
        go_wp2
        go_ret
        exact ⟨rfl, Ext.trans' B6.out b7⟩
end Go.Proofs.YtllpdciehoenaaaGreatDoor
/- ReadParts, handed in: at every two texts the law answers true. -/
namespace Go.Proofs.YtllpdciehoenaaaGreatDoor
open Go.Shelf Go.RowKit
set_option linter.unusedVariables false

theorem parts8_law (a : ByteArray) (ha : a.size ≤ 140737488351232) (c : ByteArray) (hc : c.size ≤ 140737488351232) {w : World} (he : Err w) : Calls Tryz.prog 5 #[.string a, .string c] w fun e w' => e = .returned (.bool true) ∧ Below w.heap.size w w' := parts8_at a c ha hc he
theorem ctxR {w : World} (h : laidMetH Tryz.prog Rows.readPartsRow.laid w) : Err w := err_of (text := [118, 97, 108, 117, 101, 32, 111, 117, 116, 32, 111, 102, 32, 114, 97, 110, 103, 101]) (by kernel_rfl) (by kernel_rfl) rfl h
namespace readParts
open Go.ChangeShapes Go.WideShapes Go.ChangeAt Go.RowKit
theorem own : ownKnob Tryz.prog.godebug = none := by kernel_rfl
theorem laidOut : laidOutB Tryz.prog = true := by kernel_rfl
set_option linter.unusedVariables false
set_option maxRecDepth 100000 in
theorem lifted (os : Os) (started : os.Started) (H : Type) (enc : TypeId × Value → H) :
    ReturnsInHanded {} Tryz.checked os 5 .any (fun w args => (Rows.readPartsSpec.pre enc Tryz.prog Tryz.f5 [] false w args ∧ laidMetH Tryz.prog Rows.readPartsRow.laid w) ∧ sizedMet enc Tryz.prog Tryz.f5 (OpenSpec.ofChange Rows.readPartsSpec) false w args)
      (Rows.readPartsSpec.post enc Tryz.prog Tryz.f5 false true false false) := by
  refine returnsInHanded_of_change_and (C := Tryz.checked) (X := fun w _ => laidMetH Tryz.prog Rows.readPartsRow.laid w) (fun _ _ _ hh h => h.of_heap hh) own started (by kernel_rfl) Tryz.func5
    (ChangeSpec.witness_shaped (enc := enc) (C := Tryz.checked) (os := os) (X := fun w _ => laidMetH Tryz.prog Rows.readPartsRow.laid w) false (World.laidAll Tryz.prog os Rows.readPartsRow.laid) #[.string ⟨#[]⟩, .string ⟨#[]⟩] 8 (World.laidAll_os _ _ _)
      (World.shaped_of_ZipB (by kernel_rfl) (by kernel_rfl)) (by kernel_rfl) (by kernel_rfl) (by kernel_rfl)
      (by rw [MakeChecks.laidMetH_plain _ _ _ (by kernel_rfl)]; exact laidMet_laidAll _ (by kernel_rfl) (by kernel_rfl))) ?_
  intro W base args ds gs before hval0 hW hcnd hsz0 hL _
  have hval : ∀ (j : Nat) t v, Tryz.f5.params[j]? = some t → args[j]? = some v → Value.okWide Tryz.prog W .any base t v := hval0
  have hW' := hW
  obtain ⟨p, q, hA0, hV, rfl, hfz, hnd⟩ := hW
  have hA : DataW.TrodAll enc Tryz.prog W 0 (fun _ => true) true Tryz.f5.params.toList args.toList ds p := hA0
  have hsz : (DataW.weightsEach Tryz.prog (Tryz.f5.params.toList ++ []) (ds ++ gs)).all (· ≤ reachBytes) = true := hsz0
  rw [Tryz.params5] at hA hval hsz
  obtain ⟨v0, vs0, d0, ds0, p0, q0, hargs, rfl, rfl, h0, r0⟩ := trodAll_cons hA
  obtain ⟨v1, vs1, d1, ds1, p1, q1, rfl, rfl, rfl, h1, r1⟩ := trodAll_cons r0
  obtain ⟨rfl, rfl, rfl⟩ := trodAll_nil r1
  obtain rfl : args = #[v0, v1] := by cases args; simp_all
  obtain ⟨rfl, rfl⟩ := trodVars_none hV
  clear hA0 hval0 hsz0
  have k0 := h0
  have lt0 := lt_of_trod h0
  have k1 := h1
  have lt1 := lt_of_trod h1
  obtain ⟨a0, rfl, e0, rfl, w0⟩ := ChangeMaps.open_string Tryz.underlying9 (hval 0 9 v0 rfl rfl) h0
  have s0 : a0.size ≤ 140737488351232 := weights_ok hsz (j := 0) (t := 9) (d := d0) rfl rfl _ (by rw [e0]; simp [DataW.weights])
  obtain ⟨a1, rfl, e1, rfl, w1⟩ := ChangeMaps.open_string Tryz.underlying9 (hval 1 9 v1 rfl rfl) h1
  have s1 : a1.size ≤ 140737488351232 := weights_ok hsz (j := 1) (t := 9) (d := d1) rfl rfl _ (by rw [e1]; simp [DataW.weights])
  refine (parts8_law a0 s0 a1 s1 (ctxR hL)).mono fun e W' ⟨he, bel⟩ => ?_
  subst he
  exact ⟨_, rfl, _, _, _, [], _, [], hW', trodAll_mk1 (shut_bool Tryz.underlying4 _), (trodAll_cons_mk (Below.trod laidOut (by kernel_rfl) (of_decide_eq_true (by kernel_rfl)) k0 bel lt0) (trodAll_cons_mk (Below.trod laidOut (by kernel_rfl) (of_decide_eq_true (by kernel_rfl)) k1 bel lt1) trodAll_mk0)), rfl, bel.frame _, fun h => by cases h⟩
theorem proved : Rows.ReadPartsSaid :=
  OpenClaim.holds_of_wide 5 Tryz.f5 rfl rfl rfl rfl rfl rfl rfl ⟨rfl, rfl, rfl, rfl, rfl⟩ rfl rfl rfl rfl rfl (by kernel_rfl) Tryz.func5 (by kernel_rfl)
    (of_decide_eq_true (by kernel_rfl)) (by unfold Func.isWrapper; first | (rw [if_pos (by decide +kernel)]; kernel_rfl) | (rw [if_neg (by decide +kernel)]; exact ⟨rfl, rfl⟩))
    (fun os started H enc _ => lifted os started H enc)
theorem carded : Rows.ReadPartsCardSaid :=
  Claim7.holds_tied_plain_at .later [] [.data, .data, .data, .sentinel, .sentinel] true (true, "97572f07b9143e79e9e01a3547109bb720cb7738775db8ae5d8b2d8977e5c4da") true
    proved (fun _ h => by cases h) (by kernel_rfl) (fun _ h => by cases h) readParts_row_tie rfl ⟨rfl, rfl⟩ (by kernel_rfl) rfl
    (fun f fn hf hfn => by
      obtain rfl : f = 5 := Option.some.inj ((show Tryz.prog.funcNamed "sizar/sizarlaw8.ReadParts" = some 5 by kernel_rfl).symm.trans hf) |>.symm
      obtain rfl : fn = Tryz.f5 := (Option.some.inj (Tryz.func5.symm.trans hfn)).symm
      exact ⟨by kernel_rfl, fun j t ht => by
        rw [Tryz.params5] at ht
        have hm : t ∈ [9, 9] := by simpa using Array.mem_of_getElem? ht
        have hall : ([9, 9].all fun u => !Tryz.prog.wantsStandIn u) = true := by kernel_rfl
        exact (show Tryz.prog.wantsStandIn t = false by simpa using List.all_eq_true.1 hall t hm)⟩)
    (by kernel_rfl)
#print axioms carded
end readParts

end Go.Proofs.YtllpdciehoenaaaGreatDoor
