/- LexKnown, its tied card: the closed law answers true; the tables and errors that strconv reads lie as the program's text lays them (tied). No other condition. -/
import Derived.Test.YtdjdkhbaemjnnaaDoorLexK1
import Derived.Test.YtdjdkhbaemjnnaaDoorQ
import Derived.Deep.QuietTactic
namespace Go.Proofs.YtdjdkhbaemjnnaaDoor
open Go.RowKit
set_option linter.unusedVariables false
set_option maxHeartbeats 16000000 in
set_option maxRecDepth 100000 in
theorem known_at {w : World} (he : Err w) : Calls Tryd.prog 3 #[] w (IsBool w true) := by
  go_enter Tryd.func3, Tryd.ntmps3
  (go_wp2_with fail; go_fit (awake_at he); rintro e w1 ⟨rfl, b1⟩)
  have HS := Lib.hid (BadAt.start b1)
  have HE0 := Lib.hid he
  clear b1
  go_wp2_with fail
  go_loopw [3] (fun v wr => ∃ k : Nat, k ≤ 7 ∧ v = .int .i64 k ∧ Hid (BadAt w wr w1.heap.size)) (fun v _ => 7 - (intOf v).toNat)
  case atStart => exact ⟨0, Nat.zero_le _, rfl, HS⟩
  case round =>
    obtain ⟨k, hk, rfl, HB⟩ := hrel
    by_cases hlt : k < 7
    · have hkk : k = 0 ∨ k = 1 ∨ k = 2 ∨ k = 3 ∨ k = 4 ∨ k = 5 ∨ k = 6 := by omega
      rcases hkk with rfl | rfl | rfl | rfl | rfl | rfl | rfl
      · have c0 : wr.cell? ⟨w1.heap.size, 0, none⟩ = some (.string ⟨#[97, 32, 34]⟩) := HB.out.1 0 _ rfl
        (go_wp2_with fail; go_fit (bd0 (HE0.out.ext HB.out.2.2)); rintro e w2 ⟨rfl, b2⟩)
        have HB2 := Lib.hid (HB.out.ext b2)
        have d0 : w2.cell? ⟨w1.heap.size + 1, 0, none⟩ = some (.int .i64 2) := HB2.out.2.1 0 _ rfl
        clear b2 c0
        go_wp2
        go_roundw
        case rel => exact ⟨1, by omega, by go_num, HB2⟩
        case measure => simp [intOf]
      · have c0 : wr.cell? ⟨w1.heap.size, 1, none⟩ = some (.string ⟨#[39, 97]⟩) := HB.out.1 1 _ rfl
        (go_wp2_with fail; go_fit (bd1 (HE0.out.ext HB.out.2.2)); rintro e w2 ⟨rfl, b2⟩)
        have HB2 := Lib.hid (HB.out.ext b2)
        have d0 : w2.cell? ⟨w1.heap.size + 1, 1, none⟩ = some (.int .i64 0) := HB2.out.2.1 1 _ rfl
        clear b2 c0
        go_wp2
        go_roundw
        case rel => exact ⟨2, by omega, by go_num, HB2⟩
        case measure => simp [intOf]
      · have c0 : wr.cell? ⟨w1.heap.size, 2, none⟩ = some (.string ⟨#[39, 92, 120, 39]⟩) := HB.out.1 2 _ rfl
        (go_wp2_with fail; go_fit (bd2 (HE0.out.ext HB.out.2.2)); rintro e w2 ⟨rfl, b2⟩)
        have HB2 := Lib.hid (HB.out.ext b2)
        have d0 : w2.cell? ⟨w1.heap.size + 1, 2, none⟩ = some (.int .i64 0) := HB2.out.2.1 2 _ rfl
        clear b2 c0
        go_wp2
        go_roundw
        case rel => exact ⟨3, by omega, by go_num, HB2⟩
        case measure => simp [intOf]
      · have c0 : wr.cell? ⟨w1.heap.size, 3, none⟩ = some (.string ⟨#[39, 10, 39]⟩) := HB.out.1 3 _ rfl
        (go_wp2_with fail; go_fit (bd3 (HE0.out.ext HB.out.2.2)); rintro e w2 ⟨rfl, b2⟩)
        have HB2 := Lib.hid (HB.out.ext b2)
        have d0 : w2.cell? ⟨w1.heap.size + 1, 3, none⟩ = some (.int .i64 0) := HB2.out.2.1 3 _ rfl
        clear b2 c0
        go_wp2
        go_roundw
        case rel => exact ⟨4, by omega, by go_num, HB2⟩
        case measure => simp [intOf]
      · have c0 : wr.cell? ⟨w1.heap.size, 4, none⟩ = some (.string ⟨#[97, 32, 1]⟩) := HB.out.1 4 _ rfl
        (go_wp2_with fail; go_fit (bd4 (HE0.out.ext HB.out.2.2)); rintro e w2 ⟨rfl, b2⟩)
        have HB2 := Lib.hid (HB.out.ext b2)
        have d0 : w2.cell? ⟨w1.heap.size + 1, 4, none⟩ = some (.int .i64 2) := HB2.out.2.1 4 _ rfl
        clear b2 c0
        go_wp2
        go_roundw
        case rel => exact ⟨5, by omega, by go_num, HB2⟩
        case measure => simp [intOf]
      · have c0 : wr.cell? ⟨w1.heap.size, 5, none⟩ = some (.string ⟨#[57, 50, 50, 51, 51, 55, 50, 48, 51, 54, 56, 53, 52, 55, 55, 53, 56, 48, 56]⟩) := HB.out.1 5 _ rfl
        (go_wp2_with fail; go_fit (bd5 (HE0.out.ext HB.out.2.2)); rintro e w2 ⟨rfl, b2⟩)
        have HB2 := Lib.hid (HB.out.ext b2)
        have d0 : w2.cell? ⟨w1.heap.size + 1, 5, none⟩ = some (.int .i64 0) := HB2.out.2.1 5 _ rfl
        clear b2 c0
        go_wp2
        go_roundw
        case rel => exact ⟨6, by omega, by go_num, HB2⟩
        case measure => simp [intOf]
      · have c0 : wr.cell? ⟨w1.heap.size, 6, none⟩ = some (.string ⟨#[39, 92]⟩) := HB.out.1 6 _ rfl
        (go_wp2_with fail; go_fit (bd6 (HE0.out.ext HB.out.2.2)); rintro e w2 ⟨rfl, b2⟩)
        have HB2 := Lib.hid (HB.out.ext b2)
        have d0 : w2.cell? ⟨w1.heap.size + 1, 6, none⟩ = some (.int .i64 0) := HB2.out.2.1 6 _ rfl
        clear b2 c0
        go_wp2
        go_roundw
        case rel => exact ⟨7, by omega, by go_num, HB2⟩
        case measure => simp [intOf]
    · have hk7 : k = 7 := by omega
      subst hk7
      have HE1 := Lib.hid (HE0.out.ext HB.out.2.2)
      (go_wp2_with fail; go_fit (bg HE1.out); rintro e w3 ⟨ao, cv, rfl, ht, b3⟩)
      have B3 := Lib.hid (Ext.trans' HB.out.2.2 b3)
      have HT := Lib.hid ht
      clear b3 ht HB
      go_wp2_with fail
      go_loop [10, 11] (fun u v => ∃ (k : Nat) (q : ByteArray), k ≤ 4097 ∧ v = .int .i64 k ∧ u = .string q ∧ q.size = k ∧ Hid (bl q = List.replicate k 32)) (fun _ v => 4097 - (intOf v).toNat)
      case atStart => exact ⟨0, ⟨#[]⟩, Nat.zero_le _, rfl, rfl, rfl, Lib.hid rfl⟩
      case round =>
        obtain ⟨k, q, hk2, rfl, rfl, hq, HQ⟩ := hrel
        by_cases hlt2 : k < 4097
        · have hz : (q ++ ⟨#[32]⟩).size = k + 1 := by rw [← bl_len, cat_rep q 32 k HQ.out, List.length_replicate]
          have HZ := Lib.hid hz
          clear hz
          go_wp2
          go_round
          case rel => exact ⟨k + 1, _, by omega, by go_num, rfl, HZ.out, Lib.hid (cat_rep q 32 k HQ.out)⟩
          case measure => simp [intOf]; omega
        · obtain rfl : k = 4097 := by omega
          have hB : cutB (bl q) = .bad 4096 true := by rw [HQ.out]; exact long_b
          have CB := fun w h => @cut_bad q 4096 true w h (by omega) hB
          clear hB HQ
          go_wp2_with fail
          go_loop [12, 13] (fun u v => ∃ (k : Nat) (r : ByteArray), k ≤ 65 ∧ v = .int .i64 k ∧ u = .string r ∧ r.size = k ∧ Hid (bl r = List.replicate k 97)) (fun _ v => 65 - (intOf v).toNat)
          case atStart => exact ⟨0, ⟨#[]⟩, Nat.zero_le _, rfl, rfl, rfl, Lib.hid rfl⟩
          case round =>
            obtain ⟨k, r, hk3, rfl, rfl, hr, HR⟩ := hrel
            by_cases hlt3 : k < 65
            · have hz : (r ++ ⟨#[97]⟩).size = k + 1 := by rw [← bl_len, cat_rep r 97 k HR.out, List.length_replicate]
              have HZ := Lib.hid hz
              clear hz
              go_wp2
              go_round
              case rel => exact ⟨k + 1, _, by omega, by go_num, rfl, HZ.out, Lib.hid (cat_rep r 97 k HR.out)⟩
              case measure => simp [intOf]; omega
            · obtain rfl : k = 65 := by omega
              have hA : cutB (bl r) = .bad 0 true := by rw [HR.out]; exact long_a
              have CA := fun w h => @cut_bad r 0 true w h (by omega) hA
              have QA := fun w h => @quote_any r w h (by omega)
              rw [HR.out, long_q] at QA
              clear hA HR
              have HE3 := Lib.hid (he.ext B3.out)
              (go_wp2_with fail; go_fit (CA _ HE3.out); rintro e w4 ⟨rfl, b4⟩)
              (go_wp2_with fail; go_fit (CB _ (HE3.out.ext b4)); rintro e w5 ⟨rfl, b5⟩)
              have B5 := Lib.hid (Ext.trans' b4 b5)
              have HE5 := Lib.hid (HE3.out.ext B5.out)
              clear b4 b5
              obtain ⟨b, off, rfl, hc⟩ : ∃ b off, ao = some ⟨b, off, none⟩ ∧ w5.cell? ⟨b, off + 0, none⟩ = some (.int .i64 2) ∧ w5.cell? ⟨b, off + 1, none⟩ = some (.string ⟨#[105, 116, 39, 115, 10, 92]⟩) ∧ w5.cell? ⟨b, off + 6, none⟩ = some (.string ⟨#[91, 93]⟩) ∧ w5.cell? ⟨b, off + 5, none⟩ = some (.int .i64 1) ∧ w5.cell? ⟨b, off + 11, none⟩ = some (.string ⟨#[123, 125]⟩) ∧ w5.cell? ⟨b, off + 15, none⟩ = some (.int .i64 5) ∧ w5.cell? ⟨b, off + 20, none⟩ = some (.int .i64 5) ∧ w5.cell? ⟨b, off + 26, none⟩ = some (.string ⟨#[61, 46]⟩) ∧ w5.cell? ⟨b, off + 30, none⟩ = some (.int .i64 6) := by
                obtain ⟨a', cap', e, h1, h2, h3⟩ := HT.out.ext B5.out
                cases e
                rcases h3 with h3 | ⟨b, off, rfl, hb, hc⟩
                · cases h3
                · exact ⟨b, off, rfl, hc 0 _ rfl 0 _ rfl, hc 0 _ rfl 1 _ rfl, hc 1 _ rfl 1 _ rfl, hc 1 _ rfl 0 _ rfl, hc 2 _ rfl 1 _ rfl, hc 3 _ rfl 0 _ rfl, hc 4 _ rfl 0 _ rfl, hc 5 _ rfl 1 _ rfl, hc 6 _ rfl 0 _ rfl⟩
              obtain ⟨c0, c1, c2, c3, c4, c5, c6, c7, c8⟩ := hc
              rw [Nat.add_zero] at c0
              (go_wp2_with fail; go_fit (qt0 HE5.out); rintro e w6 ⟨rfl, b6⟩)
              have HE6 := Lib.hid (HE5.out.ext b6)
              have B6 := Lib.hid (Ext.trans' B5.out b6)
              clear b6
              (go_wp2_with fail; go_fit (qt1 HE6.out); rintro e w7 ⟨rfl, b7⟩)
              have HE7 := Lib.hid (HE6.out.ext b7)
              have B7 := Lib.hid (Ext.trans' B6.out b7)
              clear b7
              (go_wp2_with fail; go_fit (qt2 HE7.out); rintro e w8 ⟨rfl, b8⟩)
              have HE8 := Lib.hid (HE7.out.ext b8)
              have B8 := Lib.hid (Ext.trans' B7.out b8)
              clear b8
              (go_wp2_with fail; go_fit (qt3 HE8.out); rintro e w9 ⟨rfl, b9⟩)
              have HE9 := Lib.hid (HE8.out.ext b9)
              have B9 := Lib.hid (Ext.trans' B8.out b9)
              clear b9
              (go_wp2_with fail; go_fit (qt4 HE9.out); rintro e w10 ⟨rfl, b10⟩)
              have HE10 := Lib.hid (HE9.out.ext b10)
              have B10 := Lib.hid (Ext.trans' B9.out b10)
              clear b10
              (go_wp2_with fail; go_fit (qt5 HE10.out); rintro e w11 ⟨rfl, b11⟩)
              have HE11 := Lib.hid (HE10.out.ext b11)
              have B11 := Lib.hid (Ext.trans' B10.out b11)
              clear b11
              (go_wp2_with fail; go_fit (qt6 HE11.out); rintro e w12 ⟨rfl, b12⟩)
              have HE12 := Lib.hid (HE11.out.ext b12)
              have B12 := Lib.hid (Ext.trans' B11.out b12)
              clear b12
              (go_wp2_with fail; go_fit (qt7 HE12.out); rintro e w13 ⟨rfl, b13⟩)
              have HE13 := Lib.hid (HE12.out.ext b13)
              have B13 := Lib.hid (Ext.trans' B12.out b13)
              clear b13
              (go_wp2_with fail; go_fit (qt8 HE13.out); rintro e w14 ⟨rfl, b14⟩)
              have HE14 := Lib.hid (HE13.out.ext b14)
              have B14 := Lib.hid (Ext.trans' B13.out b14)
              clear b14
              (go_wp2_with fail; go_fit (qt9 HE14.out); rintro e w15 ⟨rfl, b15⟩)
              have HE15 := Lib.hid (HE14.out.ext b15)
              have B15 := Lib.hid (Ext.trans' B14.out b15)
              clear b15
              (go_wp2_with fail; go_fit (QA _ HE15.out); rintro e w16 ⟨rfl, b16⟩)
              have HE16 := Lib.hid (HE15.out.ext b16)
              have B16 := Lib.hid (Ext.trans' B15.out b16)
              clear b16
              (go_wp2_with fail; go_fit (pl37 HE16.out); rintro e w17 ⟨rfl, b17⟩)
              have HE17 := Lib.hid (HE16.out.ext b17)
              have B17 := Lib.hid (Ext.trans' B16.out b17)
              clear b17
              go_wp2
              go_ret
              exact ⟨rfl, Ext.trans' B3.out B17.out⟩
theorem ctxK {w : World} (h : laidMetH Tryd.prog Rows.lexKnownRow.laid w) : Err w := err_of (text := [118, 97, 108, 117, 101, 32, 111, 117, 116, 32, 111, 102, 32, 114, 97, 110, 103, 101]) (by kernel_rfl) (by kernel_rfl) rfl h
namespace lexKnown
open Go.ChangeShapes Go.WideShapes Go.ChangeAt Go.RowKit
theorem own : ownKnob Tryd.prog.godebug = none := by kernel_rfl
theorem laidOut : laidOutB Tryd.prog = true := by kernel_rfl
set_option linter.unusedVariables false
set_option maxRecDepth 100000 in
theorem lifted (os : Os) (started : os.Started) (H : Type) (enc : TypeId × Value → H) :
    ReturnsInHanded {} Tryd.checked os 3 .any (fun w args => (Rows.lexKnownSpec.pre enc Tryd.prog Tryd.f3 [] false w args ∧ laidMetH Tryd.prog Rows.lexKnownRow.laid w) ∧ sizedMet enc Tryd.prog Tryd.f3 (OpenSpec.ofChange Rows.lexKnownSpec) false w args)
      (Rows.lexKnownSpec.post enc Tryd.prog Tryd.f3 false true false false) := by
  refine returnsInHanded_of_change_and (C := Tryd.checked) (X := fun w _ => laidMetH Tryd.prog Rows.lexKnownRow.laid w) (fun _ _ _ hh h => h.of_heap hh) own started (by kernel_rfl) Tryd.func3
    (ChangeSpec.witness_shaped (enc := enc) (C := Tryd.checked) (os := os) (X := fun w _ => laidMetH Tryd.prog Rows.lexKnownRow.laid w) false (World.laidAll Tryd.prog os Rows.lexKnownRow.laid) #[] 8 (World.laidAll_os _ _ _)
      (World.shaped_of_ZipB (by kernel_rfl) (by kernel_rfl)) (by kernel_rfl) (by kernel_rfl) (by kernel_rfl)
      (by rw [MakeChecks.laidMetH_plain _ _ _ (by kernel_rfl)]; exact laidMet_laidAll _ (by kernel_rfl) (by kernel_rfl))) ?_
  intro W base args ds gs before hval0 hW hcnd hsz0 hL _
  have hval : ∀ (j : Nat) t v, Tryd.f3.params[j]? = some t → args[j]? = some v → Value.okWide Tryd.prog W .any base t v := hval0
  have hW' := hW
  obtain ⟨p, q, hA0, hV, rfl, hfz, hnd⟩ := hW
  have hA : DataW.TrodAll enc Tryd.prog W 0 (fun _ => true) true Tryd.f3.params.toList args.toList ds p := hA0
  have hsz : (DataW.weightsEach Tryd.prog (Tryd.f3.params.toList ++ []) (ds ++ gs)).all (· ≤ reachBytes) = true := hsz0
  rw [Tryd.params3] at hA hval hsz
  obtain ⟨rfl, rfl, rfl⟩ := trodAll_none hA
  obtain ⟨rfl, rfl⟩ := trodVars_none hV
  clear hA0 hval0 hsz0


  refine (known_at (ctxK hL)).mono fun e W' ⟨he, bel⟩ => ?_
  subst he
  exact ⟨_, rfl, _, _, _, [], _, [], hW', trodAll_mk1 (shut_bool Tryd.underlying4 _), rfl, rfl, bel.frame _, fun h => by cases h⟩
theorem proved : Rows.LexKnownSaid :=
  OpenClaim.holds_of_wide 3 Tryd.f3 rfl rfl rfl rfl rfl rfl rfl ⟨rfl, rfl, rfl, rfl, rfl⟩ rfl rfl rfl rfl rfl (by kernel_rfl) Tryd.func3 (by kernel_rfl)
    (of_decide_eq_true (by kernel_rfl)) (by unfold Func.isWrapper; first | (rw [if_pos (by decide +kernel)]; kernel_rfl) | (rw [if_neg (by decide +kernel)]; exact ⟨rfl, rfl⟩))
    (fun os started H enc _ => lifted os started H enc)
theorem carded : Rows.LexKnownCardSaid :=
  Claim7.holds_tied_plain_at .later [] [.data, .data, .data, .sentinel, .sentinel] true (true, "7e6691e419b95f883b478f787a14e41dbd4ca20f2e25028a77df4186af6ce731") true
    proved (fun _ h => by cases h) (by kernel_rfl) (fun _ h => by cases h) lexKnown_row_tie rfl ⟨rfl, rfl⟩ (by kernel_rfl) rfl
    (fun f fn hf hfn => by
      obtain rfl : f = 3 := Option.some.inj ((show Tryd.prog.funcNamed "sizar/sizarlaw6.LexKnown" = some 3 by kernel_rfl).symm.trans hf) |>.symm
      obtain rfl : fn = Tryd.f3 := (Option.some.inj (Tryd.func3.symm.trans hfn)).symm
      exact ⟨by kernel_rfl, fun j t ht => by
        rw [Tryd.params3] at ht; simp at ht⟩)
    (by kernel_rfl)
#print axioms carded
end lexKnown

end Go.Proofs.YtdjdkhbaemjnnaaDoor
