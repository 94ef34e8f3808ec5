/- WholeKnown, its tied card: the chapter's examples; the tables and errors that strconv reads lie as the program's text lays them (tied). No other condition. -/
import Derived.Test.YtcpfhjdjooakcaaDoorWK1
import Derived.Deep.DeepCutAuto
namespace Go.Proofs.YtcpfhjdjooakcaaDoor
open Go.RowKit
set_option linter.unusedVariables false
set_option maxRecDepth 100000 in
set_option maxHeartbeats 8000000 in
theorem known_at {w : World} (hc : Tab w ∧ Err w) : Calls Tryd.prog 3 #[] w (IsBool w true) := by
  obtain ⟨ht, he⟩ := hc
  have A := fun w => @awake_at w
  go_enter Tryd.func3, Tryd.ntmps3
  (go_wp2_with fail; go_fit (A _ ht); rintro e w1 ⟨rfl, b1⟩)
  have ht1 := ht.ext b1
  have he1 := he.ext b1
  go_upto_region 4 with fail
  go_cut [3] (fun s wx => ∃ b, s = .slice (some ⟨b, 0, none⟩) 7 7 ∧ Sevens wx b ∧ Below w.heap.size w wx)
  case first =>
    (go_wp2_with fail; go_fit (k0); rintro e w' ⟨rfl, rfl⟩)
    (go_wp2_with fail; go_fit (k1); rintro e w' ⟨rfl, rfl⟩)
    (go_wp2_with fail; go_fit (k2); rintro e w' ⟨rfl, rfl⟩)
    (go_wp2_with fail; go_fit (k3); rintro e w' ⟨rfl, rfl⟩)
    (go_wp2_with fail; go_fit (k4); rintro e w' ⟨rfl, rfl⟩)
    (go_wp2_with fail; go_fit (k5); rintro e w' ⟨rfl, rfl⟩)
    (go_wp2_with fail; go_fit (k6); rintro e w' ⟨rfl, rfl⟩)
    go_wp2
    go_meet
    refine ⟨_, rfl, ⟨by simp, fun k hk => ?_⟩, ?_⟩
    · rcases (show k = 0 ∨ k = 1 ∨ k = 2 ∨ k = 3 ∨ k = 4 ∨ k = 5 ∨ k = 6 by omega) with rfl | rfl | rfl | rfl | rfl | rfl | rfl
      all_goals (rw [World.cell?_alloc_at _ _ _ _ (by simp)]; rfl)
    · have := b1.size
      exact b1.alloc (by omega) _
  case rest =>
    obtain ⟨b, rfl, hs, hb2⟩ := hcut
    have ht2 := ht.ext hb2
    have he2 := he.ext hb2
    clear ht1 he1 b1 ht he
    go_wp2_with fail
    go_loop [4] (fun i => ∃ k : Nat, k ≤ 7 ∧ i = .int .i64 k) (fun i => 7 - (intOf i).toNat)
    case atStart => exact ⟨0, by omega, rfl⟩
    case round =>
      obtain ⟨k, hk, rfl⟩ := hrel
      by_cases hlt : k < 7
      · have hcx := hs.2 k hlt
        have hbl := hs.1
        rw [Nat.zero_add] at hcx
        go_wp2
        go_round
        case rel => exact ⟨k + 1, by omega, by go_num⟩
        case measure => simp [intOf]; omega
      · (go_wp2_with fail; go_fit (k_neg); rintro e w' ⟨rfl, rfl⟩)
        (go_wp2_with fail; go_fit (k_abs); rintro e w' ⟨rfl, rfl⟩)
        (go_wp2_with fail; go_fit (k_tilde); rintro e w' ⟨rfl, rfl⟩)
        (go_wp2_with fail; go_fit (one_what); rintro e w' ⟨rfl, rfl⟩)
        (go_wp2_with fail; go_fit (cmp_what); rintro e w' ⟨rfl, rfl⟩)
        (go_wp2_with fail; go_fit (p0 he2); rintro e w3 ⟨rfl, c0⟩)
        have he3 := he2.ext c0
        (go_wp2_with fail; go_fit (p1 he3); rintro e w4 ⟨rfl, c1⟩)
        have he4 := he3.ext c1
        (go_wp2_with fail; go_fit (p2 he4); rintro e w5 ⟨rfl, c2⟩)
        have he5 := he4.ext c2
        (go_wp2_with fail; go_fit (p3 he5); rintro e w6 ⟨rfl, c3⟩)
        have he6 := he5.ext c3
        (go_wp2_with fail; go_fit (p4 he6); rintro e w7 ⟨rfl, c4⟩)
        have he7 := he6.ext c4
        (go_wp2_with fail; go_fit (p5 he7); rintro e w8 ⟨rfl, c5⟩)
        have he8 := he7.ext c5
        (go_wp2_with fail; go_fit (p6 he8); rintro e w9 ⟨rfl, c6⟩)
        have he9 := he8.ext c6
        have cc := Ext.trans' c0 (Ext.trans' c1 (Ext.trans' c2 (Ext.trans' c3 (Ext.trans' c4 (Ext.trans' c5 c6)))))
        have ht3 := ht2.ext cc
        (go_wp2_with fail; go_fit (two_what); rintro e w' ⟨rfl, rfl⟩)
        (go_wp2_with fail; go_fit (k10); rintro e w' ⟨rfl, rfl⟩)
        (go_wp2_with fail; go_fit (k11); rintro e w' ⟨rfl, rfl⟩)
        (go_wp2_with fail; go_fit (k12); rintro e w' ⟨rfl, rfl⟩)
        (go_wp2_with fail; go_fit (k13); rintro e w' ⟨rfl, rfl⟩)
        (go_wp2_with fail; go_fit (k14); rintro e w' ⟨rfl, rfl⟩)
        (go_wp2_with fail; go_fit (k15); rintro e w' ⟨rfl, rfl⟩)
        (go_wp2_with fail; go_fit (k16); rintro e w' ⟨rfl, rfl⟩)
        (go_wp2_with fail; go_fit (k17); rintro e w' ⟨rfl, rfl⟩)
        (go_wp2_with fail; go_fit (k18); rintro e w' ⟨rfl, rfl⟩)
        (go_wp2_with fail; go_fit (k19); rintro e w' ⟨rfl, rfl⟩)
        (go_wp2_with fail; go_fit (k20); rintro e w' ⟨rfl, rfl⟩)
        (go_wp2_with fail; go_fit (k21); rintro e w' ⟨rfl, rfl⟩)
        (go_wp2_with fail; go_fit (k22); rintro e w' ⟨rfl, rfl⟩)
        (go_wp2_with fail; go_fit (k23); rintro e w' ⟨rfl, rfl⟩)
        (go_wp2_with fail; go_fit (k24); rintro e w' ⟨rfl, rfl⟩)
        (go_wp2_with fail; go_fit (k25); rintro e w' ⟨rfl, rfl⟩)
        (go_wp2_with fail; go_fit (k26); rintro e w' ⟨rfl, rfl⟩)
        have TX := fun w h => @text_at (-9223372036854775808) w h (by decide +kernel)
        rw [text_least] at TX
        (go_wp2_with fail; go_fit (TX _ ht3); rintro e w11 ⟨rfl, c7⟩)
        go_wp2
        go_ret
        exact ⟨rfl, Ext.trans' hb2 (Ext.trans' cc c7)⟩
theorem ctxK {w : World} (h : laidMetH Tryd.prog Rows.wholeKnownRow.laid w) : Tab w ∧ Err w := ⟨tab_of (by kernel_rfl) (by kernel_rfl) h, err_of (text := [118, 97, 108, 117, 101, 32, 111, 117, 116, 32, 111, 102, 32, 114, 97, 110, 103, 101]) (by kernel_rfl) (by kernel_rfl) rfl h⟩
namespace wholeKnown
open Go.ChangeShapes Go.WideShapes Go.ChangeAt Go.RowKit
theorem own : ownKnob Tryd.prog.godebug = none := by kernel_rfl
theorem laidOut : laidOutB Tryd.prog = true := by kernel_rfl
set_option linter.unusedVariables false
set_option maxRecDepth 100000 in
theorem lifted (os : Os) (started : os.Started) (H : Type) (enc : TypeId × Value → H) :
    ReturnsInHanded {} Tryd.checked os 3 .any (fun w args => (Rows.wholeKnownSpec.pre enc Tryd.prog Tryd.f3 [] false w args ∧ laidMetH Tryd.prog Rows.wholeKnownRow.laid w) ∧ sizedMet enc Tryd.prog Tryd.f3 (OpenSpec.ofChange Rows.wholeKnownSpec) false w args)
      (Rows.wholeKnownSpec.post enc Tryd.prog Tryd.f3 false true false false) := by
  refine returnsInHanded_of_change_and (C := Tryd.checked) (X := fun w _ => laidMetH Tryd.prog Rows.wholeKnownRow.laid w) (fun _ _ _ hh h => h.of_heap hh) own started (by kernel_rfl) Tryd.func3
    (ChangeSpec.witness_shaped (enc := enc) (C := Tryd.checked) (os := os) (X := fun w _ => laidMetH Tryd.prog Rows.wholeKnownRow.laid w) false (World.laidAll Tryd.prog os Rows.wholeKnownRow.laid) #[] 8 (World.laidAll_os _ _ _)
      (World.shaped_of_ZipB (by kernel_rfl) (by kernel_rfl)) (by kernel_rfl) (by kernel_rfl) (by kernel_rfl)
      (by rw [MakeChecks.laidMetH_plain _ _ _ (by kernel_rfl)]; exact laidMet_laidAll _ (by kernel_rfl) (by kernel_rfl))) ?_
  intro W base args ds gs before hval0 hW hcnd hsz0 hL _
  have hval : ∀ (j : Nat) t v, Tryd.f3.params[j]? = some t → args[j]? = some v → Value.okWide Tryd.prog W .any base t v := hval0
  have hW' := hW
  obtain ⟨p, q, hA0, hV, rfl, hfz, hnd⟩ := hW
  have hA : DataW.TrodAll enc Tryd.prog W 0 (fun _ => true) true Tryd.f3.params.toList args.toList ds p := hA0
  have hsz : (DataW.weightsEach Tryd.prog (Tryd.f3.params.toList ++ []) (ds ++ gs)).all (· ≤ reachBytes) = true := hsz0
  rw [Tryd.params3] at hA hval hsz
  obtain ⟨rfl, rfl, rfl⟩ := trodAll_none hA
  obtain ⟨rfl, rfl⟩ := trodVars_none hV
  clear hA0 hval0 hsz0


  refine (known_at (ctxK hL)).mono fun e W' ⟨he, bel⟩ => ?_
  subst he
  exact ⟨_, rfl, _, _, _, [], _, [], hW', trodAll_mk1 (shut_bool Tryd.underlying4 _), rfl, rfl, bel.frame _, fun h => by cases h⟩
theorem proved : Rows.WholeKnownSaid :=
  OpenClaim.holds_of_wide 3 Tryd.f3 rfl rfl rfl rfl rfl rfl rfl ⟨rfl, rfl, rfl, rfl, rfl⟩ rfl rfl rfl rfl rfl (by kernel_rfl) Tryd.func3 (by kernel_rfl)
    (of_decide_eq_true (by kernel_rfl)) (by unfold Func.isWrapper; first | (rw [if_pos (by decide +kernel)]; kernel_rfl) | (rw [if_neg (by decide +kernel)]; exact ⟨rfl, rfl⟩))
    (fun os started H enc _ => lifted os started H enc)
theorem carded : Rows.WholeKnownCardSaid :=
  Claim7.holds_tied_plain_at .later [] [.data, .data, .data, .sentinel, .sentinel] true (true, "9469a83bd6f460deb7a0031fef88b243aeeb25348d5a1e2e1e8df94bcdda605a") true
    proved (fun _ h => by cases h) (by kernel_rfl) (fun _ h => by cases h) wholeKnown_row_tie rfl ⟨rfl, rfl⟩ (by kernel_rfl) rfl
    (fun f fn hf hfn => by
      obtain rfl : f = 3 := Option.some.inj ((show Tryd.prog.funcNamed "sizar/sizarlaw2.WholeKnown" = some 3 by kernel_rfl).symm.trans hf) |>.symm
      obtain rfl : fn = Tryd.f3 := (Option.some.inj (Tryd.func3.symm.trans hfn)).symm
      exact ⟨by kernel_rfl, fun j t ht => by
        rw [Tryd.params3] at ht; simp at ht⟩)
    (by kernel_rfl)
#print axioms carded
end wholeKnown

end Go.Proofs.YtcpfhjdjooakcaaDoor
