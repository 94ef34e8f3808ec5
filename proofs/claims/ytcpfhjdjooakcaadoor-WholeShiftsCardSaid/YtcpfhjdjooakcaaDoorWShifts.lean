/- WholeShifts, its tied card: for every a and n the law answers true; the tables that strconv reads lie as the program's text lays them (tied). No other condition. -/
import Derived.Test.YtcpfhjdjooakcaaDoorWCard
namespace Go.Proofs.YtcpfhjdjooakcaaDoor
open Go.RowKit
set_option linter.unusedVariables false
theorem md_emod {a p : Int} (hp : 0 < p) : md a p = a % p := by
  have h1 := Int.tmod_lt_of_pos a hp
  have h2 := Int.lt_tmod_of_pos a hp
  have h3 := Int.mul_tdiv_add_tmod a p
  have key : ∀ m : Int, 0 ≤ m → m < p → (∃ k, a = m + p * k) → m = a % p := fun m h0 h1 ⟨k, hk⟩ => by
    rw [hk, Int.add_mul_emod_self_left, Int.emod_eq_of_lt h0 h1]
  unfold md
  by_cases h : a.tmod p < 0
  · rw [if_pos ⟨by omega, by rw [decide_eq_true h, decide_eq_false (by omega)]; decide⟩]
    refine key _ (by omega) (by omega) ⟨a.tdiv p - 1, ?_⟩
    rw [Int.mul_sub]; omega
  · rw [if_neg (by rw [decide_eq_false h, decide_eq_false (by omega : ¬ p < 0)]; simp)]
    exact key _ (by omega) (by omega) ⟨a.tdiv p, by omega⟩
theorem pow_le {N : Nat} (h : N ≤ 62) : (1 : Int) ≤ 2 ^ N ∧ (2 : Int) ^ N ≤ 4611686018427387904 := by
  constructor
  · have : (0 : Int) < 2 ^ N := Int.pow_pos (by decide)
    omega
  · have : (2 : Nat) ^ N ≤ 2 ^ 62 := Nat.pow_le_pow_right (by decide) h
    have e : ((2 ^ N : Nat) : Int) = (2 : Int) ^ N := by simp
    omega
theorem floor_R {a : Int} {N : Nat} (ha : R a) (h : N ≤ 62) : R (a / 2 ^ N * 2 ^ N) := by
  have hp := pow_le h
  have h1 : (9223372036854775808 : Int) = 2 ^ (63 - N) * 2 ^ N := by rw [← Int.pow_add, show 63 - N + N = 63 by omega]; decide
  have h2 : -(2 ^ (63 - N)) ≤ a / 2 ^ N := by
    rw [Int.le_ediv_iff_mul_le (by omega), Int.neg_mul, ← h1]; unfold R at ha; omega
  have h3 : -(2 ^ (63 - N)) * 2 ^ N ≤ a / 2 ^ N * 2 ^ N := Int.mul_le_mul_of_nonneg_right h2 (by omega)
  rw [Int.neg_mul, ← h1] at h3
  have h4 := Int.ediv_mul_le a (b := 2 ^ N) (by omega)
  unfold R at *; omega
set_option maxHeartbeats 1000000 in
set_option maxRecDepth 100000 in
theorem shifts_core {w : World} {a n p d m : Int} {x : Int × Int} (ht : Tab w) (h0 : 0 ≤ n) (h1 : n ≤ 62) (hp : IntKind.i64.wrap (2 ^ n.toNat) = 2 ^ n.toNat)
    (hd : IntKind.i64.wrap (d * 2 ^ n.toNat) = d * 2 ^ n.toNat) (ha : IntKind.i64.wrap a = a) (hm : d * 2 ^ n.toNat + m = a)
    (P1 : ∀ w, Calls Tryd.prog 15 #[.string ⟨#[60, 60]⟩, .int .i64 a, .int .i64 n] w fun e w' => e = Ret2 x ∧ w = w')
    (P4 : ∀ w, Calls Tryd.prog 15 #[.string ⟨#[62, 62]⟩, .int .i64 a, .int .i64 n] w fun e w' => e = Ret2 (d, 0) ∧ w = w')
    (P5 : ∀ w, Calls Tryd.prog 15 #[.string ⟨#[109, 111, 100]⟩, .int .i64 a, .int .i64 (2 ^ n.toNat)] w fun e w' => e = Ret2 (m, 0) ∧ w = w')
    (hx : x.2 ≠ 0 ∨ (x.2 = 0 ∧ (∀ w, Calls Tryd.prog 15 #[.string ⟨#[62, 62]⟩, .int .i64 x.1, .int .i64 n] w fun e w' => e = Ret2 (a, 0) ∧ w = w') ∧
      (∀ w, Calls Tryd.prog 15 #[.string ⟨#[42]⟩, .int .i64 a, .int .i64 (2 ^ n.toNat)] w fun e w' => e = Ret2 (x.1, 0) ∧ w = w'))) : Calls Tryd.prog 8 #[.int .i64 a, .int .i64 n] w (IsBool w true) := by
  obtain ⟨x1, x2⟩ := x
  simp only [] at P1 hx
  have A := fun w => @awake_at w
  rcases hx with hx | ⟨hx, P2, P3⟩
  · have g : (x2 == 0) = false := beq_false_of_ne hx
    go_enter Tryd.func8, Tryd.ntmps8
    (go_wp2_with fail; go_fit (A _ ht); rintro e w1 ⟨rfl, b1⟩)
    (go_wp2_with fail; go_fit (P1 _); rintro e w' ⟨rfl, rfl⟩)
    (go_wp2_with fail; go_fit (P4 _); rintro e w' ⟨rfl, rfl⟩)
    (go_wp2_with fail; go_fit (P5 _); rintro e w' ⟨rfl, rfl⟩)
    go_wp2
    all_goals (go_ret; exact ⟨rfl, b1⟩)
  · subst hx
    go_enter Tryd.func8, Tryd.ntmps8
    (go_wp2_with fail; go_fit (A _ ht); rintro e w1 ⟨rfl, b1⟩)
    (go_wp2_with fail; go_fit (P1 _); rintro e w' ⟨rfl, rfl⟩)
    (go_wp2_with fail; go_fit (P2 _); rintro e w' ⟨rfl, rfl⟩)
    (go_wp2_with fail; go_fit (P3 _); rintro e w' ⟨rfl, rfl⟩)
    (go_wp2_with fail; go_fit (P4 _); rintro e w' ⟨rfl, rfl⟩)
    (go_wp2_with fail; go_fit (P5 _); rintro e w' ⟨rfl, rfl⟩)
    go_wp2
    all_goals (go_ret; exact ⟨rfl, b1⟩)
set_option maxHeartbeats 1000000 in
theorem shifts_at (a : Int) (wa : (Lit.int .i64 a).wf = true) (n : Int) (wb : (Lit.int .i64 n).wf = true) {w : World} (ht : Tab w) : Calls Tryd.prog 8 #[.int .i64 a, .int .i64 n] w (IsBool w true) := by
  have ha := R_of wa
  have hn := R_of wb
  have A := fun w => @awake_at w
  by_cases h0 : n < 0
  · go_enter Tryd.func8, Tryd.ntmps8
    (go_wp2_with fail; go_fit (A _ ht); rintro e w1 ⟨rfl, b1⟩)
    go_wp2
    all_goals (go_ret; exact ⟨rfl, b1⟩)
  by_cases h1 : 62 < n
  · go_enter Tryd.func8, Tryd.ntmps8
    (go_wp2_with fail; go_fit (A _ ht); rintro e w1 ⟨rfl, b1⟩)
    go_wp2
    all_goals (go_ret; exact ⟨rfl, b1⟩)
  have hN : n.toNat ≤ 62 := by omega
  have hp := pow_le hN
  have hpR : R (2 ^ n.toNat) := by unfold R; omega
  refine shifts_core (d := a / 2 ^ n.toNat) (m := a % 2 ^ n.toNat) (p := 0) (x := ex (a * 2 ^ n.toNat)) ht (by omega) (by omega) (wrap_in hpR) (wrap_in (floor_R ha hN)) (wrap_in ha) (Int.ediv_mul_add_emod _ _) (fun w => ?_) (fun w => ?_) (fun w => ?_) ?_
  · have := @two_shl a n w ha hn
    rw [show shl a n = ex (a * 2 ^ n.toNat) from if_neg (by omega)] at this; exact this
  · have := @two_shr a n w ha hn
    rw [show shr a n = (a / 2 ^ n.toNat, 0) from if_neg (by omega)] at this; exact this
  · have := @two_mod a (2 ^ n.toNat) w ha hpR
    rw [show mdl a (2 ^ n.toNat) = (md a (2 ^ n.toNat), 0) from if_neg (by omega), md_emod (by omega)] at this; exact this
  · by_cases h : R (a * 2 ^ n.toNat)
    · right
      rw [ex_in h]
      refine ⟨rfl, fun w => ?_, fun w => ?_⟩
      · have := @two_shr (a * 2 ^ n.toNat) n w h hn
        rw [show shr (a * 2 ^ n.toNat) n = (a * 2 ^ n.toNat / 2 ^ n.toNat, 0) from if_neg (by omega), shl_in] at this; exact this
      · have := @two_mul a (2 ^ n.toNat) w ha hpR
        rw [ex_in h] at this; exact this
    · left; rw [ex_out h]; decide
theorem tabSh {w : World} (h : laidMetH Tryd.prog Rows.wholeShiftsRow.laid w) : Tab w := tab_of (by kernel_rfl) (by kernel_rfl) h
namespace wholeShifts
open Go.ChangeShapes Go.WideShapes Go.ChangeAt Go.RowKit
theorem own : ownKnob Tryd.prog.godebug = none := by kernel_rfl
theorem laidOut : laidOutB Tryd.prog = true := by kernel_rfl
set_option linter.unusedVariables false
set_option maxRecDepth 100000 in
theorem lifted (os : Os) (started : os.Started) (H : Type) (enc : TypeId × Value → H) :
    ReturnsInHanded {} Tryd.checked os 8 .any (fun w args => (Rows.wholeShiftsSpec.pre enc Tryd.prog Tryd.f8 [] false w args ∧ laidMetH Tryd.prog Rows.wholeShiftsRow.laid w) ∧ sizedMet enc Tryd.prog Tryd.f8 (OpenSpec.ofChange Rows.wholeShiftsSpec) false w args)
      (Rows.wholeShiftsSpec.post enc Tryd.prog Tryd.f8 false true false false) := by
  refine returnsInHanded_of_change_and (C := Tryd.checked) (X := fun w _ => laidMetH Tryd.prog Rows.wholeShiftsRow.laid w) (fun _ _ _ hh h => h.of_heap hh) own started (by kernel_rfl) Tryd.func8
    (ChangeSpec.witness_shaped (enc := enc) (C := Tryd.checked) (os := os) (X := fun w _ => laidMetH Tryd.prog Rows.wholeShiftsRow.laid w) false (World.laidAll Tryd.prog os Rows.wholeShiftsRow.laid) #[.int .i64 0, .int .i64 0] 8 (World.laidAll_os _ _ _)
      (World.shaped_of_ZipB (by kernel_rfl) (by kernel_rfl)) (by kernel_rfl) (by kernel_rfl) (by kernel_rfl)
      (by rw [MakeChecks.laidMetH_plain _ _ _ (by kernel_rfl)]; exact laidMet_laidAll _ (by kernel_rfl) (by kernel_rfl))) ?_
  intro W base args ds gs before hval0 hW hcnd hsz0 hL _
  have hval : ∀ (j : Nat) t v, Tryd.f8.params[j]? = some t → args[j]? = some v → Value.okWide Tryd.prog W .any base t v := hval0
  have hW' := hW
  obtain ⟨p, q, hA0, hV, rfl, hfz, hnd⟩ := hW
  have hA : DataW.TrodAll enc Tryd.prog W 0 (fun _ => true) true Tryd.f8.params.toList args.toList ds p := hA0
  have hsz : (DataW.weightsEach Tryd.prog (Tryd.f8.params.toList ++ []) (ds ++ gs)).all (· ≤ reachBytes) = true := hsz0
  rw [Tryd.params8] at hA hval hsz
  obtain ⟨v0, vs0, d0, ds0, p0, q0, hargs, rfl, rfl, h0, r0⟩ := trodAll_cons hA
  obtain ⟨v1, vs1, d1, ds1, p1, q1, rfl, rfl, rfl, h1, r1⟩ := trodAll_cons r0
  obtain ⟨rfl, rfl, rfl⟩ := trodAll_nil r1
  obtain rfl : args = #[v0, v1] := by cases args; simp_all
  obtain ⟨rfl, rfl⟩ := trodVars_none hV
  clear hA0 hval0 hsz0
  have k0 := h0
  have lt0 := lt_of_trod h0
  have k1 := h1
  have lt1 := lt_of_trod h1
  obtain ⟨a0, rfl, rfl, rfl, w0⟩ := open_int Tryd.underlying2 (hval 0 2 v0 rfl rfl) h0
  obtain ⟨a1, rfl, rfl, rfl, w1⟩ := open_int Tryd.underlying2 (hval 1 2 v1 rfl rfl) h1
  refine (shifts_at a0 w0 a1 w1 (tabSh hL)).mono fun e W' ⟨he, bel⟩ => ?_
  subst he
  exact ⟨_, rfl, _, _, _, [], _, [], hW', trodAll_mk1 (shut_bool Tryd.underlying4 _), (trodAll_cons_mk (Below.trod laidOut (by kernel_rfl) (of_decide_eq_true (by kernel_rfl)) k0 bel lt0) (trodAll_cons_mk (Below.trod laidOut (by kernel_rfl) (of_decide_eq_true (by kernel_rfl)) k1 bel lt1) trodAll_mk0)), rfl, bel.frame _, fun h => by cases h⟩
theorem proved : Rows.WholeShiftsSaid :=
  OpenClaim.holds_of_wide 8 Tryd.f8 rfl rfl rfl rfl rfl rfl rfl ⟨rfl, rfl, rfl, rfl, rfl⟩ rfl rfl rfl rfl rfl (by kernel_rfl) Tryd.func8 (by kernel_rfl)
    (of_decide_eq_true (by kernel_rfl)) (by unfold Func.isWrapper; first | (rw [if_pos (by decide +kernel)]; kernel_rfl) | (rw [if_neg (by decide +kernel)]; exact ⟨rfl, rfl⟩))
    (fun os started H enc _ => lifted os started H enc)
theorem carded : Rows.WholeShiftsCardSaid :=
  Claim7.holds_tied_plain_at .later [] [.data, .data, .data] true (true, "9469a83bd6f460deb7a0031fef88b243aeeb25348d5a1e2e1e8df94bcdda605a") true
    proved (fun _ h => by cases h) (by kernel_rfl) (fun _ h => by cases h) wholeShifts_row_tie rfl ⟨rfl, rfl⟩ (by kernel_rfl) rfl
    (fun f fn hf hfn => by
      obtain rfl : f = 8 := Option.some.inj ((show Tryd.prog.funcNamed "sizar/sizarlaw2.WholeShifts" = some 8 by kernel_rfl).symm.trans hf) |>.symm
      obtain rfl : fn = Tryd.f8 := (Option.some.inj (Tryd.func8.symm.trans hfn)).symm
      exact ⟨by kernel_rfl, fun j t ht => by
        rw [Tryd.params8] at ht
        have hm : t ∈ [2, 2] := by simpa using Array.mem_of_getElem? ht
        have hall : ([2, 2].all fun u => !Tryd.prog.wantsStandIn u) = true := by kernel_rfl
        exact (show Tryd.prog.wantsStandIn t = false by simpa using List.all_eq_true.1 hall t hm)⟩)
    (by kernel_rfl)
#print axioms carded
end wholeShifts

end Go.Proofs.YtcpfhjdjooakcaaDoor
