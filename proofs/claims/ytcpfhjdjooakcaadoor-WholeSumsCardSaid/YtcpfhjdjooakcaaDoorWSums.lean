/- WholeSums, its tied card: for every a and b the law answers true; the tables that strconv reads lie as the program's text lays them (tied). No other condition. -/
import Derived.Test.YtcpfhjdjooakcaaDoorWCard
namespace Go.Proofs.YtcpfhjdjooakcaaDoor
open Go.RowKit
set_option linter.unusedVariables false
def Sums (w : World) (a b : Int) : Prop := Calls Tryd.prog 7 #[.int .i64 a, .int .i64 b] w (IsBool w true)
set_option maxHeartbeats 1000000 in
set_option maxRecDepth 100000 in
theorem sums_core {w : World} {a b lo hi : Int} {x y : Int × Int} (ht : Tab w) (ha : R a) (hb : R b)
    (P1 : ∀ w, Calls Tryd.prog 15 #[.string ⟨#[43]⟩, .int .i64 a, .int .i64 b] w fun e w' => e = Ret2 x ∧ w = w')
    (P2 : ∀ w, Calls Tryd.prog 15 #[.string ⟨#[43]⟩, .int .i64 b, .int .i64 a] w fun e w' => e = Ret2 x ∧ w = w')
    (P3 : ∀ w, Calls Tryd.prog 15 #[.string ⟨#[42]⟩, .int .i64 a, .int .i64 b] w fun e w' => e = Ret2 y ∧ w = w')
    (P4 : ∀ w, Calls Tryd.prog 15 #[.string ⟨#[42]⟩, .int .i64 b, .int .i64 a] w fun e w' => e = Ret2 y ∧ w = w')
    (P5 : ∀ w, Calls Tryd.prog 15 #[.string ⟨#[109, 105, 110]⟩, .int .i64 a, .int .i64 b] w fun e w' => e = Ret2 (lo, 0) ∧ w = w')
    (P6 : ∀ w, Calls Tryd.prog 15 #[.string ⟨#[109, 97, 120]⟩, .int .i64 a, .int .i64 b] w fun e w' => e = Ret2 (hi, 0) ∧ w = w')
    (hx : x.2 ≠ 0 ∨ (x.2 = 0 ∧ ∀ w, Calls Tryd.prog 15 #[.string ⟨#[45]⟩, .int .i64 x.1, .int .i64 b] w fun e w' => e = Ret2 (a, 0) ∧ w = w'))
    (h1 : lo ≤ hi) (h2 : (lo = a ∧ hi = b) ∨ (lo = b ∧ hi = a)) : Sums w a b := by
  obtain ⟨x1, x2⟩ := x
  obtain ⟨y1, y2⟩ := y
  simp only [] at P1 P2 P3 P4 hx
  have A := fun w => @awake_at w
  unfold Sums
  rcases hx with hx | ⟨hx, P7⟩
  · have g : (x2 == 0) = false := beq_false_of_ne hx
    rcases h2 with ⟨rfl, rfl⟩ | ⟨rfl, rfl⟩
    all_goals
      go_enter Tryd.func7, Tryd.ntmps7
      (go_wp2_with fail; go_fit (A _ ht); rintro e w1 ⟨rfl, b1⟩)
      (go_wp2_with fail; go_fit (P1 _); rintro e w' ⟨rfl, rfl⟩)
      (go_wp2_with fail; go_fit (P2 _); rintro e w' ⟨rfl, rfl⟩)
      (go_wp2_with fail; go_fit (P3 _); rintro e w' ⟨rfl, rfl⟩)
      (go_wp2_with fail; go_fit (P4 _); rintro e w' ⟨rfl, rfl⟩)
      (go_wp2_with fail; go_fit (P5 _); rintro e w' ⟨rfl, rfl⟩)
      (go_wp2_with fail; go_fit (P6 _); rintro e w' ⟨rfl, rfl⟩)
      go_wp2
      all_goals (go_ret; exact ⟨rfl, b1⟩)
  · subst hx
    rcases h2 with ⟨rfl, rfl⟩ | ⟨rfl, rfl⟩
    all_goals
      go_enter Tryd.func7, Tryd.ntmps7
      (go_wp2_with fail; go_fit (A _ ht); rintro e w1 ⟨rfl, b1⟩)
      (go_wp2_with fail; go_fit (P1 _); rintro e w' ⟨rfl, rfl⟩)
      (go_wp2_with fail; go_fit (P2 _); rintro e w' ⟨rfl, rfl⟩)
      (go_wp2_with fail; go_fit (P3 _); rintro e w' ⟨rfl, rfl⟩)
      (go_wp2_with fail; go_fit (P4 _); rintro e w' ⟨rfl, rfl⟩)
      (go_wp2_with fail; go_fit (P7 _); rintro e w' ⟨rfl, rfl⟩)
      (go_wp2_with fail; go_fit (P5 _); rintro e w' ⟨rfl, rfl⟩)
      (go_wp2_with fail; go_fit (P6 _); rintro e w' ⟨rfl, rfl⟩)
      go_wp2
      all_goals (go_ret; exact ⟨rfl, b1⟩)
theorem sums_at (a : Int) (wa : (Lit.int .i64 a).wf = true) (b : Int) (wb : (Lit.int .i64 b).wf = true) {w : World} (ht : Tab w) : Calls Tryd.prog 7 #[.int .i64 a, .int .i64 b] w (IsBool w true) := by
  have ha := R_of wa
  have hb := R_of wb
  refine sums_core (lo := mn a b) (hi := mx a b) (x := ex (a + b)) (y := ex (a * b)) ht ha hb (fun w => two_add ha hb) (fun w => by rw [Int.add_comm]; exact two_add hb ha) (fun w => two_mul ha hb) (fun w => by rw [Int.mul_comm]; exact two_mul hb ha) (fun w => two_min) (fun w => two_max) ?_ ?_ ?_
  · by_cases h : R (a + b)
    · right
      rw [ex_in h]
      refine ⟨rfl, fun w => ?_⟩
      have := @two_sub (a + b) b w h hb
      rw [show a + b - b = a by omega, ex_in ha] at this
      exact this
    · left; rw [ex_out h]; decide
  · unfold mn mx; split <;> split <;> omega
  · unfold mn mx; split <;> split <;> omega
theorem tabS {w : World} (h : laidMetH Tryd.prog Rows.wholeSumsRow.laid w) : Tab w := tab_of (by kernel_rfl) (by kernel_rfl) h
namespace wholeSums
open Go.ChangeShapes Go.WideShapes Go.ChangeAt Go.RowKit
theorem own : ownKnob Tryd.prog.godebug = none := by kernel_rfl
theorem laidOut : laidOutB Tryd.prog = true := by kernel_rfl
set_option linter.unusedVariables false
set_option maxRecDepth 100000 in
theorem lifted (os : Os) (started : os.Started) (H : Type) (enc : TypeId × Value → H) :
    ReturnsInHanded {} Tryd.checked os 7 .any (fun w args => (Rows.wholeSumsSpec.pre enc Tryd.prog Tryd.f7 [] false w args ∧ laidMetH Tryd.prog Rows.wholeSumsRow.laid w) ∧ sizedMet enc Tryd.prog Tryd.f7 (OpenSpec.ofChange Rows.wholeSumsSpec) false w args)
      (Rows.wholeSumsSpec.post enc Tryd.prog Tryd.f7 false true false false) := by
  refine returnsInHanded_of_change_and (C := Tryd.checked) (X := fun w _ => laidMetH Tryd.prog Rows.wholeSumsRow.laid w) (fun _ _ _ hh h => h.of_heap hh) own started (by kernel_rfl) Tryd.func7
    (ChangeSpec.witness_shaped (enc := enc) (C := Tryd.checked) (os := os) (X := fun w _ => laidMetH Tryd.prog Rows.wholeSumsRow.laid w) false (World.laidAll Tryd.prog os Rows.wholeSumsRow.laid) #[.int .i64 0, .int .i64 0] 8 (World.laidAll_os _ _ _)
      (World.shaped_of_ZipB (by kernel_rfl) (by kernel_rfl)) (by kernel_rfl) (by kernel_rfl) (by kernel_rfl)
      (by rw [MakeChecks.laidMetH_plain _ _ _ (by kernel_rfl)]; exact laidMet_laidAll _ (by kernel_rfl) (by kernel_rfl))) ?_
  intro W base args ds gs before hval0 hW hcnd hsz0 hL _
  have hval : ∀ (j : Nat) t v, Tryd.f7.params[j]? = some t → args[j]? = some v → Value.okWide Tryd.prog W .any base t v := hval0
  have hW' := hW
  obtain ⟨p, q, hA0, hV, rfl, hfz, hnd⟩ := hW
  have hA : DataW.TrodAll enc Tryd.prog W 0 (fun _ => true) true Tryd.f7.params.toList args.toList ds p := hA0
  have hsz : (DataW.weightsEach Tryd.prog (Tryd.f7.params.toList ++ []) (ds ++ gs)).all (· ≤ reachBytes) = true := hsz0
  rw [Tryd.params7] at hA hval hsz
  obtain ⟨v0, vs0, d0, ds0, p0, q0, hargs, rfl, rfl, h0, r0⟩ := trodAll_cons hA
  obtain ⟨v1, vs1, d1, ds1, p1, q1, rfl, rfl, rfl, h1, r1⟩ := trodAll_cons r0
  obtain ⟨rfl, rfl, rfl⟩ := trodAll_nil r1
  obtain rfl : args = #[v0, v1] := by cases args; simp_all
  obtain ⟨rfl, rfl⟩ := trodVars_none hV
  clear hA0 hval0 hsz0
  have k0 := h0
  have lt0 := lt_of_trod h0
  have k1 := h1
  have lt1 := lt_of_trod h1
  obtain ⟨a0, rfl, rfl, rfl, w0⟩ := open_int Tryd.underlying2 (hval 0 2 v0 rfl rfl) h0
  obtain ⟨a1, rfl, rfl, rfl, w1⟩ := open_int Tryd.underlying2 (hval 1 2 v1 rfl rfl) h1
  refine (sums_at a0 w0 a1 w1 (tabS hL)).mono fun e W' ⟨he, bel⟩ => ?_
  subst he
  exact ⟨_, rfl, _, _, _, [], _, [], hW', trodAll_mk1 (shut_bool Tryd.underlying4 _), (trodAll_cons_mk (Below.trod laidOut (by kernel_rfl) (of_decide_eq_true (by kernel_rfl)) k0 bel lt0) (trodAll_cons_mk (Below.trod laidOut (by kernel_rfl) (of_decide_eq_true (by kernel_rfl)) k1 bel lt1) trodAll_mk0)), rfl, bel.frame _, fun h => by cases h⟩
theorem proved : Rows.WholeSumsSaid :=
  OpenClaim.holds_of_wide 7 Tryd.f7 rfl rfl rfl rfl rfl rfl rfl ⟨rfl, rfl, rfl, rfl, rfl⟩ rfl rfl rfl rfl rfl (by kernel_rfl) Tryd.func7 (by kernel_rfl)
    (of_decide_eq_true (by kernel_rfl)) (by unfold Func.isWrapper; first | (rw [if_pos (by decide +kernel)]; kernel_rfl) | (rw [if_neg (by decide +kernel)]; exact ⟨rfl, rfl⟩))
    (fun os started H enc _ => lifted os started H enc)
theorem carded : Rows.WholeSumsCardSaid :=
  Claim7.holds_tied_plain_at .later [] [.data, .data, .data] true (true, "9469a83bd6f460deb7a0031fef88b243aeeb25348d5a1e2e1e8df94bcdda605a") true
    proved (fun _ h => by cases h) (by kernel_rfl) (fun _ h => by cases h) wholeSums_row_tie rfl ⟨rfl, rfl⟩ (by kernel_rfl) rfl
    (fun f fn hf hfn => by
      obtain rfl : f = 7 := Option.some.inj ((show Tryd.prog.funcNamed "sizar/sizarlaw2.WholeSums" = some 7 by kernel_rfl).symm.trans hf) |>.symm
      obtain rfl : fn = Tryd.f7 := (Option.some.inj (Tryd.func7.symm.trans hfn)).symm
      exact ⟨by kernel_rfl, fun j t ht => by
        rw [Tryd.params7] at ht
        have hm : t ∈ [2, 2] := by simpa using Array.mem_of_getElem? ht
        have hall : ([2, 2].all fun u => !Tryd.prog.wantsStandIn u) = true := by kernel_rfl
        exact (show Tryd.prog.wantsStandIn t = false by simpa using List.all_eq_true.1 hall t hm)⟩)
    (by kernel_rfl)
#print axioms carded
end wholeSums

end Go.Proofs.YtcpfhjdjooakcaaDoor
