/- WholeSays, its tied card: for every op, a, b and s the program answers as the document's own reckonings do; the tables and errors that strconv reads lie as the program's text lays them (tied). No other condition. -/
import Derived.Test.YtcpfhjdjooakcaaDoorR5
import Derived.ChangeMaps5
namespace Go.Proofs.YtcpfhjdjooakcaaDoor
open Go.RowKit
set_option linter.unusedVariables false
set_option maxRecDepth 100000
set_option maxHeartbeats 2000000 in
theorem says_core {w : World} {op s t : ByteArray} {a b p1 p2 q1 q2 r2 u1 u2 : Int} {r1 : Bool} (hc : Tab w ∧ Err w) (hs : s.size ≤ 200)
    (A1 : ∀ w, Calls Tryd.prog 15 #[.string op, .int .i64 a, .int .i64 b] w fun e w' => e = Ret2 (p1, p2) ∧ w = w')
    (A2 : ∀ w, Calls Tryd.prog 17 #[.string op, .int .i64 a, .int .i64 b] w fun e w' => e = Ret2 (p1, p2) ∧ w = w')
    (B1 : ∀ w, Calls Tryd.prog 12 #[.string op, .int .i64 a] w fun e w' => e = Ret2 (q1, q2) ∧ w = w')
    (B2 : ∀ w, Calls Tryd.prog 18 #[.string op, .int .i64 a] w fun e w' => e = Ret2 (q1, q2) ∧ w = w')
    (C1 : ∀ w, Calls Tryd.prog 13 #[.string op, .int .i64 a, .int .i64 b] w fun e w' => e = RetC (r1, r2) ∧ w = w')
    (C2 : ∀ w, Calls Tryd.prog 19 #[.string op, .int .i64 a, .int .i64 b] w fun e w' => e = RetC (r1, r2) ∧ w = w')
    (D1 : ∀ w, Err w → Calls Tryd.prog 14 #[.string s] w fun e w' => e = Ret2 (u1, u2) ∧ Below w.heap.size w w')
    (D2 : ∀ w, Calls Tryd.prog 20 #[.string s] w fun e w' => e = Ret2 (u1, u2) ∧ w = w')
    (E1 : ∀ w, Tab w → Calls Tryd.prog 16 #[.int .i64 a] w fun e w' => e = .returned (.string t) ∧ Below w.heap.size w w')
    (E2 : ∀ w, Calls Tryd.prog 21 #[.int .i64 a] w fun e w' => e = .returned (.string t) ∧ Below w.heap.size w w') :
    Calls Tryd.prog 4 #[.string op, .int .i64 a, .int .i64 b, .string s] w (IsBool w true) := by
  have A := fun w => @awake_at w
  obtain ⟨ht, he⟩ := hc
  go_enter Tryd.func4, Tryd.ntmps4
  (go_wp2_with fail; go_fit (A _ ht); rintro e w1 ⟨rfl, b1⟩)
  have ht1 := ht.ext b1
  have he1 := he.ext b1
  (go_wp2_with fail; go_fit (A1 _); rintro e w' ⟨rfl, rfl⟩)
  (go_wp2_with fail; go_fit (A2 _); rintro e w' ⟨rfl, rfl⟩)
  (go_wp2_with fail; go_fit (B1 _); rintro e w' ⟨rfl, rfl⟩)
  (go_wp2_with fail; go_fit (B2 _); rintro e w' ⟨rfl, rfl⟩)
  (go_wp2_with fail; go_fit (C1 _); rintro e w' ⟨rfl, rfl⟩)
  (go_wp2_with fail; go_fit (C2 _); rintro e w' ⟨rfl, rfl⟩)
  (go_wp2_with fail; go_fit (D1 _ he1); rintro e w2 ⟨rfl, b2⟩)
  have ht2 := ht1.ext b2
  (go_wp2_with fail; go_fit (D2 _); rintro e w' ⟨rfl, rfl⟩)
  (go_wp2_with fail; go_fit (E1 _ ht2); rintro e w3 ⟨rfl, b3⟩)
  (go_wp2_with fail; go_fit (E2 _); rintro e w4 ⟨rfl, b4⟩)
  go_wp2
  go_ret
  exact ⟨rfl, Ext.trans' b1 (Ext.trans' b2 (Ext.trans' b3 b4))⟩
theorem says_at (op : ByteArray) (ho : op.size ≤ 140737488351232) (a : Int) (wa : (Lit.int .i64 a).wf = true) (b : Int) (wb : (Lit.int .i64 b).wf = true) (s : ByteArray) (hs : s.size ≤ 140737488351232) {w : World} (hc : Tab w ∧ Err w) :
    Calls Tryd.prog 4 #[.string op, .int .i64 a, .int .i64 b, .string s] w (IsBool w true) := by
  have ha := R_of wa
  have hb := R_of wb
  by_cases hl : 200 < s.size
  · have A := fun w => @awake_at w
    have ht := hc.1
    go_enter Tryd.func4, Tryd.ntmps4
    (go_wp2_with fail; go_fit (A _ ht); rintro e w1 ⟨rfl, b1⟩)
    go_wp2
    go_ret
    exact ⟨rfl, b1⟩
  exact says_core hc (by omega) (fun w => two_any op ha hb) (fun w => r_any op ha hb) (fun w => one_any op ha) (fun w => o_any op ha) (fun w => cmp_any op) (fun w => c_any op)
    (fun w h => parse_at s h hs (x := numParse (bl s)) rfl) (fun w => nump_at s hs) (fun w h => text_at h ha) (fun w => num_at (a.natAbs + 1) a w ha (by omega))
theorem ctxSays {w : World} (h : laidMetH Tryd.prog Rows.wholeSaysRow.laid w) : Tab w ∧ Err w := ⟨tab_of (by kernel_rfl) (by kernel_rfl) h, err_of (text := [118, 97, 108, 117, 101, 32, 111, 117, 116, 32, 111, 102, 32, 114, 97, 110, 103, 101]) (by kernel_rfl) (by kernel_rfl) rfl h⟩
namespace wholeSays
open Go.ChangeShapes Go.WideShapes Go.ChangeAt Go.RowKit
theorem own : ownKnob Tryd.prog.godebug = none := by kernel_rfl
theorem laidOut : laidOutB Tryd.prog = true := by kernel_rfl
set_option linter.unusedVariables false
set_option maxRecDepth 100000 in
theorem lifted (os : Os) (started : os.Started) (H : Type) (enc : TypeId × Value → H) :
    ReturnsInHanded {} Tryd.checked os 4 .any (fun w args => (Rows.wholeSaysSpec.pre enc Tryd.prog Tryd.f4 [] false w args ∧ laidMetH Tryd.prog Rows.wholeSaysRow.laid w) ∧ sizedMet enc Tryd.prog Tryd.f4 (OpenSpec.ofChange Rows.wholeSaysSpec) false w args)
      (Rows.wholeSaysSpec.post enc Tryd.prog Tryd.f4 false true false false) := by
  refine returnsInHanded_of_change_and (C := Tryd.checked) (X := fun w _ => laidMetH Tryd.prog Rows.wholeSaysRow.laid w) (fun _ _ _ hh h => h.of_heap hh) own started (by kernel_rfl) Tryd.func4
    (ChangeSpec.witness_shaped (enc := enc) (C := Tryd.checked) (os := os) (X := fun w _ => laidMetH Tryd.prog Rows.wholeSaysRow.laid w) false (World.laidAll Tryd.prog os Rows.wholeSaysRow.laid) #[.string ⟨#[]⟩, .int .i64 0, .int .i64 0, .string ⟨#[]⟩] 8 (World.laidAll_os _ _ _)
      (World.shaped_of_ZipB (by kernel_rfl) (by kernel_rfl)) (by kernel_rfl) (by kernel_rfl) (by kernel_rfl)
      (by rw [MakeChecks.laidMetH_plain _ _ _ (by kernel_rfl)]; exact laidMet_laidAll _ (by kernel_rfl) (by kernel_rfl))) ?_
  intro W base args ds gs before hval0 hW hcnd hsz0 hL _
  have hval : ∀ (j : Nat) t v, Tryd.f4.params[j]? = some t → args[j]? = some v → Value.okWide Tryd.prog W .any base t v := hval0
  have hW' := hW
  obtain ⟨p, q, hA0, hV, rfl, hfz, hnd⟩ := hW
  have hA : DataW.TrodAll enc Tryd.prog W 0 (fun _ => true) true Tryd.f4.params.toList args.toList ds p := hA0
  have hsz : (DataW.weightsEach Tryd.prog (Tryd.f4.params.toList ++ []) (ds ++ gs)).all (· ≤ reachBytes) = true := hsz0
  rw [Tryd.params4] at hA hval hsz
  obtain ⟨v0, vs0, d0, ds0, p0, q0, hargs, rfl, rfl, h0, r0⟩ := trodAll_cons hA
  obtain ⟨v1, vs1, d1, ds1, p1, q1, rfl, rfl, rfl, h1, r1⟩ := trodAll_cons r0
  obtain ⟨v2, vs2, d2, ds2, p2, q2, rfl, rfl, rfl, h2, r2⟩ := trodAll_cons r1
  obtain ⟨v3, vs3, d3, ds3, p3, q3, rfl, rfl, rfl, h3, r3⟩ := trodAll_cons r2
  obtain ⟨rfl, rfl, rfl⟩ := trodAll_nil r3
  obtain rfl : args = #[v0, v1, v2, v3] := by cases args; simp_all
  obtain ⟨rfl, rfl⟩ := trodVars_none hV
  clear hA0 hval0 hsz0
  have k0 := h0
  have lt0 := lt_of_trod h0
  have k1 := h1
  have lt1 := lt_of_trod h1
  have k2 := h2
  have lt2 := lt_of_trod h2
  have k3 := h3
  have lt3 := lt_of_trod h3
  obtain ⟨a0, rfl, e0, rfl, w0⟩ := ChangeMaps.open_string Tryd.underlying9 (hval 0 9 v0 rfl rfl) h0
  have s0 : a0.size ≤ 140737488351232 := weights_ok hsz (j := 0) (t := 9) (d := d0) rfl rfl _ (by rw [e0]; simp [DataW.weights])
  obtain ⟨a1, rfl, rfl, rfl, w1⟩ := open_int Tryd.underlying2 (hval 1 2 v1 rfl rfl) h1
  obtain ⟨a2, rfl, rfl, rfl, w2⟩ := open_int Tryd.underlying2 (hval 2 2 v2 rfl rfl) h2
  obtain ⟨a3, rfl, e3, rfl, w3⟩ := ChangeMaps.open_string Tryd.underlying9 (hval 3 9 v3 rfl rfl) h3
  have s3 : a3.size ≤ 140737488351232 := weights_ok hsz (j := 3) (t := 9) (d := d3) rfl rfl _ (by rw [e3]; simp [DataW.weights])
  refine (says_at a0 s0 a1 w1 a2 w2 a3 s3 (ctxSays hL)).mono fun e W' ⟨he, bel⟩ => ?_
  subst he
  exact ⟨_, rfl, _, _, _, [], _, [], hW', trodAll_mk1 (shut_bool Tryd.underlying4 _), (trodAll_cons_mk (Below.trod laidOut (by kernel_rfl) (of_decide_eq_true (by kernel_rfl)) k0 bel lt0) (trodAll_cons_mk (Below.trod laidOut (by kernel_rfl) (of_decide_eq_true (by kernel_rfl)) k1 bel lt1) (trodAll_cons_mk (Below.trod laidOut (by kernel_rfl) (of_decide_eq_true (by kernel_rfl)) k2 bel lt2) (trodAll_cons_mk (Below.trod laidOut (by kernel_rfl) (of_decide_eq_true (by kernel_rfl)) k3 bel lt3) trodAll_mk0)))), rfl, bel.frame _, fun h => by cases h⟩
theorem proved : Rows.WholeSaysSaid :=
  OpenClaim.holds_of_wide 4 Tryd.f4 rfl rfl rfl rfl rfl rfl rfl ⟨rfl, rfl, rfl, rfl, rfl⟩ rfl rfl rfl rfl rfl (by kernel_rfl) Tryd.func4 (by kernel_rfl)
    (of_decide_eq_true (by kernel_rfl)) (by unfold Func.isWrapper; first | (rw [if_pos (by decide +kernel)]; kernel_rfl) | (rw [if_neg (by decide +kernel)]; exact ⟨rfl, rfl⟩))
    (fun os started H enc _ => lifted os started H enc)
theorem carded : Rows.WholeSaysCardSaid :=
  Claim7.holds_tied_plain_at .later [] [.data, .data, .data, .sentinel, .sentinel] true (true, "9469a83bd6f460deb7a0031fef88b243aeeb25348d5a1e2e1e8df94bcdda605a") true
    proved (fun _ h => by cases h) (by kernel_rfl) (fun _ h => by cases h) wholeSays_row_tie rfl ⟨rfl, rfl⟩ (by kernel_rfl) rfl
    (fun f fn hf hfn => by
      obtain rfl : f = 4 := Option.some.inj ((show Tryd.prog.funcNamed "sizar/sizarlaw2.WholeSays" = some 4 by kernel_rfl).symm.trans hf) |>.symm
      obtain rfl : fn = Tryd.f4 := (Option.some.inj (Tryd.func4.symm.trans hfn)).symm
      exact ⟨by kernel_rfl, fun j t ht => by
        rw [Tryd.params4] at ht
        have hm : t ∈ [9, 2, 2, 9] := by simpa using Array.mem_of_getElem? ht
        have hall : ([9, 2, 2, 9].all fun u => !Tryd.prog.wantsStandIn u) = true := by kernel_rfl
        exact (show Tryd.prog.wantsStandIn t = false by simpa using List.all_eq_true.1 hall t hm)⟩)
    (by kernel_rfl)
#print axioms carded
end wholeSays

end Go.Proofs.YtcpfhjdjooakcaaDoor
