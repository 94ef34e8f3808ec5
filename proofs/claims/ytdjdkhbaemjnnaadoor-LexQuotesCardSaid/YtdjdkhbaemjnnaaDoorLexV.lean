/- LexQuotes, its tied card: for every name the law answers true; the tables and errors that strconv reads lie as the program's text lays them (tied). No other condition. -/
import Derived.Test.YtdjdkhbaemjnnaaDoorLexX
import Derived.Test.YtdjdkhbaemjnnaaDoorQ
import Derived.Deep.QuietTactic
namespace Go.Proofs.YtdjdkhbaemjnnaaDoor
open Go.RowKit
set_option linter.unusedVariables false
set_option maxHeartbeats 4000000 in
set_option maxRecDepth 100000 in
theorem quotes_at (s : ByteArray) (hs : s.size ≤ 140737488351232) {w : World} (he : Err w) : Calls Tryd.prog 4 #[.string s] w (IsBool w true) := by
  by_cases hbig : 100 < s.size
  · go_enter Tryd.func4, Tryd.ntmps4
    (go_wp2_with fail; go_fit (awake_at he); rintro e w1 ⟨rfl, b1⟩)
    go_wp2
    go_ret
    exact ⟨rfl, b1⟩
  have Q := fun w h => quote_any s w h hs
  have P := fun w h => plain_any s w h hs
  obtain ⟨q, hq⟩ : ∃ q : ByteArray, (⟨(quoteB (bl s)).toArray⟩ : ByteArray) = q := ⟨_, rfl⟩
  have hqb : bl q = quoteB (bl s) := by rw [← hq]
  rw [hq] at Q
  by_cases hn : quoteB (bl s) = []
  · rw [quote_none hn] at P
    rw [hn] at hq
    subst hq
    clear hqb hn
    by_cases h64 : 64 < s.size
    · go_enter Tryd.func4, Tryd.ntmps4
      (go_wp2_with fail; go_fit (awake_at he); rintro e w1 ⟨rfl, b1⟩)
      have he1 := he.ext b1
      (go_wp2_with fail; go_fit (Q _ he1); rintro e w2 ⟨rfl, b2⟩)
      have he2 := he1.ext b2
      have B2 := Lib.hid (Ext.trans' b1 b2)
      go_wp2
      go_ret
      exact ⟨rfl, B2.out⟩
    · go_enter Tryd.func4, Tryd.ntmps4
      (go_wp2_with fail; go_fit (awake_at he); rintro e w1 ⟨rfl, b1⟩)
      have he1 := he.ext b1
      (go_wp2_with fail; go_fit (Q _ he1); rintro e w2 ⟨rfl, b2⟩)
      have he2 := he1.ext b2
      have B2 := Lib.hid (Ext.trans' b1 b2)
      (go_wp2_with fail; go_fit (P _ he2); rintro e w3 ⟨rfl, b3⟩)
      go_wp2
      go_ret
      exact ⟨rfl, Ext.trans' B2.out b3⟩
  · obtain ⟨t, ht1, ht2, ht3, ht4⟩ := quote_cut hn
    rw [← hqb] at ht1
    have hqz : q.size ≤ 140737488351232 := by
      have := quote_size (bl s)
      rw [← hqb, bl_len] at this
      omega
    have hqe : q.toList.isEmpty = false := ne_of_pos (by
      rcases Nat.eq_zero_or_pos q.size with h0 | h0
      · exact absurd (hqb.symm.trans (bl_nil h0)) hn
      · exact h0)
    have C := fun w h => @cut_ok q [(t, 0)] w h hqz ht1
    have C' : ∀ w, Err w → Calls Tryd.prog 9 #[.string q] w fun e w' => ∃ (ao : Option Addr) (cv : Nat), e = .returned (.tuple #[.slice ao 1 cv, .int .i64 (q.size : Int), .int .i64 0]) ∧ Toks w' (.slice ao 1 cv) [(t, 0)] ∧ Below w.heap.size w w' := C
    clear C ht1 hq
    have htx : (⟨t.text.toArray⟩ : ByteArray) = s := bl_inj (by rw [← ht3])
    obtain ⟨κ, hκ⟩ : ∃ κ, t.kind = κ := ⟨_, rfl⟩
    rw [hκ] at ht2 ht4
    obtain ⟨pb, hpb⟩ : ∃ pb, plainB (bl s) = pb := ⟨_, rfl⟩
    rw [hpb] at P ht4
    have hpk : pb = (((κ : Nat) : Int) == 1) := by
      rw [Bool.eq_iff_iff, ← ht4]
      simp only [beq_iff_eq]
      omega
    subst hpk
    clear hn hqb hpb ht3 ht4
    rcases ht2 with rfl | rfl
    · rw [show ((((1 : Nat) : Int)) == 1) = true from rfl] at P
      go_enter Tryd.func4, Tryd.ntmps4
      (go_wp2_with fail; go_fit (awake_at he); rintro e w1 ⟨rfl, b1⟩)
      have he1 := he.ext b1
      (go_wp2_with fail; go_fit (Q _ he1); rintro e w2 ⟨rfl, b2⟩)
      have he2 := he1.ext b2
      have B2 := Lib.hid (Ext.trans' b1 b2)
      (go_wp2_with fail; go_fit (C' _ he2); rintro e w3 ⟨ao, cv, rfl, ht1, b3⟩)
      have B3 := Lib.hid (Ext.trans' B2.out b3)
      obtain ⟨b, off, rfl, hb, c0, c1, c2, c3, c4⟩ := ht1.cells (k := 0) (x := (t, 0)) rfl
      simp only [Nat.zero_mul, Nat.add_zero] at c0 c1
      rw [htx] at c1
      rw [hκ] at c0
      replace c0 : w3.cell? ⟨b, off, none⟩ = some (.int .i64 1) := c0
      have HE := Lib.hid (he2.ext b3)
      clear c2 c3 c4 b1 b2 b3 ht1
      go_wp2_with fail
      (refine wp_region_class (fun w' => (w'.cell? ⟨b, off, none⟩ = some (.int .i64 1) ∧ w'.cell? ⟨b, off + 1, none⟩ = some (.string s)) ∧ Below w3.heap.size w3 w') (by kernel_rfl) (by kernel_rfl) (⟨⟨c0, c1⟩, (Below.refl _ _).drew⟩) ?_; (repeat (first | go_big_quiet_skip | (go_big_quiet_want; refine quiet_of ?_; apply Exists.intro; refine ⟨fun wq hq => ?_, ?_⟩; (focus ((try dsimp only at hq); go_simp; (first | done | with_reducible rfl | ((go_at_call 11; refine (P wq (HE.out.ext hq.2)).mono ?_; rintro e w6 ⟨rfl, h6⟩; exact ⟨rfl, ⟨cell_later h6 hq.1.1, cell_later h6 hq.1.2⟩, Below.trans hq.2 (h6.mono hq.2.size)⟩)) | fail))); try simp only [Act.put, List.setIfInBounds_toArray, List.set_cons_zero, List.set_cons_succ]; go_big_quiet_on) | fail)); refine wpQuiet_nil ?_; intro wz hz)
      go_wp2
      go_ret
      exact ⟨rfl, Ext.trans' B3.out hz.2⟩
    · rw [show ((((2 : Nat) : Int)) == 1) = false from rfl] at P
      go_enter Tryd.func4, Tryd.ntmps4
      (go_wp2_with fail; go_fit (awake_at he); rintro e w1 ⟨rfl, b1⟩)
      have he1 := he.ext b1
      (go_wp2_with fail; go_fit (Q _ he1); rintro e w2 ⟨rfl, b2⟩)
      have he2 := he1.ext b2
      have B2 := Lib.hid (Ext.trans' b1 b2)
      (go_wp2_with fail; go_fit (C' _ he2); rintro e w3 ⟨ao, cv, rfl, ht1, b3⟩)
      have B3 := Lib.hid (Ext.trans' B2.out b3)
      obtain ⟨b, off, rfl, hb, c0, c1, c2, c3, c4⟩ := ht1.cells (k := 0) (x := (t, 0)) rfl
      simp only [Nat.zero_mul, Nat.add_zero] at c0 c1
      rw [htx] at c1
      rw [hκ] at c0
      replace c0 : w3.cell? ⟨b, off, none⟩ = some (.int .i64 2) := c0
      have HE := Lib.hid (he2.ext b3)
      clear c2 c3 c4 b1 b2 b3 ht1
      go_wp2_with fail
      (refine wp_region_class (fun w' => (w'.cell? ⟨b, off, none⟩ = some (.int .i64 2) ∧ w'.cell? ⟨b, off + 1, none⟩ = some (.string s)) ∧ Below w3.heap.size w3 w') (by kernel_rfl) (by kernel_rfl) (⟨⟨c0, c1⟩, (Below.refl _ _).drew⟩) ?_; (repeat (first | go_big_quiet_skip | (go_big_quiet_want; refine quiet_of ?_; apply Exists.intro; refine ⟨fun wq hq => ?_, ?_⟩; (focus ((try dsimp only at hq); go_simp; (first | done | with_reducible rfl | ((go_at_call 11; refine (P wq (HE.out.ext hq.2)).mono ?_; rintro e w6 ⟨rfl, h6⟩; exact ⟨rfl, ⟨cell_later h6 hq.1.1, cell_later h6 hq.1.2⟩, Below.trans hq.2 (h6.mono hq.2.size)⟩)) | fail))); try simp only [Act.put, List.setIfInBounds_toArray, List.set_cons_zero, List.set_cons_succ]; go_big_quiet_on) | fail)); refine wpQuiet_nil ?_; intro wz hz)
      go_wp2
      go_ret
      exact ⟨rfl, Ext.trans' B3.out hz.2⟩
theorem ctxQ {w : World} (h : laidMetH Tryd.prog Rows.lexQuotesRow.laid w) : Err w := err_of (text := [118, 97, 108, 117, 101, 32, 111, 117, 116, 32, 111, 102, 32, 114, 97, 110, 103, 101]) (by kernel_rfl) (by kernel_rfl) rfl h
namespace lexQuotes
open Go.ChangeShapes Go.WideShapes Go.ChangeAt Go.RowKit
theorem own : ownKnob Tryd.prog.godebug = none := by kernel_rfl
theorem laidOut : laidOutB Tryd.prog = true := by kernel_rfl
set_option linter.unusedVariables false
set_option maxRecDepth 100000 in
theorem lifted (os : Os) (started : os.Started) (H : Type) (enc : TypeId × Value → H) :
    ReturnsInHanded {} Tryd.checked os 4 .any (fun w args => (Rows.lexQuotesSpec.pre enc Tryd.prog Tryd.f4 [] false w args ∧ laidMetH Tryd.prog Rows.lexQuotesRow.laid w) ∧ sizedMet enc Tryd.prog Tryd.f4 (OpenSpec.ofChange Rows.lexQuotesSpec) false w args)
      (Rows.lexQuotesSpec.post enc Tryd.prog Tryd.f4 false true false false) := by
  refine returnsInHanded_of_change_and (C := Tryd.checked) (X := fun w _ => laidMetH Tryd.prog Rows.lexQuotesRow.laid w) (fun _ _ _ hh h => h.of_heap hh) own started (by kernel_rfl) Tryd.func4
    (ChangeSpec.witness_shaped (enc := enc) (C := Tryd.checked) (os := os) (X := fun w _ => laidMetH Tryd.prog Rows.lexQuotesRow.laid w) false (World.laidAll Tryd.prog os Rows.lexQuotesRow.laid) #[.string ⟨#[]⟩] 8 (World.laidAll_os _ _ _)
      (World.shaped_of_ZipB (by kernel_rfl) (by kernel_rfl)) (by kernel_rfl) (by kernel_rfl) (by kernel_rfl)
      (by rw [MakeChecks.laidMetH_plain _ _ _ (by kernel_rfl)]; exact laidMet_laidAll _ (by kernel_rfl) (by kernel_rfl))) ?_
  intro W base args ds gs before hval0 hW hcnd hsz0 hL _
  have hval : ∀ (j : Nat) t v, Tryd.f4.params[j]? = some t → args[j]? = some v → Value.okWide Tryd.prog W .any base t v := hval0
  have hW' := hW
  obtain ⟨p, q, hA0, hV, rfl, hfz, hnd⟩ := hW
  have hA : DataW.TrodAll enc Tryd.prog W 0 (fun _ => true) true Tryd.f4.params.toList args.toList ds p := hA0
  have hsz : (DataW.weightsEach Tryd.prog (Tryd.f4.params.toList ++ []) (ds ++ gs)).all (· ≤ reachBytes) = true := hsz0
  rw [Tryd.params4] at hA hval hsz
  obtain ⟨v0, vs0, d0, ds0, p0, q0, hargs, rfl, rfl, h0, r0⟩ := trodAll_cons hA
  obtain ⟨rfl, rfl, rfl⟩ := trodAll_nil r0
  obtain rfl : args = #[v0] := by cases args; simp_all
  obtain ⟨rfl, rfl⟩ := trodVars_none hV
  clear hA0 hval0 hsz0
  have k0 := h0
  have lt0 := lt_of_trod h0
  obtain ⟨a0, rfl, e0, rfl, w0⟩ := ChangeMaps.open_string Tryd.underlying9 (hval 0 9 v0 rfl rfl) h0
  have s0 : a0.size ≤ 140737488351232 := weights_ok hsz (j := 0) (t := 9) (d := d0) rfl rfl _ (by rw [e0]; simp [DataW.weights])
  refine (quotes_at a0 s0 (ctxQ hL)).mono fun e W' ⟨he, bel⟩ => ?_
  subst he
  exact ⟨_, rfl, _, _, _, [], _, [], hW', trodAll_mk1 (shut_bool Tryd.underlying4 _), (trodAll_cons_mk (Below.trod laidOut (by kernel_rfl) (of_decide_eq_true (by kernel_rfl)) k0 bel lt0) trodAll_mk0), rfl, bel.frame _, fun h => by cases h⟩
theorem proved : Rows.LexQuotesSaid :=
  OpenClaim.holds_of_wide 4 Tryd.f4 rfl rfl rfl rfl rfl rfl rfl ⟨rfl, rfl, rfl, rfl, rfl⟩ rfl rfl rfl rfl rfl (by kernel_rfl) Tryd.func4 (by kernel_rfl)
    (of_decide_eq_true (by kernel_rfl)) (by unfold Func.isWrapper; first | (rw [if_pos (by decide +kernel)]; kernel_rfl) | (rw [if_neg (by decide +kernel)]; exact ⟨rfl, rfl⟩))
    (fun os started H enc _ => lifted os started H enc)
theorem carded : Rows.LexQuotesCardSaid :=
  Claim7.holds_tied_plain_at .later [] [.data, .data, .data, .sentinel, .sentinel] true (true, "7e6691e419b95f883b478f787a14e41dbd4ca20f2e25028a77df4186af6ce731") true
    proved (fun _ h => by cases h) (by kernel_rfl) (fun _ h => by cases h) lexQuotes_row_tie rfl ⟨rfl, rfl⟩ (by kernel_rfl) rfl
    (fun f fn hf hfn => by
      obtain rfl : f = 4 := Option.some.inj ((show Tryd.prog.funcNamed "sizar/sizarlaw6.LexQuotes" = some 4 by kernel_rfl).symm.trans hf) |>.symm
      obtain rfl : fn = Tryd.f4 := (Option.some.inj (Tryd.func4.symm.trans hfn)).symm
      exact ⟨by kernel_rfl, fun j t ht => by
        rw [Tryd.params4] at ht
        have hm : t ∈ [9] := by simpa using Array.mem_of_getElem? ht
        have hall : ([9].all fun u => !Tryd.prog.wantsStandIn u) = true := by kernel_rfl
        exact (show Tryd.prog.wantsStandIn t = false by simpa using List.all_eq_true.1 hall t hm)⟩)
    (by kernel_rfl)
#print axioms carded
end lexQuotes

end Go.Proofs.YtdjdkhbaemjnnaaDoor
