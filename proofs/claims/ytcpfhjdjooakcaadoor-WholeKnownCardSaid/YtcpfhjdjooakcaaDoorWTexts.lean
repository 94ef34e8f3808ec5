/- WholeTexts, its tied card: for every a and b the law answers true; the tables and errors that strconv reads lie as the program's text lays them (tied). No other condition. -/
import Derived.Test.YtcpfhjdjooakcaaDoorWCard
import Derived.Test.YtcpfhjdjooakcaaDoorWP
import Derived.Stop.LaidErr
namespace Go.Proofs.YtcpfhjdjooakcaaDoor
open Go.RowKit
set_option linter.unusedVariables false
theorem numText_size {n : Int} (hn : R n) : (numText n).size ≤ 21 := by
  have := Lib.itoa_length_le n hn.1 hn.2
  show (Lib.itoa n).toArray.size ≤ 21
  simpa using this
set_option maxHeartbeats 2000000 in
set_option maxRecDepth 100000 in
theorem texts_core {w : World} {a b : Int} {s t : ByteArray} {lt eq gt le ge ne : Bool} (ht : Tab w) (he : Err w)
    (hb : (lt = true ∧ eq = false ∧ gt = false ∧ le = true ∧ ge = false ∧ ne = true) ∨ (lt = false ∧ eq = true ∧ gt = false ∧ le = true ∧ ge = true ∧ ne = false) ∨ (lt = false ∧ eq = false ∧ gt = true ∧ le = false ∧ ge = true ∧ ne = true))
    (hs : (s.toList == t.toList) = eq)
    (T1 : ∀ w, Tab w → Calls Tryd.prog 16 #[.int .i64 a] w fun e w' => e = .returned (.string s) ∧ Below w.heap.size w w')
    (T2 : ∀ w, Tab w → Calls Tryd.prog 16 #[.int .i64 b] w fun e w' => e = .returned (.string t) ∧ Below w.heap.size w w')
    (P : ∀ w, Err w → Calls Tryd.prog 14 #[.string s] w fun e w' => e = Ret2 (a, 0) ∧ Below w.heap.size w w')
    (C1 : ∀ w, Calls Tryd.prog 13 #[.string ⟨#[60]⟩, .int .i64 a, .int .i64 b] w fun e w' => e = .returned (.tuple #[.bool lt, .int .i64 0]) ∧ w = w')
    (C2 : ∀ w, Calls Tryd.prog 13 #[.string ⟨#[61, 58, 61]⟩, .int .i64 a, .int .i64 b] w fun e w' => e = .returned (.tuple #[.bool eq, .int .i64 0]) ∧ w = w')
    (C3 : ∀ w, Calls Tryd.prog 13 #[.string ⟨#[62]⟩, .int .i64 a, .int .i64 b] w fun e w' => e = .returned (.tuple #[.bool gt, .int .i64 0]) ∧ w = w')
    (C4 : ∀ w, Calls Tryd.prog 13 #[.string ⟨#[61, 60]⟩, .int .i64 a, .int .i64 b] w fun e w' => e = .returned (.tuple #[.bool le, .int .i64 0]) ∧ w = w')
    (C5 : ∀ w, Calls Tryd.prog 13 #[.string ⟨#[62, 61]⟩, .int .i64 a, .int .i64 b] w fun e w' => e = .returned (.tuple #[.bool ge, .int .i64 0]) ∧ w = w')
    (C6 : ∀ w, Calls Tryd.prog 13 #[.string ⟨#[61, 92, 61]⟩, .int .i64 a, .int .i64 b] w fun e w' => e = .returned (.tuple #[.bool ne, .int .i64 0]) ∧ w = w') :
    Calls Tryd.prog 6 #[.int .i64 a, .int .i64 b] w (IsBool w true) := by
  have A := fun w => @awake_at w
  rcases hb with ⟨rfl, rfl, rfl, rfl, rfl, rfl⟩ | ⟨rfl, rfl, rfl, rfl, rfl, rfl⟩ | ⟨rfl, rfl, rfl, rfl, rfl, rfl⟩
  all_goals
    go_enter Tryd.func6, Tryd.ntmps6
    (go_wp2_with fail; go_fit (A _ ht); rintro e w1 ⟨rfl, b1⟩)
    have ht1 := ht.ext b1
    have he1 := he.ext b1
    (go_wp2_with fail; go_fit (T1 _ ht1); rintro e w2 ⟨rfl, b2⟩)
    have ht2 := ht1.ext b2
    have he2 := he1.ext b2
    (go_wp2_with fail; go_fit (P _ he2); rintro e w3 ⟨rfl, b3⟩)
    have ht3 := ht2.ext b3
    (go_wp2_with fail; go_fit (C1 _); rintro e w' ⟨rfl, rfl⟩)
    (go_wp2_with fail; go_fit (C2 _); rintro e w' ⟨rfl, rfl⟩)
    (go_wp2_with fail; go_fit (C3 _); rintro e w' ⟨rfl, rfl⟩)
    (go_wp2_with fail; go_fit (C4 _); rintro e w' ⟨rfl, rfl⟩)
    (go_wp2_with fail; go_fit (C5 _); rintro e w' ⟨rfl, rfl⟩)
    (go_wp2_with fail; go_fit (C6 _); rintro e w' ⟨rfl, rfl⟩)
    (go_wp2_with fail; go_fit (T1 _ ht3); rintro e w4 ⟨rfl, b4⟩)
    have ht4 := ht3.ext b4
    (go_wp2_with fail; go_fit (T2 _ ht4); rintro e w5 ⟨rfl, b5⟩)
    go_wp2
    go_ret
    exact ⟨rfl, Ext.trans' b1 (Ext.trans' b2 (Ext.trans' b3 (Ext.trans' b4 b5)))⟩
theorem texts_at (a : Int) (wa : (Lit.int .i64 a).wf = true) (b : Int) (wb : (Lit.int .i64 b).wf = true) {w : World} (hc : Tab w ∧ Err w) : Calls Tryd.prog 6 #[.int .i64 a, .int .i64 b] w (IsBool w true) := by
  have ha := R_of wa
  have hb := R_of wb
  refine texts_core (s := numText a) (t := numText b) (lt := decide (a < b)) (eq := a == b) (gt := decide (b < a)) (le := decide (a ≤ b)) (ge := decide (b ≤ a)) (ne := a != b) hc.1 hc.2 ?_ ?_ (fun w h => text_at h ha) (fun w h => text_at h hb)
    (fun w h => parse_at (x := (a, 0)) (numText a) h (by have := numText_size ha; omega) (by show numParse (Lib.itoa a) = _; exact numParse_itoa ha)) (fun w => cmp_lt) (fun w => cmp_eq) (fun w => cmp_gt) (fun w => cmp_le) (fun w => cmp_ge) (fun w => cmp_ne)
  · rcases Int.lt_trichotomy a b with h | h | h
    · left; simp; omega
    · right; left; simp; omega
    · right; right; simp; omega
  · rw [Lib.toList_data, Lib.toList_data]
    show (Lib.itoa a == Lib.itoa b) = (a == b)
    by_cases h : a = b
    · subst h; simp
    · rw [beq_false_of_ne h, beq_false_of_ne (fun e => h (itoa_inj ha hb e))]
theorem star : "*" ++ "errors.errorString" = "*errors.errorString" := by decide
theorem row_err (u : TypeId) (h : Tryd.prog.typeName? 3 u = some "*errors.errorString") : u = 77 :=
  typeName_ptr_named (nm := "errors.errorString") (by rw [star]; kernel_rfl) (by kernel_rfl) (by decide) u (by rw [star]; exact h)
theorem err_of {l : List (String × DataW Unit)} {w : World} (hl : (l.all fun x => x.2.handleName?.isNone) = true) {nm : String} {text : List UInt8}
    (hf : l.filter (fun x => x.1 == "strconv.ErrRange") = [("strconv.ErrRange", .iface nm (.ptr (.agg [.lit (.string text)])))]) (hn : nm = "*errors.errorString") (h : laidMetH Tryd.prog l w) : Err w := by
  subst hn
  rw [MakeChecks.laidMetH_plain _ _ _ hl] at h
  have h1 := h.filter (fun x => x.1 == "strconv.ErrRange")
  rw [hf] at h1
  obtain ⟨a, s, hv, _⟩ := laid_sentinel h1 gRange (ti := 41) (by kernel_rfl) Tryd.underlying41 (tp := 77) row_err Tryd.underlying77 Tryd.underlying79 rfl rfl Tryd.underlying9 (by kernel_rfl) (by kernel_rfl)
  exact ⟨_, _, hv⟩
theorem ctxT {w : World} (h : laidMetH Tryd.prog Rows.wholeTextsRow.laid w) : Tab w ∧ Err w := ⟨tab_of (by kernel_rfl) (by kernel_rfl) h, err_of (text := [118, 97, 108, 117, 101, 32, 111, 117, 116, 32, 111, 102, 32, 114, 97, 110, 103, 101]) (by kernel_rfl) (by kernel_rfl) rfl h⟩
namespace wholeTexts
open Go.ChangeShapes Go.WideShapes Go.ChangeAt Go.RowKit
theorem own : ownKnob Tryd.prog.godebug = none := by kernel_rfl
theorem laidOut : laidOutB Tryd.prog = true := by kernel_rfl
set_option linter.unusedVariables false
set_option maxRecDepth 100000 in
theorem lifted (os : Os) (started : os.Started) (H : Type) (enc : TypeId × Value → H) :
    ReturnsInHanded {} Tryd.checked os 6 .any (fun w args => (Rows.wholeTextsSpec.pre enc Tryd.prog Tryd.f6 [] false w args ∧ laidMetH Tryd.prog Rows.wholeTextsRow.laid w) ∧ sizedMet enc Tryd.prog Tryd.f6 (OpenSpec.ofChange Rows.wholeTextsSpec) false w args)
      (Rows.wholeTextsSpec.post enc Tryd.prog Tryd.f6 false true false false) := by
  refine returnsInHanded_of_change_and (C := Tryd.checked) (X := fun w _ => laidMetH Tryd.prog Rows.wholeTextsRow.laid w) (fun _ _ _ hh h => h.of_heap hh) own started (by kernel_rfl) Tryd.func6
    (ChangeSpec.witness_shaped (enc := enc) (C := Tryd.checked) (os := os) (X := fun w _ => laidMetH Tryd.prog Rows.wholeTextsRow.laid w) false (World.laidAll Tryd.prog os Rows.wholeTextsRow.laid) #[.int .i64 0, .int .i64 0] 8 (World.laidAll_os _ _ _)
      (World.shaped_of_ZipB (by kernel_rfl) (by kernel_rfl)) (by kernel_rfl) (by kernel_rfl) (by kernel_rfl)
      (by rw [MakeChecks.laidMetH_plain _ _ _ (by kernel_rfl)]; exact laidMet_laidAll _ (by kernel_rfl) (by kernel_rfl))) ?_
  intro W base args ds gs before hval0 hW hcnd hsz0 hL _
  have hval : ∀ (j : Nat) t v, Tryd.f6.params[j]? = some t → args[j]? = some v → Value.okWide Tryd.prog W .any base t v := hval0
  have hW' := hW
  obtain ⟨p, q, hA0, hV, rfl, hfz, hnd⟩ := hW
  have hA : DataW.TrodAll enc Tryd.prog W 0 (fun _ => true) true Tryd.f6.params.toList args.toList ds p := hA0
  have hsz : (DataW.weightsEach Tryd.prog (Tryd.f6.params.toList ++ []) (ds ++ gs)).all (· ≤ reachBytes) = true := hsz0
  rw [Tryd.params6] at hA hval hsz
  obtain ⟨v0, vs0, d0, ds0, p0, q0, hargs, rfl, rfl, h0, r0⟩ := trodAll_cons hA
  obtain ⟨v1, vs1, d1, ds1, p1, q1, rfl, rfl, rfl, h1, r1⟩ := trodAll_cons r0
  obtain ⟨rfl, rfl, rfl⟩ := trodAll_nil r1
  obtain rfl : args = #[v0, v1] := by cases args; simp_all
  obtain ⟨rfl, rfl⟩ := trodVars_none hV
  clear hA0 hval0 hsz0
  have k0 := h0
  have lt0 := lt_of_trod h0
  have k1 := h1
  have lt1 := lt_of_trod h1
  obtain ⟨a0, rfl, rfl, rfl, w0⟩ := open_int Tryd.underlying2 (hval 0 2 v0 rfl rfl) h0
  obtain ⟨a1, rfl, rfl, rfl, w1⟩ := open_int Tryd.underlying2 (hval 1 2 v1 rfl rfl) h1
  refine (texts_at a0 w0 a1 w1 (ctxT hL)).mono fun e W' ⟨he, bel⟩ => ?_
  subst he
  exact ⟨_, rfl, _, _, _, [], _, [], hW', trodAll_mk1 (shut_bool Tryd.underlying4 _), (trodAll_cons_mk (Below.trod laidOut (by kernel_rfl) (of_decide_eq_true (by kernel_rfl)) k0 bel lt0) (trodAll_cons_mk (Below.trod laidOut (by kernel_rfl) (of_decide_eq_true (by kernel_rfl)) k1 bel lt1) trodAll_mk0)), rfl, bel.frame _, fun h => by cases h⟩
theorem proved : Rows.WholeTextsSaid :=
  OpenClaim.holds_of_wide 6 Tryd.f6 rfl rfl rfl rfl rfl rfl rfl ⟨rfl, rfl, rfl, rfl, rfl⟩ rfl rfl rfl rfl rfl (by kernel_rfl) Tryd.func6 (by kernel_rfl)
    (of_decide_eq_true (by kernel_rfl)) (by unfold Func.isWrapper; first | (rw [if_pos (by decide +kernel)]; kernel_rfl) | (rw [if_neg (by decide +kernel)]; exact ⟨rfl, rfl⟩))
    (fun os started H enc _ => lifted os started H enc)
theorem carded : Rows.WholeTextsCardSaid :=
  Claim7.holds_tied_plain_at .later [] [.data, .data, .data, .sentinel, .sentinel] true (true, "9469a83bd6f460deb7a0031fef88b243aeeb25348d5a1e2e1e8df94bcdda605a") true
    proved (fun _ h => by cases h) (by kernel_rfl) (fun _ h => by cases h) wholeTexts_row_tie rfl ⟨rfl, rfl⟩ (by kernel_rfl) rfl
    (fun f fn hf hfn => by
      obtain rfl : f = 6 := Option.some.inj ((show Tryd.prog.funcNamed "sizar/sizarlaw2.WholeTexts" = some 6 by kernel_rfl).symm.trans hf) |>.symm
      obtain rfl : fn = Tryd.f6 := (Option.some.inj (Tryd.func6.symm.trans hfn)).symm
      exact ⟨by kernel_rfl, fun j t ht => by
        rw [Tryd.params6] at ht
        have hm : t ∈ [2, 2] := by simpa using Array.mem_of_getElem? ht
        have hall : ([2, 2].all fun u => !Tryd.prog.wantsStandIn u) = true := by kernel_rfl
        exact (show Tryd.prog.wantsStandIn t = false by simpa using List.all_eq_true.1 hall t hm)⟩)
    (by kernel_rfl)
#print axioms carded
end wholeTexts

end Go.Proofs.YtcpfhjdjooakcaaDoor
