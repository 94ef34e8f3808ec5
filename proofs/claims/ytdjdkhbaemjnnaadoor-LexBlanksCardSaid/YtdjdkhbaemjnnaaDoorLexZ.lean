/- LexBlanks, its tied card: for every text and every blanks the law answers true; the tables and errors that strconv reads lie as the program's text lays them (tied). No other condition. -/
import Derived.Test.YtdjdkhbaemjnnaaDoorLexY
namespace Go.Proofs.YtdjdkhbaemjnnaaDoor
open Go.RowKit
set_option linter.unusedVariables false

theorem cut_blanks {s pad : List UInt8} {l : List (TokB × Nat)} (h : cutB s = .ok l) (hb : ∀ c ∈ pad, blankB c = true) (hs : s.length ≤ 2000) (hp : pad.length ≤ 100) : cutB (pad ++ s) = .ok (shiftT pad.length l) := by
  obtain ⟨_, h2, h3⟩ := cutB_ok.1 h
  have hsh := lex_shift pad.length s.length 0 s
  rw [h2] at hsh
  have h4 := lex_blanks s s.length (shiftT pad.length l) pad hb 0 hsh
  refine cutB_ok.2 ⟨?_, ?_, ?_⟩
  · simp; omega
  · rw [List.length_append, Nat.add_comm pad.length s.length]; exact h4
  · simpa [shiftT] using h3
theorem blank_cases {c : UInt8} (h : blankB c = true) : c = 9 ∨ c = 10 ∨ c = 13 ∨ c = 32 := by
  unfold blankB at h
  simp only [Bool.or_eq_true, beq_iff_eq] at h
  rcases h with ((h | h) | h) | h
  · exact Or.inr (Or.inr (Or.inr h))
  · exact Or.inl h
  · exact Or.inr (Or.inl h)
  · exact Or.inr (Or.inr (Or.inl h))
theorem blank_ne {c : UInt8} (h : blankB c = false) : (c == 9) = false ∧ (c == 10) = false ∧ (c == 13) = false ∧ (c == 32) = false := by
  unfold blankB at h
  simp only [Bool.or_eq_false_iff] at h
  exact ⟨h.1.1.2, h.1.2, h.2, h.1.1.1⟩
theorem ext_one (a : ByteArray) (k : Nat) (h : k < a.size) : bl (a.extract k (k + 1)) = [a[k]] := by
  have h1 := take_ext a k 1
  rw [← h1]
  show ((bl a).drop k).take 1 = _
  rw [drop_at (l := bl a) h]
  rfl
set_option maxHeartbeats 8000000 in
set_option maxRecDepth 100000 in
theorem blanks_at (s : ByteArray) (hs : s.size ≤ 140737488351232) (c : ByteArray) (hc : c.size ≤ 140737488351232) {w : World} (he : Err w) : Calls Tryd.prog 5 #[.string s, .string c] w (IsBool w true) := by
  cases hX : cutB (bl s) with
  | bad p o =>
    have C := fun w h => @cut_bad s p o w h hs hX
    clear hX
    cases o
    all_goals
      go_enter Tryd.func5, Tryd.ntmps5
      (go_wp2_with fail; go_fit (awake_at he); rintro e w1 ⟨rfl, b1⟩)
      (go_wp2_with fail; go_fit (C _ (he.ext b1)); rintro e w2 ⟨rfl, b2⟩)
      have B2 := Lib.hid (Ext.trans' b1 b2)
      go_wp2
      go_ret
      exact ⟨rfl, B2.out⟩
  | ok l =>
    have C := fun w h => @cut_ok s l w h hs hX
    have HX := Lib.hid hX
    clear hX
    obtain ⟨n, hn⟩ : ∃ n, l.length = n := ⟨_, rfl⟩
    rw [hn] at C
    have HN := Lib.hid hn
    have hn1 : n ≤ 1024 := by rw [← hn]; exact (cutB_ok.1 HX.out).2.2
    clear hn
    by_cases hs1 : 2000 < s.size
    · go_enter Tryd.func5, Tryd.ntmps5
      (go_wp2_with fail; go_fit (awake_at he); rintro e w1 ⟨rfl, b1⟩)
      (go_wp2_with fail; go_fit (C _ (he.ext b1)); rintro e w2 ⟨ao, cv, rfl, ht, b2⟩)
      have B2 := Lib.hid (Ext.trans' b1 b2)
      go_wp2
      go_ret
      exact ⟨rfl, B2.out⟩
    by_cases hc1 : 20 < c.size
    · go_enter Tryd.func5, Tryd.ntmps5
      (go_wp2_with fail; go_fit (awake_at he); rintro e w1 ⟨rfl, b1⟩)
      (go_wp2_with fail; go_fit (C _ (he.ext b1)); rintro e w2 ⟨ao, cv, rfl, ht, b2⟩)
      have B2 := Lib.hid (Ext.trans' b1 b2)
      go_wp2
      go_ret
      exact ⟨rfl, B2.out⟩
    go_enter Tryd.func5, Tryd.ntmps5
    (go_wp2_with fail; go_fit (awake_at he); rintro e w1 ⟨rfl, b1⟩)
    (go_wp2_with fail; go_fit (C _ (he.ext b1)); rintro e w2 ⟨ao, cv, rfl, ht, b2⟩)
    have B2 := Lib.hid (Ext.trans' b1 b2)
    have HE := Lib.hid ((he.ext b1).ext b2)
    have HT := Lib.hid ht
    clear b1 b2 ht C
    go_wp2_with fail
    go_loop [8, 9] (fun u v => ∃ (k : Nat) (q : ByteArray), k ≤ c.size ∧ v = .int .i64 k ∧ u = .string q ∧ q.size ≤ k + 1 ∧ Hid (∀ x ∈ bl q, blankB x = true)) (fun _ v => c.size - (intOf v).toNat)
    case atStart => exact ⟨0, ⟨#[32]⟩, Nat.zero_le _, rfl, rfl, by decide, Lib.hid (by decide)⟩
    case round =>
      obtain ⟨k, q, hk, rfl, rfl, hqs, HQ⟩ := hrel
      by_cases hlt : k < c.size
      · cases hbl : blankB c[k]
        · obtain ⟨h1, h2, h3, h4⟩ := blank_ne hbl
          have g1 := u8_ne h1
          have g2 := u8_ne h2
          have g3 := u8_ne h3
          have g4 := u8_ne h4
          rw [show ((9 : UInt8).toNat : Int) = 9 from rfl] at g1
          rw [show ((10 : UInt8).toNat : Int) = 10 from rfl] at g2
          rw [show ((13 : UInt8).toNat : Int) = 13 from rfl] at g3
          rw [show ((32 : UInt8).toNat : Int) = 32 from rfl] at g4
          clear h1 h2 h3 h4 hbl
          go_wp2
          go_round
          case rel => exact ⟨k + 1, q, by omega, by go_num, rfl, by omega, HQ⟩
          case measure => simp [intOf]; omega
        · have hql : bl (q ++ c.extract k (k + 1)) = bl q ++ [c[k]] := by
            rw [← ext_one c k hlt]; simp [bl]
          have HQ2 : Hid (∀ x ∈ bl (q ++ c.extract k (k + 1)), blankB x = true) := Lib.hid (by
            rw [hql]
            intro x hx
            rcases List.mem_append.1 hx with h | h
            · exact HQ.out x h
            · rw [List.mem_singleton.1 h]; exact hbl)
          have hqz : (q ++ c.extract k (k + 1)).size = q.size + 1 := by
            rw [← bl_len, hql]; simp
          have hez : (c.extract k (k + 1)).size = 1 := by rw [← bl_len, ext_one c k hlt]; rfl
          have HZ := Lib.hid hqz
          clear hql hqz
          rcases blank_cases hbl with h | h | h | h
          · have hv : (c[k].toNat : Int) = 9 := by rw [h]; rfl
            clear hbl h
            go_wp2
            go_round
            case rel => exact ⟨k + 1, _, by omega, by go_num, rfl, by rw [HZ.out]; omega, HQ2⟩
            case measure => simp [intOf]; omega
          · have hv : (c[k].toNat : Int) = 10 := by rw [h]; rfl
            clear hbl h
            go_wp2
            go_round
            case rel => exact ⟨k + 1, _, by omega, by go_num, rfl, by rw [HZ.out]; omega, HQ2⟩
            case measure => simp [intOf]; omega
          · have hv : (c[k].toNat : Int) = 13 := by rw [h]; rfl
            clear hbl h
            go_wp2
            go_round
            case rel => exact ⟨k + 1, _, by omega, by go_num, rfl, by rw [HZ.out]; omega, HQ2⟩
            case measure => simp [intOf]; omega
          · have hv : (c[k].toNat : Int) = 32 := by rw [h]; rfl
            clear hbl h
            go_wp2
            go_round
            case rel => exact ⟨k + 1, _, by omega, by go_num, rfl, by rw [HZ.out]; omega, HQ2⟩
            case measure => simp [intOf]; omega
      · have hY := cut_blanks HX.out HQ.out (show s.size ≤ 2000 by omega) (show q.size ≤ 100 by omega)
        have hb : bl (q ++ s) = bl q ++ bl s := by simp [bl]
        have hsz : (q ++ s).size = q.size + s.size := by
          rw [← bl_len, hb]
          simp
        have D := fun w h => @cut_ok (q ++ s) (shiftT q.size l) w h (by rw [hsz]; omega) (by rw [hb]; exact hY)
        rw [show (shiftT q.size l).length = n by simp [shiftT, HN.out]] at D
        have hZ : ∀ (i : Nat) (x : TokB × Nat), l[i]? = some x → (shiftT q.size l)[i]? = some (x.1, x.2 + q.size) := fun i x hx => by simp [shiftT, hx]
        have HZ := Lib.hid hZ
        clear hY hb hZ
        (go_wp2_with fail; go_fit (D _ HE.out); rintro e w3 ⟨ao3, cv3, rfl, ht3, b3⟩)
        have HT3 := Lib.hid ht3
        have B3 := Lib.hid b3
        clear ht3 b3 D
        go_wp2_with fail
        go_loopw [13] (fun v wr => ∃ k : Nat, k ≤ n ∧ v = .int .i64 k ∧ Hid (Below w3.heap.size w3 wr)) (fun v _ => n - (intOf v).toNat)
        case atStart => exact ⟨0, Nat.zero_le _, rfl, Lib.hid (Below.refl _ _)⟩
        case round =>
          obtain ⟨i, hi, rfl, HB⟩ := hrel
          by_cases hil : i < n
          · obtain ⟨x, hx⟩ : ∃ x, l[i]? = some x := ⟨_, List.getElem?_eq_getElem (by rw [HN.out]; exact hil)⟩
            obtain ⟨b, off, rfl, _, c0, c1, c2, c3, c4⟩ := ((HT.out.ext B3.out).ext HB.out).cells hx
            obtain ⟨b', off', rfl, _, d0, d1, d2, d3, d4⟩ := (HT3.out.ext HB.out).cells (HZ.out i x hx)
            have hx2 : x.2 ≤ 4096 := cut_place HX.out (List.mem_of_getElem? hx)
            simp only at d0 d1 d2 d3 d4
            generalize (x.1.kind : Int) = a0 at c0 d0
            generalize (⟨x.1.text.toArray⟩ : ByteArray) = a1 at c1 d1
            generalize (x.1.n : Int) = a2 at c2 d2
            generalize x.1.opens = a3 at c3 d3
            generalize x.2 = p at c4 d4 hx2
            have hat : (p : Int) + q.size = ((p + q.size : Nat) : Int) := by omega
            generalize ((p + q.size : Nat) : Int) = p' at d4 hat
            clear hx
            go_wp2_with fail
            (try simp only [List.append_eq, List.cons_append, List.nil_append])
            go_quiet (fail)
            go_wp2
            go_roundw
            case rel => exact ⟨i + 1, by omega, by go_num, Lib.hid (bel_drewN HB.out _)⟩
            case measure => simp [intOf]; omega
          · go_wp2
            go_ret
            exact ⟨rfl, Ext.trans' B2.out (Ext.trans' B3.out HB.out)⟩
theorem ctxB {w : World} (h : laidMetH Tryd.prog Rows.lexBlanksRow.laid w) : Err w := err_of (text := [118, 97, 108, 117, 101, 32, 111, 117, 116, 32, 111, 102, 32, 114, 97, 110, 103, 101]) (by kernel_rfl) (by kernel_rfl) rfl h
namespace lexBlanks
open Go.ChangeShapes Go.WideShapes Go.ChangeAt Go.RowKit
theorem own : ownKnob Tryd.prog.godebug = none := by kernel_rfl
theorem laidOut : laidOutB Tryd.prog = true := by kernel_rfl
set_option linter.unusedVariables false
set_option maxRecDepth 100000 in
theorem lifted (os : Os) (started : os.Started) (H : Type) (enc : TypeId × Value → H) :
    ReturnsInHanded {} Tryd.checked os 5 .any (fun w args => (Rows.lexBlanksSpec.pre enc Tryd.prog Tryd.f5 [] false w args ∧ laidMetH Tryd.prog Rows.lexBlanksRow.laid w) ∧ sizedMet enc Tryd.prog Tryd.f5 (OpenSpec.ofChange Rows.lexBlanksSpec) false w args)
      (Rows.lexBlanksSpec.post enc Tryd.prog Tryd.f5 false true false false) := by
  refine returnsInHanded_of_change_and (C := Tryd.checked) (X := fun w _ => laidMetH Tryd.prog Rows.lexBlanksRow.laid w) (fun _ _ _ hh h => h.of_heap hh) own started (by kernel_rfl) Tryd.func5
    (ChangeSpec.witness_shaped (enc := enc) (C := Tryd.checked) (os := os) (X := fun w _ => laidMetH Tryd.prog Rows.lexBlanksRow.laid w) false (World.laidAll Tryd.prog os Rows.lexBlanksRow.laid) #[.string ⟨#[]⟩, .string ⟨#[]⟩] 8 (World.laidAll_os _ _ _)
      (World.shaped_of_ZipB (by kernel_rfl) (by kernel_rfl)) (by kernel_rfl) (by kernel_rfl) (by kernel_rfl)
      (by rw [MakeChecks.laidMetH_plain _ _ _ (by kernel_rfl)]; exact laidMet_laidAll _ (by kernel_rfl) (by kernel_rfl))) ?_
  intro W base args ds gs before hval0 hW hcnd hsz0 hL _
  have hval : ∀ (j : Nat) t v, Tryd.f5.params[j]? = some t → args[j]? = some v → Value.okWide Tryd.prog W .any base t v := hval0
  have hW' := hW
  obtain ⟨p, q, hA0, hV, rfl, hfz, hnd⟩ := hW
  have hA : DataW.TrodAll enc Tryd.prog W 0 (fun _ => true) true Tryd.f5.params.toList args.toList ds p := hA0
  have hsz : (DataW.weightsEach Tryd.prog (Tryd.f5.params.toList ++ []) (ds ++ gs)).all (· ≤ reachBytes) = true := hsz0
  rw [Tryd.params5] at hA hval hsz
  obtain ⟨v0, vs0, d0, ds0, p0, q0, hargs, rfl, rfl, h0, r0⟩ := trodAll_cons hA
  obtain ⟨v1, vs1, d1, ds1, p1, q1, rfl, rfl, rfl, h1, r1⟩ := trodAll_cons r0
  obtain ⟨rfl, rfl, rfl⟩ := trodAll_nil r1
  obtain rfl : args = #[v0, v1] := by cases args; simp_all
  obtain ⟨rfl, rfl⟩ := trodVars_none hV
  clear hA0 hval0 hsz0
  have k0 := h0
  have lt0 := lt_of_trod h0
  have k1 := h1
  have lt1 := lt_of_trod h1
  obtain ⟨a0, rfl, e0, rfl, w0⟩ := ChangeMaps.open_string Tryd.underlying9 (hval 0 9 v0 rfl rfl) h0
  have s0 : a0.size ≤ 140737488351232 := weights_ok hsz (j := 0) (t := 9) (d := d0) rfl rfl _ (by rw [e0]; simp [DataW.weights])
  obtain ⟨a1, rfl, e1, rfl, w1⟩ := ChangeMaps.open_string Tryd.underlying9 (hval 1 9 v1 rfl rfl) h1
  have s1 : a1.size ≤ 140737488351232 := weights_ok hsz (j := 1) (t := 9) (d := d1) rfl rfl _ (by rw [e1]; simp [DataW.weights])
  refine (blanks_at a0 s0 a1 s1 (ctxB hL)).mono fun e W' ⟨he, bel⟩ => ?_
  subst he
  exact ⟨_, rfl, _, _, _, [], _, [], hW', trodAll_mk1 (shut_bool Tryd.underlying4 _), (trodAll_cons_mk (Below.trod laidOut (by kernel_rfl) (of_decide_eq_true (by kernel_rfl)) k0 bel lt0) (trodAll_cons_mk (Below.trod laidOut (by kernel_rfl) (of_decide_eq_true (by kernel_rfl)) k1 bel lt1) trodAll_mk0)), rfl, bel.frame _, fun h => by cases h⟩
theorem proved : Rows.LexBlanksSaid :=
  OpenClaim.holds_of_wide 5 Tryd.f5 rfl rfl rfl rfl rfl rfl rfl ⟨rfl, rfl, rfl, rfl, rfl⟩ rfl rfl rfl rfl rfl (by kernel_rfl) Tryd.func5 (by kernel_rfl)
    (of_decide_eq_true (by kernel_rfl)) (by unfold Func.isWrapper; first | (rw [if_pos (by decide +kernel)]; kernel_rfl) | (rw [if_neg (by decide +kernel)]; exact ⟨rfl, rfl⟩))
    (fun os started H enc _ => lifted os started H enc)
theorem carded : Rows.LexBlanksCardSaid :=
  Claim7.holds_tied_plain_at .later [] [.data, .data, .data, .sentinel, .sentinel] true (true, "7e6691e419b95f883b478f787a14e41dbd4ca20f2e25028a77df4186af6ce731") true
    proved (fun _ h => by cases h) (by kernel_rfl) (fun _ h => by cases h) lexBlanks_row_tie rfl ⟨rfl, rfl⟩ (by kernel_rfl) rfl
    (fun f fn hf hfn => by
      obtain rfl : f = 5 := Option.some.inj ((show Tryd.prog.funcNamed "sizar/sizarlaw6.LexBlanks" = some 5 by kernel_rfl).symm.trans hf) |>.symm
      obtain rfl : fn = Tryd.f5 := (Option.some.inj (Tryd.func5.symm.trans hfn)).symm
      exact ⟨by kernel_rfl, fun j t ht => by
        rw [Tryd.params5] at ht
        have hm : t ∈ [9, 9] := by simpa using Array.mem_of_getElem? ht
        have hall : ([9, 9].all fun u => !Tryd.prog.wantsStandIn u) = true := by kernel_rfl
        exact (show Tryd.prog.wantsStandIn t = false by simpa using List.all_eq_true.1 hall t hm)⟩)
    (by kernel_rfl)
#print axioms carded
end lexBlanks

end Go.Proofs.YtdjdkhbaemjnnaaDoor
