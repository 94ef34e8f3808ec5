/- LexComments, its tied card: for every text and every line's remark the law answers true; the tables and errors that strconv reads lie as the program's text lays them (tied). No other condition. -/
import Derived.Test.YtdjdkhbaemjnnaaDoorLexX
import Derived.Deep.QuietTactic
import Derived.BigQuiet
namespace Go.Proofs.YtdjdkhbaemjnnaaDoor
open Go.RowKit
set_option linter.unusedVariables false

theorem bel_drewN {B : Nat} {a w : World} (h : Below B a w) (n : Nat) : Below B a (w.drewN n) := ⟨h.os, h.tape, h.output, h.size, h.block⟩
theorem line_take : ∀ c : List UInt8, c.all (fun x => x != 10) = true → (c ++ [10]).takeWhile (fun x => x != 10) = c
  | [], _ => rfl
  | x :: c, h => by
    simp only [List.all_cons, Bool.and_eq_true] at h
    rw [List.cons_append, List.takeWhile_cons, if_pos h.1, line_take c h.2]
theorem lex_remark (c : List UInt8) (h : c.all (fun x => x != 10) = true) (p : Nat) : lexL 2 p (37 :: (c ++ [10])) = some [] := by
  rw [lexL]
  have e : nextC 37 (c ++ [10]) = .skip (c.length + 1) := by
    unfold nextC
    rw [if_neg (by decide), if_pos (by decide), line_take c h]
  rw [e]
  simp only [List.drop_succ_cons]
  rw [List.drop_left]
  rfl
theorem cut_remark {s c : List UInt8} {l : List (TokB × Nat)} (h : cutB s = .ok l) (hs : s.length ≤ 1000) (hc : c.length ≤ 200) (hn : c.all (fun x => x != 10) = true) : cutB (s ++ [10, 37] ++ c ++ [10]) = .ok l := by
  obtain ⟨h1, h2, h3⟩ := cutB_ok.1 h
  have h4 := lex_parts (37 :: (c ++ [10])) 2 [] s.length 0 s l h2 (lex_remark c hn _)
  have e : s ++ [10, 37] ++ c ++ [10] = s ++ 10 :: 37 :: (c ++ [10]) := by simp
  rw [e]
  refine cutB_ok.2 ⟨?_, ?_, h3⟩
  · simp; omega
  · rw [List.append_nil] at h4
    exact lex_more _ _ _ _ h4 _ (by simp)
theorem tok_alike (x : TokB × Nat) (wq : World) : (Op.equalIn 10000 30 (.agg #[.int .i64 (x.1.kind : Int), .string ⟨x.1.text.toArray⟩, .int .i64 (x.1.n : Int), .bool x.1.opens, .int .i64 (x.2 : Int)]) (.agg #[.int .i64 (x.1.kind : Int), .string ⟨x.1.text.toArray⟩, .int .i64 (x.1.n : Int), .bool x.1.opens, .int .i64 (x.2 : Int)])).run Tryd.prog wq = .ok true wq := by
  rw [eq_tok]; simp
set_option maxHeartbeats 4000000 in
set_option maxRecDepth 100000 in
theorem comments_at (s : ByteArray) (hs : s.size ≤ 140737488351232) (c : ByteArray) (hc : c.size ≤ 140737488351232) {w : World} (he : Err w) : Calls Tryd.prog 7 #[.string s, .string c] w (IsBool w true) := by
  cases hX : cutB (bl s) with
  | bad p o =>
    have C := fun w h => @cut_bad s p o w h hs hX
    clear hX
    cases o
    · go_enter Tryd.func7, Tryd.ntmps7
      (go_wp2_with fail; go_fit (awake_at he); rintro e w1 ⟨rfl, b1⟩)
      (go_wp2_with fail; go_fit (C _ (he.ext b1)); rintro e w2 ⟨rfl, b2⟩)
      have B2 := Lib.hid (Ext.trans' b1 b2)
      go_wp2
      go_ret
      exact ⟨rfl, B2.out⟩
    · go_enter Tryd.func7, Tryd.ntmps7
      (go_wp2_with fail; go_fit (awake_at he); rintro e w1 ⟨rfl, b1⟩)
      (go_wp2_with fail; go_fit (C _ (he.ext b1)); rintro e w2 ⟨rfl, b2⟩)
      have B2 := Lib.hid (Ext.trans' b1 b2)
      go_wp2
      go_ret
      exact ⟨rfl, B2.out⟩
  | ok l =>
    have C := fun w h => @cut_ok s l w h hs hX
    have HX := Lib.hid hX
    clear hX
    obtain ⟨n, hn⟩ : ∃ n, l.length = n := ⟨_, rfl⟩
    rw [hn] at C
    have HN := Lib.hid hn
    have hn1 : n ≤ 1024 := by rw [← hn]; exact (cutB_ok.1 HX.out).2.2
    clear hn
    by_cases hs1 : 1000 < s.size
    · go_enter Tryd.func7, Tryd.ntmps7
      (go_wp2_with fail; go_fit (awake_at he); rintro e w1 ⟨rfl, b1⟩)
      (go_wp2_with fail; go_fit (C _ (he.ext b1)); rintro e w2 ⟨ao, cv, rfl, ht, b2⟩)
      have B2 := Lib.hid (Ext.trans' b1 b2)
      go_wp2
      go_ret
      exact ⟨rfl, B2.out⟩
    by_cases hc1 : 200 < c.size
    · go_enter Tryd.func7, Tryd.ntmps7
      (go_wp2_with fail; go_fit (awake_at he); rintro e w1 ⟨rfl, b1⟩)
      (go_wp2_with fail; go_fit (C _ (he.ext b1)); rintro e w2 ⟨ao, cv, rfl, ht, b2⟩)
      have B2 := Lib.hid (Ext.trans' b1 b2)
      go_wp2
      go_ret
      exact ⟨rfl, B2.out⟩
    go_enter Tryd.func7, Tryd.ntmps7
    (go_wp2_with fail; go_fit (awake_at he); rintro e w1 ⟨rfl, b1⟩)
    (go_wp2_with fail; go_fit (C _ (he.ext b1)); rintro e w2 ⟨ao, cv, rfl, ht, b2⟩)
    have B2 := Lib.hid (Ext.trans' b1 b2)
    have HE := Lib.hid ((he.ext b1).ext b2)
    have HT := Lib.hid ht
    clear b1 b2 ht C
    go_wp2_with fail
    go_loop [8] (fun v => ∃ k : Nat, k ≤ c.size ∧ v = .int .i64 k ∧ Hid (∀ j (h : j < c.size), j < k → (c[j] != 10) = true)) (fun v => c.size - (intOf v).toNat)
    case atStart => exact ⟨0, Nat.zero_le _, rfl, Lib.hid (fun j _ h => by omega)⟩
    case round =>
      obtain ⟨k, hk, rfl, HK⟩ := hrel
      by_cases hlt : k < c.size
      · cases h10 : (c[k] == 10)
        · have hv := u8_ne h10
          rw [show ((10 : UInt8).toNat : Int) = 10 from rfl] at hv
          have HN10 := Lib.hid (show (c[k] != 10) = true by unfold bne; rw [h10]; rfl)
          clear h10
          go_wp2
          go_round
          case rel =>
            refine ⟨k + 1, by omega, by go_num, Lib.hid (fun j hj h => ?_)⟩
            by_cases e : j = k
            · subst e; exact HN10.out
            · exact HK.out j hj (by omega)
          case measure => simp [intOf]; omega
        · have hv : (c[k].toNat : Int) = 10 := by rw [show c[k] = 10 by simpa using h10]; rfl
          clear h10
          go_wp2
          go_ret
          exact ⟨rfl, B2.out⟩
      · have hall : (bl c).all (fun x => x != 10) = true := by
          rw [List.all_eq_true]
          intro x hx
          obtain ⟨j, hj, rfl⟩ := List.getElem_of_mem hx
          exact HK.out j hj (by have : j < c.size := hj; omega)
        have hY := cut_remark HX.out (show s.size ≤ 1000 by omega) (show c.size ≤ 200 by omega) hall
        have hb : bl (s ++ ⟨#[10, 37]⟩ ++ c ++ ⟨#[10]⟩) = bl s ++ [10, 37] ++ bl c ++ [10] := by simp [bl]
        have hsz : (s ++ ⟨#[10, 37]⟩ ++ c ++ ⟨#[10]⟩).size = s.size + 2 + c.size + 1 := by
          rw [← bl_len, hb]
          simp
          omega
        have D := fun w h => @cut_ok (s ++ ⟨#[10, 37]⟩ ++ c ++ ⟨#[10]⟩) l w h (by rw [hsz]; omega) (by rw [hb]; exact hY)
        rw [HN.out] at D
        clear hY hb hall
        (go_wp2_with fail; go_fit (D _ HE.out); rintro e w3 ⟨ao3, cv3, rfl, ht3, b3⟩)
        have HT3 := Lib.hid ht3
        have B3 := Lib.hid b3
        clear ht3 b3 D
        go_wp2_with fail
        go_loopw [12] (fun v wr => ∃ k : Nat, k ≤ n ∧ v = .int .i64 k ∧ Hid (Below w3.heap.size w3 wr)) (fun v _ => n - (intOf v).toNat)
        case atStart => exact ⟨0, Nat.zero_le _, rfl, Lib.hid (Below.refl _ _)⟩
        case round =>
          obtain ⟨i, hi, rfl, HB⟩ := hrel
          by_cases hil : i < n
          · obtain ⟨x, hx⟩ : ∃ x, l[i]? = some x := ⟨_, List.getElem?_eq_getElem (by rw [HN.out]; exact hil)⟩
            obtain ⟨b, off, rfl, _, c0, c1, c2, c3, c4⟩ := ((HT.out.ext B3.out).ext HB.out).cells hx
            obtain ⟨b', off', rfl, _, d0, d1, d2, d3, d4⟩ := (HT3.out.ext HB.out).cells hx
            have hq := fun wq => tok_alike x wq
            generalize (x.1.kind : Int) = a0 at c0 d0 hq
            generalize (⟨x.1.text.toArray⟩ : ByteArray) = a1 at c1 d1 hq
            generalize (x.1.n : Int) = a2 at c2 d2 hq
            generalize x.1.opens = a3 at c3 d3 hq
            generalize (x.2 : Int) = a4 at c4 d4 hq
            clear hx
            go_wp2_with fail
            go_quiet (fail)
            go_wp2
            go_roundw
            case rel => exact ⟨i + 1, by omega, by go_num, Lib.hid (bel_drewN HB.out _)⟩
            case measure => simp [intOf]; omega
          · go_wp2
            go_ret
            exact ⟨rfl, Ext.trans' B2.out (Ext.trans' B3.out HB.out)⟩
theorem ctxC {w : World} (h : laidMetH Tryd.prog Rows.lexCommentsRow.laid w) : Err w := err_of (text := [118, 97, 108, 117, 101, 32, 111, 117, 116, 32, 111, 102, 32, 114, 97, 110, 103, 101]) (by kernel_rfl) (by kernel_rfl) rfl h
namespace lexComments
open Go.ChangeShapes Go.WideShapes Go.ChangeAt Go.RowKit
theorem own : ownKnob Tryd.prog.godebug = none := by kernel_rfl
theorem laidOut : laidOutB Tryd.prog = true := by kernel_rfl
set_option linter.unusedVariables false
set_option maxRecDepth 100000 in
theorem lifted (os : Os) (started : os.Started) (H : Type) (enc : TypeId × Value → H) :
    ReturnsInHanded {} Tryd.checked os 7 .any (fun w args => (Rows.lexCommentsSpec.pre enc Tryd.prog Tryd.f7 [] false w args ∧ laidMetH Tryd.prog Rows.lexCommentsRow.laid w) ∧ sizedMet enc Tryd.prog Tryd.f7 (OpenSpec.ofChange Rows.lexCommentsSpec) false w args)
      (Rows.lexCommentsSpec.post enc Tryd.prog Tryd.f7 false true false false) := by
  refine returnsInHanded_of_change_and (C := Tryd.checked) (X := fun w _ => laidMetH Tryd.prog Rows.lexCommentsRow.laid w) (fun _ _ _ hh h => h.of_heap hh) own started (by kernel_rfl) Tryd.func7
    (ChangeSpec.witness_shaped (enc := enc) (C := Tryd.checked) (os := os) (X := fun w _ => laidMetH Tryd.prog Rows.lexCommentsRow.laid w) false (World.laidAll Tryd.prog os Rows.lexCommentsRow.laid) #[.string ⟨#[]⟩, .string ⟨#[]⟩] 8 (World.laidAll_os _ _ _)
      (World.shaped_of_ZipB (by kernel_rfl) (by kernel_rfl)) (by kernel_rfl) (by kernel_rfl) (by kernel_rfl)
      (by rw [MakeChecks.laidMetH_plain _ _ _ (by kernel_rfl)]; exact laidMet_laidAll _ (by kernel_rfl) (by kernel_rfl))) ?_
  intro W base args ds gs before hval0 hW hcnd hsz0 hL _
  have hval : ∀ (j : Nat) t v, Tryd.f7.params[j]? = some t → args[j]? = some v → Value.okWide Tryd.prog W .any base t v := hval0
  have hW' := hW
  obtain ⟨p, q, hA0, hV, rfl, hfz, hnd⟩ := hW
  have hA : DataW.TrodAll enc Tryd.prog W 0 (fun _ => true) true Tryd.f7.params.toList args.toList ds p := hA0
  have hsz : (DataW.weightsEach Tryd.prog (Tryd.f7.params.toList ++ []) (ds ++ gs)).all (· ≤ reachBytes) = true := hsz0
  rw [Tryd.params7] at hA hval hsz
  obtain ⟨v0, vs0, d0, ds0, p0, q0, hargs, rfl, rfl, h0, r0⟩ := trodAll_cons hA
  obtain ⟨v1, vs1, d1, ds1, p1, q1, rfl, rfl, rfl, h1, r1⟩ := trodAll_cons r0
  obtain ⟨rfl, rfl, rfl⟩ := trodAll_nil r1
  obtain rfl : args = #[v0, v1] := by cases args; simp_all
  obtain ⟨rfl, rfl⟩ := trodVars_none hV
  clear hA0 hval0 hsz0
  have k0 := h0
  have lt0 := lt_of_trod h0
  have k1 := h1
  have lt1 := lt_of_trod h1
  obtain ⟨a0, rfl, e0, rfl, w0⟩ := ChangeMaps.open_string Tryd.underlying9 (hval 0 9 v0 rfl rfl) h0
  have s0 : a0.size ≤ 140737488351232 := weights_ok hsz (j := 0) (t := 9) (d := d0) rfl rfl _ (by rw [e0]; simp [DataW.weights])
  obtain ⟨a1, rfl, e1, rfl, w1⟩ := ChangeMaps.open_string Tryd.underlying9 (hval 1 9 v1 rfl rfl) h1
  have s1 : a1.size ≤ 140737488351232 := weights_ok hsz (j := 1) (t := 9) (d := d1) rfl rfl _ (by rw [e1]; simp [DataW.weights])
  refine (comments_at a0 s0 a1 s1 (ctxC hL)).mono fun e W' ⟨he, bel⟩ => ?_
  subst he
  exact ⟨_, rfl, _, _, _, [], _, [], hW', trodAll_mk1 (shut_bool Tryd.underlying4 _), (trodAll_cons_mk (Below.trod laidOut (by kernel_rfl) (of_decide_eq_true (by kernel_rfl)) k0 bel lt0) (trodAll_cons_mk (Below.trod laidOut (by kernel_rfl) (of_decide_eq_true (by kernel_rfl)) k1 bel lt1) trodAll_mk0)), rfl, bel.frame _, fun h => by cases h⟩
theorem proved : Rows.LexCommentsSaid :=
  OpenClaim.holds_of_wide 7 Tryd.f7 rfl rfl rfl rfl rfl rfl rfl ⟨rfl, rfl, rfl, rfl, rfl⟩ rfl rfl rfl rfl rfl (by kernel_rfl) Tryd.func7 (by kernel_rfl)
    (of_decide_eq_true (by kernel_rfl)) (by unfold Func.isWrapper; first | (rw [if_pos (by decide +kernel)]; kernel_rfl) | (rw [if_neg (by decide +kernel)]; exact ⟨rfl, rfl⟩))
    (fun os started H enc _ => lifted os started H enc)
theorem carded : Rows.LexCommentsCardSaid :=
  Claim7.holds_tied_plain_at .later [] [.data, .data, .data, .sentinel, .sentinel] true (true, "7e6691e419b95f883b478f787a14e41dbd4ca20f2e25028a77df4186af6ce731") true
    proved (fun _ h => by cases h) (by kernel_rfl) (fun _ h => by cases h) lexComments_row_tie rfl ⟨rfl, rfl⟩ (by kernel_rfl) rfl
    (fun f fn hf hfn => by
      obtain rfl : f = 7 := Option.some.inj ((show Tryd.prog.funcNamed "sizar/sizarlaw6.LexComments" = some 7 by kernel_rfl).symm.trans hf) |>.symm
      obtain rfl : fn = Tryd.f7 := (Option.some.inj (Tryd.func7.symm.trans hfn)).symm
      exact ⟨by kernel_rfl, fun j t ht => by
        rw [Tryd.params7] at ht
        have hm : t ∈ [9, 9] := by simpa using Array.mem_of_getElem? ht
        have hall : ([9, 9].all fun u => !Tryd.prog.wantsStandIn u) = true := by kernel_rfl
        exact (show Tryd.prog.wantsStandIn t = false by simpa using List.all_eq_true.1 hall t hm)⟩)
    (by kernel_rfl)
#print axioms carded
end lexComments

end Go.Proofs.YtdjdkhbaemjnnaaDoor
