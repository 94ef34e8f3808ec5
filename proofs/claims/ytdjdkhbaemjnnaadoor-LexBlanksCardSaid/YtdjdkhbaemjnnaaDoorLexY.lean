/- LexParts, its tied card: for every two texts the law answers true; the tables and errors that strconv reads lie as the program's text lays them (tied). No other condition. -/
import Derived.Test.YtdjdkhbaemjnnaaDoorLexW
namespace Go.Proofs.YtdjdkhbaemjnnaaDoor
open Go.RowKit
set_option linter.unusedVariables false

theorem lex_place : ∀ (n p : Nat) (s : List UInt8) (x : List (TokB × Nat)), lexL n p s = some x → ∀ q ∈ x, q.2 ≤ p + s.length
  | n, p, [], x, h, q, hq => by
    rw [lex_nil] at h
    cases h
    simp at hq
  | 0, p, c :: r, x, h, q, hq => by cases h
  | n + 1, p, c :: r, x, h, q, hq => by
    have hlen := next_len c r
    rw [lexL] at h
    cases hn : nextC c r with
    | skip k =>
      rw [hn] at h hlen
      have h1 : k ≤ (c :: r).length := hlen
      have := lex_place n (p + k) _ x h q hq
      rw [List.length_drop] at this
      omega
    | tok t =>
      rw [hn] at h hlen
      have h1 : t.len ≤ (c :: r).length := hlen
      obtain ⟨l, hl, rfl⟩ := Option.map_eq_some_iff.1 h
      rcases List.mem_cons.1 hq with rfl | hq
      · exact Nat.le_add_right _ _
      · have := lex_place n (p + t.len) _ l hl q hq
        rw [List.length_drop] at this
        omega
    | bad o => rw [hn] at h; cases h
theorem cut_place {s : List UInt8} {l : List (TokB × Nat)} (h : cutB s = .ok l) {q : TokB × Nat} (hq : q ∈ l) : q.2 ≤ 4096 := by
  obtain ⟨h1, h2, _⟩ := cutB_ok.1 h
  have := lex_place _ _ _ _ h2 q hq
  omega
def shiftT (d : Nat) (l : List (TokB × Nat)) : List (TokB × Nat) := l.map fun q => (q.1, q.2 + d)
theorem cut_parts {a b : List UInt8} {x y : List (TokB × Nat)} (hx : cutB a = .ok x) (hy : cutB b = .ok y) (ha : a.length ≤ 1000) (hb : b.length ≤ 1000) (hn : x.length + y.length ≤ 1000) : cutB (a ++ [10] ++ b) = .ok (x ++ shiftT (a.length + 1) y) := by
  obtain ⟨_, x2, _⟩ := cutB_ok.1 hx
  obtain ⟨_, y2, _⟩ := cutB_ok.1 hy
  have hs := lex_shift (a.length + 1) b.length 0 b
  rw [y2] at hs
  have h4 := lex_parts b b.length (shiftT (a.length + 1) y) a.length 0 a x x2 (by rw [Nat.add_assoc]; exact hs)
  have e : a ++ [10] ++ b = a ++ 10 :: b := by simp
  rw [e]
  refine cutB_ok.2 ⟨?_, ?_, ?_⟩
  · simp; omega
  · exact lex_more _ _ _ _ h4 _ (by simp)
  · simp [shiftT]; omega
set_option maxHeartbeats 8000000 in
set_option maxRecDepth 100000 in
theorem parts_at (s : ByteArray) (hs : s.size ≤ 140737488351232) (c : ByteArray) (hc : c.size ≤ 140737488351232) {w : World} (he : Err w) : Calls Tryd.prog 6 #[.string s, .string c] w (IsBool w true) := by
  cases hX : cutB (bl s) with
  | bad p o =>
    have C := fun w h => @cut_bad s p o w h hs hX
    clear hX
    cases hY : cutB (bl c) with
    | bad p' o' =>
      have D := fun w h => @cut_bad c p' o' w h hc hY
      clear hY
      cases o <;> cases o'
      all_goals
        go_enter Tryd.func6, Tryd.ntmps6
        (go_wp2_with fail; go_fit (awake_at he); rintro e w1 ⟨rfl, b1⟩)
        (go_wp2_with fail; go_fit (C _ (he.ext b1)); rintro e w2 ⟨rfl, b2⟩)
        (go_wp2_with fail; go_fit (D _ ((he.ext b1).ext b2)); rintro e w3 ⟨rfl, b3⟩)
        have B3 := Lib.hid (Ext.trans' b1 (Ext.trans' b2 b3))
        go_wp2
        go_ret
        exact ⟨rfl, B3.out⟩
    | ok l' =>
      have D := fun w h => @cut_ok c l' w h hc hY
      clear hY
      cases o
      all_goals
        go_enter Tryd.func6, Tryd.ntmps6
        (go_wp2_with fail; go_fit (awake_at he); rintro e w1 ⟨rfl, b1⟩)
        (go_wp2_with fail; go_fit (C _ (he.ext b1)); rintro e w2 ⟨rfl, b2⟩)
        (go_wp2_with fail; go_fit (D _ ((he.ext b1).ext b2)); rintro e w3 ⟨ao3, cv3, rfl, ht3, b3⟩)
        have B3 := Lib.hid (Ext.trans' b1 (Ext.trans' b2 b3))
        go_wp2
        go_ret
        exact ⟨rfl, B3.out⟩
  | ok l =>
    have C := fun w h => @cut_ok s l w h hs hX
    have HX := Lib.hid hX
    clear hX
    obtain ⟨n, hn⟩ : ∃ n, l.length = n := ⟨_, rfl⟩
    rw [hn] at C
    have HN := Lib.hid hn
    have hn1 : n ≤ 1024 := by rw [← hn]; exact (cutB_ok.1 HX.out).2.2
    clear hn
    cases hY : cutB (bl c) with
    | bad p' o' =>
      have D := fun w h => @cut_bad c p' o' w h hc hY
      clear hY
      cases o'
      all_goals
        go_enter Tryd.func6, Tryd.ntmps6
        (go_wp2_with fail; go_fit (awake_at he); rintro e w1 ⟨rfl, b1⟩)
        (go_wp2_with fail; go_fit (C _ (he.ext b1)); rintro e w2 ⟨ao2, cv2, rfl, ht2, b2⟩)
        (go_wp2_with fail; go_fit (D _ ((he.ext b1).ext b2)); rintro e w3 ⟨rfl, b3⟩)
        have B3 := Lib.hid (Ext.trans' b1 (Ext.trans' b2 b3))
        go_wp2
        go_ret
        exact ⟨rfl, B3.out⟩
    | ok l' =>
      have D := fun w h => @cut_ok c l' w h hc hY
      have HY := Lib.hid hY
      clear hY
      obtain ⟨m, hm⟩ : ∃ m, l'.length = m := ⟨_, rfl⟩
      rw [hm] at D
      have HM := Lib.hid hm
      have hm1 : m ≤ 1024 := by rw [← hm]; exact (cutB_ok.1 HY.out).2.2
      clear hm
      have start (K : Prop) : K → K := id
      by_cases hs1 : 1000 < s.size
      · go_enter Tryd.func6, Tryd.ntmps6
        (go_wp2_with fail; go_fit (awake_at he); rintro e w1 ⟨rfl, b1⟩)
        (go_wp2_with fail; go_fit (C _ (he.ext b1)); rintro e w2 ⟨ao2, cv2, rfl, ht2, b2⟩)
        (go_wp2_with fail; go_fit (D _ ((he.ext b1).ext b2)); rintro e w3 ⟨ao3, cv3, rfl, ht3, b3⟩)
        have B3 := Lib.hid (Ext.trans' b1 (Ext.trans' b2 b3))
        go_wp2
        go_ret
        exact ⟨rfl, B3.out⟩
      by_cases hc1 : 1000 < c.size
      · go_enter Tryd.func6, Tryd.ntmps6
        (go_wp2_with fail; go_fit (awake_at he); rintro e w1 ⟨rfl, b1⟩)
        (go_wp2_with fail; go_fit (C _ (he.ext b1)); rintro e w2 ⟨ao2, cv2, rfl, ht2, b2⟩)
        (go_wp2_with fail; go_fit (D _ ((he.ext b1).ext b2)); rintro e w3 ⟨ao3, cv3, rfl, ht3, b3⟩)
        have B3 := Lib.hid (Ext.trans' b1 (Ext.trans' b2 b3))
        go_wp2
        go_ret
        exact ⟨rfl, B3.out⟩
      by_cases hnm : 1000 < n + m
      · go_enter Tryd.func6, Tryd.ntmps6
        (go_wp2_with fail; go_fit (awake_at he); rintro e w1 ⟨rfl, b1⟩)
        (go_wp2_with fail; go_fit (C _ (he.ext b1)); rintro e w2 ⟨ao2, cv2, rfl, ht2, b2⟩)
        (go_wp2_with fail; go_fit (D _ ((he.ext b1).ext b2)); rintro e w3 ⟨ao3, cv3, rfl, ht3, b3⟩)
        have B3 := Lib.hid (Ext.trans' b1 (Ext.trans' b2 b3))
        go_wp2
        go_ret
        exact ⟨rfl, B3.out⟩
      have hZ := cut_parts HX.out HY.out (show s.size ≤ 1000 by omega) (show c.size ≤ 1000 by omega) (by rw [HN.out, HM.out]; omega)
      have hb : bl (s ++ ⟨#[10]⟩ ++ c) = bl s ++ [10] ++ bl c := by simp [bl]
      have hsz : (s ++ ⟨#[10]⟩ ++ c).size = s.size + 1 + c.size := by
        rw [← bl_len, hb]
        simp
        omega
      have E := fun w h => @cut_ok (s ++ ⟨#[10]⟩ ++ c) (l ++ shiftT (s.size + 1) l') w h (by rw [hsz]; omega) (by rw [hb]; exact hZ)
      have hzl : (l ++ shiftT (s.size + 1) l').length = n + m := by rw [List.length_append, HN.out]; simp [shiftT, HM.out]
      rw [hzl] at E
      clear hZ hb
      have hZ1 : ∀ i x, l[i]? = some x → (l ++ shiftT (s.size + 1) l')[i]? = some x := fun i x hx => by
        rw [List.getElem?_append_left (List.getElem?_eq_some_iff.1 hx).1]; exact hx
      have hZ2 : ∀ j x, l'[j]? = some x → (l ++ shiftT (s.size + 1) l')[n + j]? = some (x.1, x.2 + (s.size + 1)) := fun j x hx => by
        rw [List.getElem?_append_right (by rw [HN.out]; omega), HN.out, Nat.add_sub_cancel_left]
        simp [shiftT, hx]
      have Z1 := Lib.hid hZ1
      have Z2 := Lib.hid hZ2
      clear hZ1 hZ2 hzl
      go_enter Tryd.func6, Tryd.ntmps6
      (go_wp2_with fail; go_fit (awake_at he); rintro e w1 ⟨rfl, b1⟩)
      (go_wp2_with fail; go_fit (C _ (he.ext b1)); rintro e w2 ⟨ao2, cv2, rfl, ht2, b2⟩)
      (go_wp2_with fail; go_fit (D _ ((he.ext b1).ext b2)); rintro e w3 ⟨ao3, cv3, rfl, ht3, b3⟩)
      have HE := Lib.hid (((he.ext b1).ext b2).ext b3)
      have HT2 := Lib.hid (ht2.ext b3)
      have HT3 := Lib.hid ht3
      have B3 := Lib.hid (Ext.trans' b1 (Ext.trans' b2 b3))
      clear ht2 ht3 b1 b2 b3 C D
      (go_wp2_with fail; go_fit (E _ HE.out); rintro e w4 ⟨ao4, cv4, rfl, ht4, b4⟩)
      have HT4 := Lib.hid ht4
      have B4 := Lib.hid b4
      clear ht4 b4 E
      go_wp2_with fail
      go_loopw [14] (fun v wr => ∃ k : Nat, k ≤ n + m ∧ v = .int .i64 k ∧ Hid (Below w4.heap.size w4 wr)) (fun v _ => n + m - (intOf v).toNat)
      case atStart => exact ⟨0, Nat.zero_le _, rfl, Lib.hid (Below.refl _ _)⟩
      case round =>
        obtain ⟨i, hi, rfl, HB⟩ := hrel
        by_cases hil : i < n
        · obtain ⟨x, hx⟩ : ∃ x, l[i]? = some x := ⟨_, List.getElem?_eq_getElem (by rw [HN.out]; exact hil)⟩
          obtain ⟨b, off, rfl, _, c0, c1, c2, c3, c4⟩ := ((HT2.out.ext B4.out).ext HB.out).cells hx
          obtain ⟨b', off', rfl, _, d0, d1, d2, d3, d4⟩ := (HT4.out.ext HB.out).cells (Z1.out i x hx)
          have hq := fun wq => tok_alike x wq
          generalize (x.1.kind : Int) = a0 at c0 d0 hq
          generalize (⟨x.1.text.toArray⟩ : ByteArray) = a1 at c1 d1 hq
          generalize (x.1.n : Int) = a2 at c2 d2 hq
          generalize x.1.opens = a3 at c3 d3 hq
          generalize (x.2 : Int) = a4 at c4 d4 hq
          clear hx
          have hlt : i < n + m := by omega
          go_wp2_with fail
          go_quiet (fail)
          go_wp2
          go_roundw
          case rel => exact ⟨i + 1, by omega, by go_num, Lib.hid (bel_drewN HB.out _)⟩
          case measure => simp [intOf]; omega
        by_cases hlt : i < n + m
        · obtain ⟨j, hij⟩ : ∃ j, i = n + j := ⟨i - n, by omega⟩
          have hj : j < m := by omega
          obtain ⟨x, hx⟩ : ∃ x, l'[j]? = some x := ⟨_, List.getElem?_eq_getElem (by rw [HM.out]; exact hj)⟩
          obtain ⟨b, off, rfl, hbb, c0, c1, c2, c3, c4⟩ := ((HT3.out.ext B4.out).ext HB.out).cells hx
          obtain ⟨b', off', rfl, hbb', d0, d1, d2, d3, d4⟩ := (HT4.out.ext HB.out).cells (k := i) (x := (x.1, x.2 + (s.size + 1))) (by rw [hij]; exact Z2.out j x hx)
          have hq := fun wq => tok_alike (x.1, x.2 + (s.size + 1)) wq
          have hx2 : x.2 ≤ 4096 := cut_place HY.out (List.mem_of_getElem? hx)
          simp only at d0 d1 d2 d3 d4 hq
          generalize (x.1.kind : Int) = a0 at c0 d0 hq
          generalize (⟨x.1.text.toArray⟩ : ByteArray) = a1 at c1 d1 hq
          generalize (x.1.n : Int) = a2 at c2 d2 hq
          generalize x.1.opens = a3 at c3 d3 hq
          generalize x.2 = p at c4 d4 hq hx2
          have hat : (p : Int) + s.size + 1 = ((p + (s.size + 1) : Nat) : Int) := by omega
          generalize ((p + (s.size + 1) : Nat) : Int) = p' at d4 hq hat
          have hsub : (i : Int) - n = j := by omega
          have hnil : ¬ (i : Int) < n := by omega
          clear hx hij
          have hbn : b' ≠ wr.heap.size := by omega
          have hbm : b ≠ wr.heap.size := by omega
          go_wp2_with fail
          go_quiet (fail)
          replace c0 : (wr.drewN nq).cell? ⟨b, off + j * 5, none⟩ = _ := c0
          replace c1 : (wr.drewN nq).cell? ⟨b, off + j * 5 + 1, none⟩ = _ := c1
          replace c2 : (wr.drewN nq).cell? ⟨b, off + j * 5 + 2, none⟩ = _ := c2
          replace c3 : (wr.drewN nq).cell? ⟨b, off + j * 5 + 3, none⟩ = _ := c3
          replace c4 : (wr.drewN nq).cell? ⟨b, off + j * 5 + 4, none⟩ = _ := c4
          replace d0 : (wr.drewN nq).cell? ⟨b', off' + i * 5, none⟩ = _ := d0
          replace d1 : (wr.drewN nq).cell? ⟨b', off' + i * 5 + 1, none⟩ = _ := d1
          replace d2 : (wr.drewN nq).cell? ⟨b', off' + i * 5 + 2, none⟩ = _ := d2
          replace d3 : (wr.drewN nq).cell? ⟨b', off' + i * 5 + 3, none⟩ = _ := d3
          replace d4 : (wr.drewN nq).cell? ⟨b', off' + i * 5 + 4, none⟩ = _ := d4
          replace hbb' : b' < (wr.drewN nq).heap.size := hbb'
          replace hbn : b' ≠ (wr.drewN nq).heap.size := hbn
          replace HB : Hid (Below w4.heap.size w4 (wr.drewN nq)) := Lib.hid (bel_drewN HB.out _)
          clear hbm hbb
          generalize wr.drewN nq = wy at *
          go_wp2_with fail
          go_quiet (fail)
          go_wp2
          go_roundw
          case rel =>
            refine ⟨i + 1, by omega, by go_num, Lib.hid (bel_drewN ?_ _)⟩
            have hsz4 := HB.out.size
            repeat' (first | with_reducible exact HB.out | (with_reducible refine Below.setCell ?_ ?_ _) | (with_reducible refine Below.alloc ?_ ?_ _) | (simp; done) | (simp; omega) | omega)
          case measure => simp [intOf]; omega
        · go_wp2
          go_ret
          exact ⟨rfl, Ext.trans' B3.out (Ext.trans' B4.out HB.out)⟩
theorem ctxP {w : World} (h : laidMetH Tryd.prog Rows.lexPartsRow.laid w) : Err w := err_of (text := [118, 97, 108, 117, 101, 32, 111, 117, 116, 32, 111, 102, 32, 114, 97, 110, 103, 101]) (by kernel_rfl) (by kernel_rfl) rfl h
namespace lexParts
open Go.ChangeShapes Go.WideShapes Go.ChangeAt Go.RowKit
theorem own : ownKnob Tryd.prog.godebug = none := by kernel_rfl
theorem laidOut : laidOutB Tryd.prog = true := by kernel_rfl
set_option linter.unusedVariables false
set_option maxRecDepth 100000 in
theorem lifted (os : Os) (started : os.Started) (H : Type) (enc : TypeId × Value → H) :
    ReturnsInHanded {} Tryd.checked os 6 .any (fun w args => (Rows.lexPartsSpec.pre enc Tryd.prog Tryd.f6 [] false w args ∧ laidMetH Tryd.prog Rows.lexPartsRow.laid w) ∧ sizedMet enc Tryd.prog Tryd.f6 (OpenSpec.ofChange Rows.lexPartsSpec) false w args)
      (Rows.lexPartsSpec.post enc Tryd.prog Tryd.f6 false true false false) := by
  refine returnsInHanded_of_change_and (C := Tryd.checked) (X := fun w _ => laidMetH Tryd.prog Rows.lexPartsRow.laid w) (fun _ _ _ hh h => h.of_heap hh) own started (by kernel_rfl) Tryd.func6
    (ChangeSpec.witness_shaped (enc := enc) (C := Tryd.checked) (os := os) (X := fun w _ => laidMetH Tryd.prog Rows.lexPartsRow.laid w) false (World.laidAll Tryd.prog os Rows.lexPartsRow.laid) #[.string ⟨#[]⟩, .string ⟨#[]⟩] 8 (World.laidAll_os _ _ _)
      (World.shaped_of_ZipB (by kernel_rfl) (by kernel_rfl)) (by kernel_rfl) (by kernel_rfl) (by kernel_rfl)
      (by rw [MakeChecks.laidMetH_plain _ _ _ (by kernel_rfl)]; exact laidMet_laidAll _ (by kernel_rfl) (by kernel_rfl))) ?_
  intro W base args ds gs before hval0 hW hcnd hsz0 hL _
  have hval : ∀ (j : Nat) t v, Tryd.f6.params[j]? = some t → args[j]? = some v → Value.okWide Tryd.prog W .any base t v := hval0
  have hW' := hW
  obtain ⟨p, q, hA0, hV, rfl, hfz, hnd⟩ := hW
  have hA : DataW.TrodAll enc Tryd.prog W 0 (fun _ => true) true Tryd.f6.params.toList args.toList ds p := hA0
  have hsz : (DataW.weightsEach Tryd.prog (Tryd.f6.params.toList ++ []) (ds ++ gs)).all (· ≤ reachBytes) = true := hsz0
  rw [Tryd.params6] at hA hval hsz
  obtain ⟨v0, vs0, d0, ds0, p0, q0, hargs, rfl, rfl, h0, r0⟩ := trodAll_cons hA
  obtain ⟨v1, vs1, d1, ds1, p1, q1, rfl, rfl, rfl, h1, r1⟩ := trodAll_cons r0
  obtain ⟨rfl, rfl, rfl⟩ := trodAll_nil r1
  obtain rfl : args = #[v0, v1] := by cases args; simp_all
  obtain ⟨rfl, rfl⟩ := trodVars_none hV
  clear hA0 hval0 hsz0
  have k0 := h0
  have lt0 := lt_of_trod h0
  have k1 := h1
  have lt1 := lt_of_trod h1
  obtain ⟨a0, rfl, e0, rfl, w0⟩ := ChangeMaps.open_string Tryd.underlying9 (hval 0 9 v0 rfl rfl) h0
  have s0 : a0.size ≤ 140737488351232 := weights_ok hsz (j := 0) (t := 9) (d := d0) rfl rfl _ (by rw [e0]; simp [DataW.weights])
  obtain ⟨a1, rfl, e1, rfl, w1⟩ := ChangeMaps.open_string Tryd.underlying9 (hval 1 9 v1 rfl rfl) h1
  have s1 : a1.size ≤ 140737488351232 := weights_ok hsz (j := 1) (t := 9) (d := d1) rfl rfl _ (by rw [e1]; simp [DataW.weights])
  refine (parts_at a0 s0 a1 s1 (ctxP hL)).mono fun e W' ⟨he, bel⟩ => ?_
  subst he
  exact ⟨_, rfl, _, _, _, [], _, [], hW', trodAll_mk1 (shut_bool Tryd.underlying4 _), (trodAll_cons_mk (Below.trod laidOut (by kernel_rfl) (of_decide_eq_true (by kernel_rfl)) k0 bel lt0) (trodAll_cons_mk (Below.trod laidOut (by kernel_rfl) (of_decide_eq_true (by kernel_rfl)) k1 bel lt1) trodAll_mk0)), rfl, bel.frame _, fun h => by cases h⟩
theorem proved : Rows.LexPartsSaid :=
  OpenClaim.holds_of_wide 6 Tryd.f6 rfl rfl rfl rfl rfl rfl rfl ⟨rfl, rfl, rfl, rfl, rfl⟩ rfl rfl rfl rfl rfl (by kernel_rfl) Tryd.func6 (by kernel_rfl)
    (of_decide_eq_true (by kernel_rfl)) (by unfold Func.isWrapper; first | (rw [if_pos (by decide +kernel)]; kernel_rfl) | (rw [if_neg (by decide +kernel)]; exact ⟨rfl, rfl⟩))
    (fun os started H enc _ => lifted os started H enc)
theorem carded : Rows.LexPartsCardSaid :=
  Claim7.holds_tied_plain_at .later [] [.data, .data, .data, .sentinel, .sentinel] true (true, "7e6691e419b95f883b478f787a14e41dbd4ca20f2e25028a77df4186af6ce731") true
    proved (fun _ h => by cases h) (by kernel_rfl) (fun _ h => by cases h) lexParts_row_tie rfl ⟨rfl, rfl⟩ (by kernel_rfl) rfl
    (fun f fn hf hfn => by
      obtain rfl : f = 6 := Option.some.inj ((show Tryd.prog.funcNamed "sizar/sizarlaw6.LexParts" = some 6 by kernel_rfl).symm.trans hf) |>.symm
      obtain rfl : fn = Tryd.f6 := (Option.some.inj (Tryd.func6.symm.trans hfn)).symm
      exact ⟨by kernel_rfl, fun j t ht => by
        rw [Tryd.params6] at ht
        have hm : t ∈ [9, 9] := by simpa using Array.mem_of_getElem? ht
        have hall : ([9, 9].all fun u => !Tryd.prog.wantsStandIn u) = true := by kernel_rfl
        exact (show Tryd.prog.wantsStandIn t = false by simpa using List.all_eq_true.1 hall t hm)⟩)
    (by kernel_rfl)
#print axioms carded
end lexParts

end Go.Proofs.YtdjdkhbaemjnnaaDoor
