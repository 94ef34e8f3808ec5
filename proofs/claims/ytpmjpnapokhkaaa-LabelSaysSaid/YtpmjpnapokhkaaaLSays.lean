/- LabelSays: for every n, a, b and s the program answers as the document's own answer does. No condition. -/
import Derived.Test.YtpmjpnapokhkaaaRefD
import Derived.Test.YtpmjpnapokhkaaaOpen
import Derived.ChangeMaps5
namespace Go.Proofs.Ytpmjpnapokhkaaa
open Go.RowKit
set_option linter.unusedVariables false
set_option maxRecDepth 100000
theorem join2 (x y b : Nat) (t : TypeId) (w : World) (hb : b = w.heap.size) (hx : x < 18446744073709551616) (hy : y < 18446744073709551616) :
    Calls Try.prog 13 #[.slice (some ⟨b, 0, none⟩) 2 2] (w.alloc (.cells #[.int .u64 x, .int .u64 y] t)) fun e w' => e = .returned (.int .u64 (x ||| y : Nat)) ∧ w.alloc (.cells #[.int .u64 x, .int .u64 y] t) = w' := by
  subst hb
  have h := join_some w.heap.size 0 2 2 [x, y] (w.alloc (.cells #[.int .u64 x, .int .u64 y] t)) rfl (by decide) (by simp [hx, hy]) (fun i z hz => by
    rw [World.cell?_alloc_at _ _ _ _ rfl]
    match i, hz with
    | 0, hz => simp at hz; simp [hz]
    | 1, hz => simp at hz; simp [hz])
  exact h.mono fun e w' ⟨h1, h2⟩ => ⟨by rw [h1]; simp [joinL], h2⟩
theorem leq_or (a b : Nat) : leq a b = (a ||| b == b) := by
  have e : leq a b = true ↔ (a ||| b == b) = true := by
    rw [leq_iff, beq_iff_eq]
    constructor
    · intro h
      apply Nat.eq_of_testBit_eq
      intro i
      rw [Nat.testBit_or]
      cases ha : a.testBit i
      · simp
      · simp [h i ha]
    · intro h i hi
      rw [← h, Nat.testBit_or, hi]; simp
  cases h1 : leq a b <;> cases h2 : (a ||| b == b) <;> simp [h1, h2] at e ⊢
set_option maxHeartbeats 8000000 in
theorem says_core {w : World} {ao : Option Addr} {n cap : Nat} {ss : List ByteArray} {s T : ByteArray} {a b l o m t : Int} {p g f q : Bool} (h : Strs w (.slice ao n cap) ss) (hn : n ≤ 70) (hs : s.size ≤ 300)
    (PA : ∀ w, Strs w (.slice ao n cap) ss → Calls Try.prog 5 #[.slice ao n cap, .string s] w fun e w' => e = .returned (.tuple #[.int .u64 l, .bool p]) ∧ w = w')
    (PR : ∀ w, Strs w (.slice ao n cap) ss → Calls Try.prog 6 #[.slice ao n cap, .string s] w fun e w' => e = .returned (.tuple #[.int .u64 l, .bool p]) ∧ Below w.heap.size w w')
    (GL : ∀ w, Strs w (.slice ao n cap) ss → Calls Try.prog 8 #[.slice ao n cap] w fun e w' => e = .returned (.bool g) ∧ w = w')
    (GR : ∀ w, Strs w (.slice ao n cap) ss → Calls Try.prog 7 #[.slice ao n cap] w fun e w' => e = .returned (.bool g) ∧ Below w.heap.size w w')
    (FL : ∀ w, Strs w (.slice ao n cap) ss → Calls Try.prog 9 #[.slice ao n cap, .int .u64 a] w fun e w' => e = .returned (.bool f) ∧ w = w')
    (FR : ∀ w, Strs w (.slice ao n cap) ss → Calls Try.prog 10 #[.slice ao n cap, .int .u64 a] w fun e w' => e = .returned (.bool f) ∧ Below w.heap.size w w')
    (TL : ∀ w, Strs w (.slice ao n cap) ss → Calls Try.prog 11 #[.slice ao n cap, .int .u64 a] w fun e w' => e = .returned (.string T) ∧ Below w.heap.size w w')
    (TR : ∀ w, Strs w (.slice ao n cap) ss → Calls Try.prog 12 #[.slice ao n cap, .int .u64 a] w fun e w' => e = .returned (.string T) ∧ Below w.heap.size w w')
    (J : ∀ (wj : World) (c : Nat), c = wj.heap.size → Calls Try.prog 13 #[.slice (some ⟨c, 0, none⟩) 2 2] (wj.alloc (.cells #[.int .u64 a, .int .u64 b] 26)) fun e w' => e = .returned (.int .u64 o) ∧ wj.alloc (.cells #[.int .u64 a, .int .u64 b] 26) = w')
    (M : ∀ w, Calls Try.prog 14 #[.int .u64 a, .int .u64 b] w fun e w' => e = .returned (.int .u64 m) ∧ w = w')
    (LE : ∀ w, Calls Try.prog 15 #[.int .u64 a, .int .u64 b] w fun e w' => e = .returned (.bool q) ∧ w = w')
    (TO : ∀ w, Strs w (.slice ao n cap) ss → Calls Try.prog 16 #[.slice ao n cap] w fun e w' => e = .returned (.int .u64 t) ∧ w = w')
    (ho : bits .or .u64 a b = o) (hm : bits .and .u64 a b = m) (hq : q = (o == b)) (ht : if g = true then n ≤ 64 ∧ t = ((2 ^ n - 1 : Nat) : Int) else t = 0) :
    Calls Try.prog 3 #[.slice ao n cap, .int .u64 a, .int .u64 b, .string s] w (IsBool w true) := by
  have hq2 : (q == (o == b)) = true := by rw [hq]; simp
  cases g
  · obtain rfl : t = 0 := by simpa using ht
    go_enter Try.func3, Try.ntmps3
    (go_wp2_with fail; go_fit (awake_any _); rintro e w1 ⟨rfl, b1⟩)
    have S1 := h.ext b1
    (go_wp2_with fail; go_fit (PA _ S1); rintro e w' ⟨rfl, rfl⟩)
    (go_wp2_with fail; go_fit (PR _ S1); rintro e w2 ⟨rfl, b2⟩)
    have S2 := S1.ext b2
    (go_wp2_with fail; go_fit (GR _ S2); rintro e w3 ⟨rfl, b3⟩)
    have S3 := S2.ext b3
    (go_wp2_with fail; go_fit (GL _ S3); rintro e w' ⟨rfl, rfl⟩)
    (go_wp2_with fail; go_fit (GR _ S3); rintro e w4 ⟨rfl, b4⟩)
    have S4 := S3.ext b4
    (go_wp2_with fail; go_fit (FL _ S4); rintro e w' ⟨rfl, rfl⟩)
    (go_wp2_with fail; go_fit (FR _ S4); rintro e w5 ⟨rfl, b5⟩)
    have S5 := S4.ext b5
    (go_wp2_with fail; go_fit (TL _ S5); rintro e w6 ⟨rfl, b6⟩)
    have S6 := S5.ext b6
    (go_wp2_with fail; go_fit (TR _ S6); rintro e w7 ⟨rfl, b7⟩)
    have S7 := S6.ext b7
    (go_wp2_with fail; go_fit (J _ _ rfl); rintro e w' ⟨rfl, rfl⟩)
    (go_wp2_with fail; go_fit (M _); rintro e w' ⟨rfl, rfl⟩)
    (go_wp2_with fail; go_fit (LE _); rintro e w' ⟨rfl, rfl⟩)
    (go_wp2_with fail; go_fit (TO _ (S7.ext ((Below.refl _ _).alloc (Nat.le_refl _) _))); rintro e w' ⟨rfl, rfl⟩)
    go_wp2
    go_ret
    exact ⟨rfl, (Ext.trans' b1 (Ext.trans' b2 (Ext.trans' b3 (Ext.trans' b4 (Ext.trans' b5 (Ext.trans' b6 b7)))))).alloc (by have := (Ext.trans' b1 (Ext.trans' b2 (Ext.trans' b3 (Ext.trans' b4 (Ext.trans' b5 (Ext.trans' b6 b7)))))).size; omega) _⟩
  · have HT : Hid (n ≤ 64 ∧ t = ((2 ^ n - 1 : Nat) : Int)) := Lib.hid (by simpa using ht)
    clear ht
    go_enter Try.func3, Try.ntmps3
    (go_wp2_with fail; go_fit (awake_any _); rintro e w1 ⟨rfl, b1⟩)
    have S1 := h.ext b1
    (go_wp2_with fail; go_fit (PA _ S1); rintro e w' ⟨rfl, rfl⟩)
    (go_wp2_with fail; go_fit (PR _ S1); rintro e w2 ⟨rfl, b2⟩)
    have S2 := S1.ext b2
    (go_wp2_with fail; go_fit (GR _ S2); rintro e w3 ⟨rfl, b3⟩)
    have S3 := S2.ext b3
    go_wp2
    go_loop [16, 17] (fun x i => ∃ (k : Nat) (z : Int), k ≤ n ∧ i = .int .i64 k ∧ x = .int .u64 z ∧ Hid (z = ((2 ^ k - 1 : Nat) : Int))) (fun _ i => n - (intOf i).toNat)
    case atStart => exact ⟨0, 0, by omega, rfl, rfl, Lib.hid rfl⟩
    case round =>
      obtain ⟨k, z, hk, rfl, rfl, HZ⟩ := hrel
      by_cases hlt : k < n
      · obtain ⟨y, y', hy, hy', HY⟩ : ∃ y y' : Int, IntKind.u64.wrap (z * 2) = y ∧ IntKind.u64.wrap (y + 1) = y' ∧ Hid (y' = ((2 ^ (k + 1) - 1 : Nat) : Int)) := by
          have h1 : 2 ^ (k + 1) ≤ 18446744073709551616 := Nat.pow_le_pow_right (by decide) (show k + 1 ≤ 64 by have := HT.out.1; omega)
          have h2 : 2 ^ (k + 1) = 2 ^ k * 2 := Nat.pow_succ 2 k
          have h3 : 0 < 2 ^ k := Nat.two_pow_pos k
          refine ⟨_, _, rfl, rfl, Lib.hid ?_⟩
          rw [HZ.out, IntKind.wrap_u64, IntKind.wrap_u64]
          omega
        go_wp2
        go_round
        case rel => exact ⟨k + 1, y', by omega, by go_num, rfl, HY⟩
        case measure => simp [intOf]; omega
      · obtain rfl : k = n := by omega
        obtain rfl : z = t := by rw [HZ.out, HT.out.2]
        clear HZ HT
        (go_wp2_with fail; go_fit (GL _ S3); rintro e w' ⟨rfl, rfl⟩)
        (go_wp2_with fail; go_fit (GR _ S3); rintro e w4 ⟨rfl, b4⟩)
        have S4 := S3.ext b4
        (go_wp2_with fail; go_fit (FL _ S4); rintro e w' ⟨rfl, rfl⟩)
        (go_wp2_with fail; go_fit (FR _ S4); rintro e w5 ⟨rfl, b5⟩)
        have S5 := S4.ext b5
        (go_wp2_with fail; go_fit (TL _ S5); rintro e w6 ⟨rfl, b6⟩)
        have S6 := S5.ext b6
        (go_wp2_with fail; go_fit (TR _ S6); rintro e w7 ⟨rfl, b7⟩)
        have S7 := S6.ext b7
        (go_wp2_with fail; go_fit (J _ _ rfl); rintro e w' ⟨rfl, rfl⟩)
        (go_wp2_with fail; go_fit (M _); rintro e w' ⟨rfl, rfl⟩)
        (go_wp2_with fail; go_fit (LE _); rintro e w' ⟨rfl, rfl⟩)
        (go_wp2_with fail; go_fit (TO _ (S7.ext ((Below.refl _ _).alloc (Nat.le_refl _) _))); rintro e w' ⟨rfl, rfl⟩)
        go_wp2
        go_ret
        exact ⟨rfl, (Ext.trans' b1 (Ext.trans' b2 (Ext.trans' b3 (Ext.trans' b4 (Ext.trans' b5 (Ext.trans' b6 b7)))))).alloc (by have := (Ext.trans' b1 (Ext.trans' b2 (Ext.trans' b3 (Ext.trans' b4 (Ext.trans' b5 (Ext.trans' b6 b7)))))).size; omega) _⟩
theorem says_at {w : World} {v : Value} {ss : List ByteArray} (h : Strs w v ss) (a : Int) (wa : (Lit.int .u64 a).wf = true) (b : Int) (wb : (Lit.int .u64 b).wf = true) (s : ByteArray) (hs : s.size ≤ 140737488351232) : Calls Try.prog 3 #[v, .int .u64 a, .int .u64 b, .string s] w (IsBool w true) := by
  have H := h
  obtain ⟨ha, ha'⟩ := bounds_u64 wa
  obtain ⟨hb, hb'⟩ := bounds_u64 wb
  obtain ⟨a, rfl⟩ := Int.eq_ofNat_of_zero_le ha
  obtain ⟨b, rfl⟩ := Int.eq_ofNat_of_zero_le hb
  have hA : a < 18446744073709551616 := by omega
  have hB : b < 18446744073709551616 := by omega
  obtain ⟨ao, cap, rfl, h2, h3, h4, h5, h6⟩ := h
  by_cases h70 : 70 < ss.length
  · clear ha ha' hb hb' wa wb hA hB
    generalize (a : Int) = a
    generalize (b : Int) = b
    go_enter Try.func3, Try.ntmps3
    (go_wp2_with fail; go_fit (awake_any _); rintro e w1 ⟨rfl, b1⟩)
    go_wp2
    go_ret
    exact ⟨rfl, b1⟩
  by_cases h300 : 300 < s.size
  · clear ha ha' hb hb' wa wb hA hB
    generalize (a : Int) = a
    generalize (b : Int) = b
    go_enter Try.func3, Try.ntmps3
    (go_wp2_with fail; go_fit (awake_any _); rintro e w1 ⟨rfl, b1⟩)
    go_wp2
    go_ret
    exact ⟨rfl, b1⟩
  refine says_core (l := ((parse (ss.map bl) (bl s)).1 : Nat)) (p := (parse (ss.map bl) (bl s)).2) (g := goodNames (ss.map bl)) (f := fits (ss.map bl) a) (T := ⟨(text (ss.map bl) a).toArray⟩) (o := ((a ||| b : Nat) : Int)) (m := ((a &&& b : Nat) : Int)) (q := leq a b) (t := ((top (ss.map bl) : Nat) : Int)) H (by omega) (by omega)
    (fun w h => parse_any s hs h) (fun w h => by have := @rparse_any _ ss w s (by omega) h; rw [rParse_eq] at this; exact this) (fun w h => good_any h) (fun w h => rgood_any h) (fun w h => fits_any a hA h) (fun w h => rfits_any a hA h) (fun w h => text_any a hA h) (fun w h => rtext_any a hA h)
    (fun wj c hc => join2 a b c _ wj hc hA hB) (fun w => meet_any a b w hA hB) (fun w => leq_any a b w hA hB) (fun w h => top_any h) (u64_or_nat a b hA hB) (u64_and_nat a b hA hB) ?_ ?_
  · rw [leq_or]
    by_cases e : a ||| b = b
    · rw [e]; simp
    · rw [beq_false_of_ne e, beq_false_of_ne (by omega)]
  · cases hg : goodNames (ss.map bl)
    · simp [top, hg]
    · have := (goodNames_len hg).2
      rw [List.length_map] at this
      simp only [if_true]
      refine ⟨this, ?_⟩
      simp [top, hg]
theorem says_law {v : Value} {ss : List ByteArray} {w : World} (h : Strs w v ss) (a : Int) (wa : (Lit.int .u64 a).wf = true) (b : Int) (wb : (Lit.int .u64 b).wf = true) (s : ByteArray) (hs : s.size ≤ 140737488351232) : Calls Try.prog 3 #[v, .int .u64 a, .int .u64 b, .string s] w (IsBool w true) := says_at h a wa b wb s hs
namespace labelSays
open Go.ChangeShapes Go.WideShapes Go.ChangeAt Go.RowKit
theorem own : ownKnob Try.prog.godebug = none := by kernel_rfl
theorem laidOut : laidOutB Try.prog = true := by kernel_rfl
set_option linter.unusedVariables false
set_option maxRecDepth 100000 in
theorem lifted (os : Os) (started : os.Started) (H : Type) (enc : TypeId × Value → H) :
    ReturnsInHanded {} Try.checked os 3 .any (Rows.labelSaysSpec.pre6 enc Try.prog Try.f3 Rows.labelSaysRow.domain false) (Rows.labelSaysSpec.post enc Try.prog Try.f3 false true false false) := by
  refine returnsInHanded_of_change_sized (C := Try.checked) own started (by kernel_rfl) Try.func3
    (ChangeSpec.witness6 (enc := enc) (C := Try.checked) false ⟨#[], #[.slice none 0 0, .int .u64 0, .int .u64 0, .string ⟨#[]⟩], []⟩ 8 (by kernel_rfl) (by kernel_rfl) (by kernel_rfl) (by kernel_rfl)) ?_
  intro W base args ds gs before hval0 hW hcnd hsz0 _
  have hval : ∀ (j : Nat) t v, Try.f3.params[j]? = some t → args[j]? = some v → Value.okWide Try.prog W .any base t v := hval0
  have hW' := hW
  obtain ⟨p, q, hA0, hV, rfl, hfz, hnd⟩ := hW
  have hA : DataW.TrodAll enc Try.prog W 0 (fun _ => true) true Try.f3.params.toList args.toList ds p := hA0
  have hsz : (DataW.weightsEach Try.prog (Try.f3.params.toList ++ []) (ds ++ gs)).all (· ≤ reachBytes) = true := hsz0
  rw [Try.params3] at hA hval hsz
  obtain ⟨v0, vs0, d0, ds0, p0, q0, hargs, rfl, rfl, h0, r0⟩ := trodAll_cons hA
  obtain ⟨v1, vs1, d1, ds1, p1, q1, rfl, rfl, rfl, h1, r1⟩ := trodAll_cons r0
  obtain ⟨v2, vs2, d2, ds2, p2, q2, rfl, rfl, rfl, h2, r2⟩ := trodAll_cons r1
  obtain ⟨v3, vs3, d3, ds3, p3, q3, rfl, rfl, rfl, h3, r3⟩ := trodAll_cons r2
  obtain ⟨rfl, rfl, rfl⟩ := trodAll_nil r3
  obtain rfl : args = #[v0, v1, v2, v3] := by cases args; simp_all
  obtain ⟨rfl, rfl⟩ := trodVars_none hV
  clear hA0 hval0 hsz0
  have k0 := h0
  have lt0 := lt_of_trod h0
  have k1 := h1
  have lt1 := lt_of_trod h1
  have k2 := h2
  have lt2 := lt_of_trod h2
  have k3 := h3
  have lt3 := lt_of_trod h3
  obtain ⟨a0, w0⟩ := strs_of_trod Try.underlying22 Try.underlying9 (by kernel_rfl) (by kernel_rfl) (by obtain ⟨x, y, z, e⟩ := okWide_slice Try.underlying22 (hval 0 22 v0 rfl rfl); exact ⟨x, y, z, e⟩) h0 (weights_ok hsz (j := 0) (t := 22) (d := d0) rfl rfl)
  obtain ⟨a1, rfl, rfl, rfl, w1⟩ := open_int Try.underlying23 (hval 1 23 v1 rfl rfl) h1
  obtain ⟨a2, rfl, rfl, rfl, w2⟩ := open_int Try.underlying23 (hval 2 23 v2 rfl rfl) h2
  obtain ⟨a3, rfl, e3, rfl, w3⟩ := ChangeMaps.open_string Try.underlying9 (hval 3 9 v3 rfl rfl) h3
  have s3 : a3.size ≤ 140737488351232 := weights_ok hsz (j := 3) (t := 9) (d := d3) rfl rfl _ (by rw [e3]; simp [DataW.weights])
  refine (says_law w0 a1 w1 a2 w2 a3 s3).mono fun e W' ⟨he, bel⟩ => ?_
  subst he
  exact ⟨_, rfl, _, _, _, [], _, [], hW', trodAll_mk1 (shut_bool Try.underlying4 _), (trodAll_cons_mk (Below.trod laidOut (by kernel_rfl) (of_decide_eq_true (by kernel_rfl)) k0 bel lt0) (trodAll_cons_mk (Below.trod laidOut (by kernel_rfl) (of_decide_eq_true (by kernel_rfl)) k1 bel lt1) (trodAll_cons_mk (Below.trod laidOut (by kernel_rfl) (of_decide_eq_true (by kernel_rfl)) k2 bel lt2) (trodAll_cons_mk (Below.trod laidOut (by kernel_rfl) (of_decide_eq_true (by kernel_rfl)) k3 bel lt3) trodAll_mk0)))), rfl, bel.frame _, fun h => by cases h⟩
theorem proved : Rows.LabelSaysSaid :=
  OpenClaim.holds_of_wide 3 Try.f3 rfl rfl rfl rfl rfl rfl rfl ⟨rfl, rfl, rfl, rfl, rfl⟩ rfl rfl rfl rfl rfl (by kernel_rfl) Try.func3 (by kernel_rfl)
    (of_decide_eq_true (by kernel_rfl)) (by unfold Func.isWrapper; first | (rw [if_pos (by decide +kernel)]; kernel_rfl) | (rw [if_neg (by decide +kernel)]; exact ⟨rfl, rfl⟩))
    (fun os started H enc _ => lifted os started H enc)
#print axioms proved
end labelSays

end Go.Proofs.Ytpmjpnapokhkaaa
