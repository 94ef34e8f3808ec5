/- LabelLattice: joins and meets bound, texts are read back, Levels tells each label once. No condition. -/
import Derived.Test.YtolfbhanglkpkaaLattP
import Derived.Deep.DeepCutAuto
namespace Go.Proofs.Ytolfbhanglkpkaa
open Go.RowKit
set_option maxRecDepth 100000 in
set_option maxHeartbeats 2000000 in
theorem lattice_core (a b c x y z : Nat) (w : World) (ha : bits .and .u64 (a : Int) 63 = (x : Int)) (hb : bits .and .u64 (b : Int) 63 = (y : Int)) (hc : bits .and .u64 (c : Int) 63 = (z : Int)) (hx : x < 64) (hy : y < 64) (hz : z < 64) :
    Calls Try.prog 5 #[.int .u64 a, .int .u64 b, .int .u64 c] w (IsBool w true) := by
  obtain ⟨s1, s2, s3⟩ := six_at hx
  have ho : x ||| y < 64 := Nat.or_lt_two_pow (n := 6) hx hy
  have hn : x &&& y < 64 := Nat.lt_of_le_of_lt Nat.and_le_left hx
  have l1 := leq_or_left x y
  have l2 := leq_or_right x y
  have l3 := and_leq_left x y
  have l4 := and_leq_right x y
  have l5 := @leq_join x y z
  have l6 := @leq_meet x y z
  have J2 : Hid (∀ (wj : World) (b : Nat), b = wj.heap.size → Calls Try.prog 16 #[.slice (some ⟨b, 0, none⟩) 2 2] (wj.alloc (.cells #[.int .u64 x, .int .u64 y] 27)) fun e w' => e = .returned (.int .u64 (x ||| y : Nat)) ∧ wj.alloc (.cells #[.int .u64 x, .int .u64 y] 27) = w') := Lib.hid fun wj b hb => join2 _ _ _ _ wj hb (by omega) (by omega)
  have MM : Hid (∀ wj : World, Calls Try.prog 17 #[.int .u64 x, .int .u64 y] wj fun e w' => e = .returned (.int .u64 (x &&& y : Nat)) ∧ wj = w') := Lib.hid fun wj => meet_any _ _ _ (by omega) (by omega)
  have J3 : Hid (∀ (wj : World) (b : Nat), b = wj.heap.size → Calls Try.prog 16 #[.slice (some ⟨b, 0, none⟩) 3 3] (wj.alloc (.cells #[.int .u64 x, .int .u64 y, .int .u64 z] 27)) fun e w' => e = .returned (.int .u64 (x ||| y ||| z : Nat)) ∧ wj.alloc (.cells #[.int .u64 x, .int .u64 y, .int .u64 z] 27) = w') := Lib.hid fun wj b hb => join3 _ _ _ _ _ wj hb (by omega) (by omega) (by omega)
  have J4 : Hid (∀ (wj : World) (b : Nat), b = wj.heap.size → Calls Try.prog 16 #[.slice (some ⟨b, 0, none⟩) 2 2] (wj.alloc (.cells #[.int .u64 z, .int .u64 (x ||| y : Nat)] 27)) fun e w' => e = .returned (.int .u64 (x ||| y ||| z : Nat)) ∧ wj.alloc (.cells #[.int .u64 z, .int .u64 (x ||| y : Nat)] 27) = w') := Lib.hid fun wj b hb => by rw [Nat.or_comm (x ||| y) z]; exact join2 _ _ _ _ wj hb (by omega) (by omega)
  obtain ⟨tx, htx⟩ : ∃ t, text6 x = t := ⟨_, rfl⟩
  have hxe : text (abcdef.map bl) x = bl tx := by rw [← htx]; rfl
  rw [htx] at s1 s2
  have HT := Lib.hid hxe; have S1 := Lib.hid s1; have S3 := Lib.hid s3; clear hxe s1 s3 htx
  have HCO : Hid (∀ i, i < 64 → countOk x i = true) := Lib.hid fun i hi => countOk_at hx hi
  have HLEN : Hid ((subsBelow x 0).length = 0 ∧ (subs x).length = (subsBelow x 64).length) := Lib.hid ⟨rfl, rfl⟩
  have hsl : (subs x).length ≤ 64 := subsBelow_len x 64
  have HSL : Hid (∀ q ∈ subs x, q < 64) := Lib.hid (subs_lt x)
  generalize x ||| y ||| z = o3 at *
  generalize x ||| y = o at *
  generalize x &&& y = n at *
  go_enter Try.func5, Try.ntmps5
  (go_wp2_with fail; go_fit (awake_any _); rintro e w1 ⟨rfl, b1⟩)
  (go_wp2_with fail; go_fit (J2.out _ _ (by simp)); rintro e w2 ⟨rfl, rfl⟩)
  (go_wp2_with fail; go_fit (MM.out _); rintro e w2 ⟨rfl, rfl⟩)
  have hst := (strs_laid w1 9 abcdef 6 rfl (by decide) (by decide))
  have HST := Lib.hid (hst.ext ((Below.refl _ _).alloc (Nat.le_refl _) (.cells #[.int .u64 x, .int .u64 y] 27))); clear hst
  (go_wp2_with fail; go_fit (text_at x tx HST.out (by omega) HT.out); rintro e w3 ⟨rfl, b3⟩)
  have HS3 := Lib.hid (HST.out.ext b3)
  (go_wp2_with fail; go_fit (parse_at tx x true HS3.out s2 S1.out); rintro e w4 ⟨rfl, rfl⟩)
  have hw3 : Below w.heap.size w w3 := Ext.trans' b1 (Below.trans (((Below.refl _ _).alloc (Nat.le_refl _) _).alloc (by simp) _) (b3.mono (by simp; omega)))
  clear b1 b3
  go_upto_region 7 with (fail)
  go_cut [104] (fun s wx => s = .bool false ∧ wx = w3)
  case first =>
    go_wp2_with (go_at_call 18; go_fit (leq_any _ _ _ (by omega) (by omega)); rintro e w' ⟨rfl, rfl⟩)
    all_goals (go_meet; exact ⟨rfl, rfl⟩)
  case rest =>
    obtain ⟨rfl, hwc⟩ := hcut
    subst hwc
    have hlv := @levels_any _ abcdef _ x hx HS3.out
    rw [S3.out] at hlv
    simp only [if_true] at hlv
    have HLV := Lib.hid hlv; clear hlv
    clear l1 l2 l3 l4 l5 l6
    (go_wp2_with fail; go_fit (HLV.out); rintro e w5 ⟨v5, rfl, h5, b5⟩)
    have hw5 := Ext.trans' hw3 b5
    obtain ⟨a5, cap5, rfl, hcap5, _, _, _, hc5⟩ := h5
    have HC : Hid (∀ (j q : Nat), (subs x)[j]? = some q → ∃ b off, a5 = some ⟨b, off, none⟩ ∧ w5.cell? ⟨b, off + j, none⟩ = some (.int .u64 q)) := Lib.hid fun j q hq => by
      rcases hc5 with h0 | ⟨b, off, e, _, h⟩
      · rw [h0] at hq; simp at hq
      · exact ⟨b, off, e, h j q hq⟩
    clear hc5
    go_wp2_with fail
    go_loop [16, 17] (fun k i => ∃ j : Nat, j ≤ 64 ∧ i = .int .u64 j ∧ k = .int .i64 (subsBelow x j).length) (fun _ i => 64 - (intOf i).toNat)
    case atStart => exact ⟨0, by omega, rfl, rfl⟩
    case round =>
      obtain ⟨j, hj, rfl, rfl⟩ := hrel
      have hbl := subsBelow_len x j
      by_cases hlt : j < 64
      · have hco := HCO.out j hlt
        unfold countOk at hco
        cases hl : leq j x
        · rw [hl] at hco
          have HN := Lib.hid (show (subsBelow x (j + 1)).length = (subsBelow x j).length by simpa using hco)
          clear hco
          generalize (subsBelow x j).length = cnt at *
          go_wp2_with (go_at_call 18; go_fit (leq_any _ _ _ (by omega) (by omega)); rintro e w' ⟨rfl, rfl⟩)
          go_round
          case rel => exact ⟨j + 1, by omega, by go_num, by rw [HN.out]⟩
          case measure => simp [intOf]; omega
        · rw [hl] at hco
          simp at hco
          have HN := Lib.hid hco.2
          obtain ⟨b, off, rfl, hcx⟩ := HC.out _ _ hco.1
          have hlt2 : (subsBelow x j).length < (subs x).length := (List.getElem?_eq_some_iff.1 hco.1).1
          clear hco
          generalize (subsBelow x j).length = cnt at *
          generalize (subs x).length = len at *
          go_wp2_with (go_at_call 18; go_fit (leq_any _ _ _ (by omega) (by omega)); rintro e w' ⟨rfl, rfl⟩)
          go_round
          case rel => exact ⟨j + 1, by omega, by go_num, by rw [HN.out]; go_num⟩
          case measure => simp [intOf]; omega
      · have hj64 : j = 64 := by omega
        have hk : (subsBelow x j).length = (subs x).length := by rw [hj64]; exact HLEN.out.2.symm
        rw [hk]
        clear hk hj64
        generalize (subs x).length = len at *
        (go_wp2_with fail; go_fit (J3.out _ _ (by simp)); rintro e w6 ⟨rfl, rfl⟩)
        (go_wp2_with fail; go_fit (J4.out _ _ (by simp)); rintro e w7 ⟨rfl, rfl⟩)
        go_wp2
        go_ret
        exact ⟨rfl, (hw5.alloc hw5.size _).alloc (by have := hw5.size; simp; omega) _⟩
theorem lattice_walk (a : Int) (wa : (Lit.int .u64 a).wf = true) (b : Int) (wb : (Lit.int .u64 b).wf = true) (c : Int) (wc : (Lit.int .u64 c).wf = true) {w : World} : Calls Try.prog 5 #[.int .u64 a, .int .u64 b, .int .u64 c] w (IsBool w true) := by
  obtain ⟨ha, ha'⟩ := bounds_u64 wa
  obtain ⟨hb, hb'⟩ := bounds_u64 wb
  obtain ⟨hc, hc'⟩ := bounds_u64 wc
  obtain ⟨a, rfl⟩ := Int.eq_ofNat_of_zero_le ha
  obtain ⟨b, rfl⟩ := Int.eq_ofNat_of_zero_le hb
  obtain ⟨c, rfl⟩ := Int.eq_ofNat_of_zero_le hc
  have e := fun x : Nat => fun h : x < 18446744073709551616 => u64_and_nat x 63 h (by decide)
  have l := fun x : Nat => (Nat.lt_of_le_of_lt (Nat.and_le_right (n := x) (m := 63)) (by decide) : x &&& 63 < 64)
  exact lattice_core a b c (a &&& 63) (b &&& 63) (c &&& 63) w (e a (by omega)) (e b (by omega)) (e c (by omega)) (l a) (l b) (l c)
namespace labelLattice
open Go.ChangeShapes Go.WideShapes Go.ChangeAt Go.RowKit
theorem own : ownKnob Try.prog.godebug = none := by kernel_rfl
theorem laidOut : laidOutB Try.prog = true := by kernel_rfl
set_option linter.unusedVariables false
set_option maxRecDepth 100000 in
theorem lifted (os : Os) (started : os.Started) (H : Type) (enc : TypeId × Value → H) :
    ReturnsInHanded {} Try.checked os 5 .any (Rows.labelLatticeSpec.pre6 enc Try.prog Try.f5 Rows.labelLatticeRow.domain false) (Rows.labelLatticeSpec.post enc Try.prog Try.f5 false true false false) := by
  refine returnsInHanded_of_change_sized (C := Try.checked) own started (by kernel_rfl) Try.func5
    (ChangeSpec.witness6 (enc := enc) (C := Try.checked) false ⟨#[], #[.int .u64 0, .int .u64 0, .int .u64 0], []⟩ 8 (by kernel_rfl) (by kernel_rfl) (by kernel_rfl) (by kernel_rfl)) ?_
  intro W base args ds gs before hval0 hW hcnd hsz0 _
  have hval : ∀ (j : Nat) t v, Try.f5.params[j]? = some t → args[j]? = some v → Value.okWide Try.prog W .any base t v := hval0
  have hW' := hW
  obtain ⟨p, q, hA0, hV, rfl, hfz, hnd⟩ := hW
  have hA : DataW.TrodAll enc Try.prog W 0 (fun _ => true) true Try.f5.params.toList args.toList ds p := hA0
  have hsz : (DataW.weightsEach Try.prog (Try.f5.params.toList ++ []) (ds ++ gs)).all (· ≤ reachBytes) = true := hsz0
  rw [Try.params5] at hA hval hsz
  obtain ⟨v0, vs0, d0, ds0, p0, q0, hargs, rfl, rfl, h0, r0⟩ := trodAll_cons hA
  obtain ⟨v1, vs1, d1, ds1, p1, q1, rfl, rfl, rfl, h1, r1⟩ := trodAll_cons r0
  obtain ⟨v2, vs2, d2, ds2, p2, q2, rfl, rfl, rfl, h2, r2⟩ := trodAll_cons r1
  obtain ⟨rfl, rfl, rfl⟩ := trodAll_nil r2
  obtain rfl : args = #[v0, v1, v2] := by cases args; simp_all
  obtain ⟨rfl, rfl⟩ := trodVars_none hV
  clear hA0 hval0 hsz0
  have k0 := h0
  have lt0 := lt_of_trod h0
  have k1 := h1
  have lt1 := lt_of_trod h1
  have k2 := h2
  have lt2 := lt_of_trod h2
  obtain ⟨a0, rfl, rfl, rfl, w0⟩ := open_int Try.underlying26 (hval 0 26 v0 rfl rfl) h0
  obtain ⟨a1, rfl, rfl, rfl, w1⟩ := open_int Try.underlying26 (hval 1 26 v1 rfl rfl) h1
  obtain ⟨a2, rfl, rfl, rfl, w2⟩ := open_int Try.underlying26 (hval 2 26 v2 rfl rfl) h2
  refine (lattice_walk a0 w0 a1 w1 a2 w2).mono fun e W' ⟨he, bel⟩ => ?_
  subst he
  exact ⟨_, rfl, _, _, _, [], _, [], hW', trodAll_mk1 (shut_bool Try.underlying4 _), (trodAll_cons_mk (Below.trod laidOut (by kernel_rfl) (of_decide_eq_true (by kernel_rfl)) k0 bel lt0) (trodAll_cons_mk (Below.trod laidOut (by kernel_rfl) (of_decide_eq_true (by kernel_rfl)) k1 bel lt1) (trodAll_cons_mk (Below.trod laidOut (by kernel_rfl) (of_decide_eq_true (by kernel_rfl)) k2 bel lt2) trodAll_mk0))), rfl, bel.frame _, fun h => by cases h⟩
theorem proved : Rows.LabelLatticeSaid :=
  OpenClaim.holds_of_wide 5 Try.f5 rfl rfl rfl rfl rfl rfl rfl ⟨rfl, rfl, rfl, rfl, rfl⟩ rfl rfl rfl rfl rfl (by kernel_rfl) Try.func5 (by kernel_rfl)
    (of_decide_eq_true (by kernel_rfl)) (by unfold Func.isWrapper; first | (rw [if_pos (by decide +kernel)]; kernel_rfl) | (rw [if_neg (by decide +kernel)]; exact ⟨rfl, rfl⟩))
    (fun os started H enc _ => lifted os started H enc)
#print axioms proved
end labelLattice

end Go.Proofs.Ytolfbhanglkpkaa
