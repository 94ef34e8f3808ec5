/- StackMarks: back to a mark what was there at the mark is there, whatever came. No condition. -/
import Derived.Test.YtmdilndaipiajaaSPlays
import Derived.Test.YtmdilndaipiajaaRows
namespace Go.Proofs.Ytmdilndaipiajaa
open Go.RowKit

theorem Ints.icells {w : World} {a : Option Addr} {n c : Nat} {zs : List Int} (h : Ints w (.slice a n c) zs) : ICells w a zs := by
  obtain ⟨a', c', e, _, _, _, h4⟩ := h
  cases e
  rcases h4 with rfl | ⟨g, o, e, hg, hc⟩
  · exact Or.inl rfl
  · exact Or.inr ⟨g, o, e, hc⟩
theorem take_pop {xs ys : List Int} {i : Nat} (hi : i < ys.length) : ∃ x, (xs ++ ys.take (ys.length - i)).map (Value.int .i64) = (xs ++ ys.take (ys.length - (i + 1))).map (Value.int .i64) ++ [.int .i64 x] := by
  refine ⟨ys[ys.length - (i + 1)], ?_⟩
  rw [show ys.length - i = ys.length - (i + 1) + 1 by omega, ← List.take_append_getElem (by omega), ← List.append_assoc, List.map_append (l₁ := xs ++ _)]
  rfl

set_option maxHeartbeats 1000000 in
theorem marks_any {v1 v2 : Value} {xs ys : List Int} {W : World} (h1 : Ints W v1 xs) (h2 : Ints W v2 ys) (pops : Int) (hp : -9223372036854775808 ≤ pops ∧ pops ≤ 9223372036854775807) :
    Calls Try.prog 5 #[v1, v2, .int .i64 pops] W fun e w' => IsBool W true e w' := by
  obtain ⟨a1, c1, rfl⟩ : ∃ a c, v1 = .slice a xs.length c := by obtain ⟨a, c, e, _⟩ := h1; exact ⟨a, c, e⟩
  obtain ⟨a2, c2, rfl⟩ : ∃ a c, v2 = .slice a ys.length c := by obtain ⟨a, c, e, _⟩ := h2; exact ⟨a, c, e⟩
  obtain ⟨n1, hn1⟩ : ∃ n, xs.length = n := ⟨_, rfl⟩
  obtain ⟨n2, hn2⟩ : ∃ n, ys.length = n := ⟨_, rfl⟩
  rw [hn1] at h1 ⊢
  rw [hn2] at h2 ⊢
  have H1 := Lib.hid h1
  have H2 := Lib.hid h2
  have HN1 := Lib.hid hn1
  have HN2 := Lib.hid hn2
  clear h1 h2 hn1 hn2
  by_cases hx : 50 < n1
  · have hx' : decide (50 < (n1 : Int)) = true := by simp; omega
    go_enter Try.func5, Try.ntmps5
    (go_wp2_with fail; go_fit (awake_any W); rintro e w1 ⟨rfl, hb⟩)
    go_wp2
    go_ret
    exact ⟨rfl, hb⟩
  by_cases hy : 50 < n2
  · go_enter Try.func5, Try.ntmps5
    (go_wp2_with fail; go_fit (awake_any W); rintro e w1 ⟨rfl, hb⟩)
    go_wp2
    go_ret
    exact ⟨rfl, hb⟩
  by_cases hp0 : pops < 0
  · go_enter Try.func5, Try.ntmps5
    (go_wp2_with fail; go_fit (awake_any W); rintro e w1 ⟨rfl, hb⟩)
    go_wp2
    go_ret
    exact ⟨rfl, hb⟩
  by_cases hp2 : (n2 : Int) < pops
  · go_enter Try.func5, Try.ntmps5
    (go_wp2_with fail; go_fit (awake_any W); rintro e w1 ⟨rfl, hb⟩)
    go_wp2
    go_ret
    exact ⟨rfl, hb⟩
  obtain ⟨q, rfl⟩ : ∃ q : Nat, pops = q := ⟨pops.toNat, by omega⟩
  obtain ⟨m', hm'⟩ : ∃ m' : Nat, n2 = q + m' := ⟨n2 - q, by omega⟩
  have hsub : (n2 : Int) - (q : Int) = (m' : Int) := by omega
  have HM' := Lib.hid hm'
  have hq6 : q ≤ n2 := by omega
  clear hm' hp
  have hle1 : n1 ≤ 50 := by omega
  have hle2 : n2 ≤ 50 := by omega
  go_enter Try.func5, Try.ntmps5
  (go_wp2_with fail; go_fit (awake_any W); rintro e w1 ⟨rfl, hb⟩)
  have HB1 := Lib.hid hb; clear hb
  (go_wp2_with fail; go_fit (new_inI HB1.out 200 200 (by decide) [] (by simp)); rintro e w2 ⟨bt, rfl, h2, _⟩)
  have HT2 := Lib.hid h2; clear h2
  (go_wp2_with fail; go_fit (push_fitsI HT2.out a1 n1 c1 (xs.map (Value.int .i64)) (by rw [List.length_map]; exact HN1.out) (H1.out.src HT2.out.below) (by simp [Value.oneCell']) (by simp; omega)); rintro e w3 ⟨rfl, h3, _⟩)
  rw [List.nil_append] at h3
  have HT3 := Lib.hid h3; clear h3
  (go_wp2_with fail; go_fit (mark_n HT3.out HN1.out); rintro e w' ⟨rfl, rfl⟩)
  (go_wp2_with fail; go_fit (push_fitsI HT3.out a2 n2 c2 (ys.map (Value.int .i64)) (by rw [List.length_map]; exact HN2.out) (H2.out.src HT3.out.below) (by simp [Value.oneCell']) (by rw [List.length_map, HN1.out]; omega)); rintro e w4 ⟨rfl, h4, _⟩)
  rw [← List.map_append] at h4
  have HT4 := Lib.hid h4; clear h4
  go_wp2_with fail
  go_loopw [9] (fun i wr => ∃ k : Nat, k ≤ q ∧ i = .int .i64 k ∧ Hid (InI W wr (.pointer (some ⟨bt, 0, none⟩)) 200 ((xs ++ ys.take (ys.length - k)).map (Value.int .i64)) [])) (fun i _ => q - (intOf i).toNat)
  case atStart => exact ⟨0, by omega, rfl, Lib.hid (by rw [Nat.sub_zero, List.take_length]; exact HT4.out)⟩
  case round =>
    obtain ⟨k, hk, rfl, HT⟩ := hrel
    by_cases hlt : k < q
    · obtain ⟨x, hx⟩ := take_pop (xs := xs) (ys := ys) (i := k) (by have := HN2.out; omega)
      have h := HT.out
      rw [hx] at h
      have HT5 := Lib.hid h
      clear h hx
      have hkk : (k : Int) < (q : Int) := by omega
      (go_wp2_with fail; go_fit (pop_hitI HT5.out); rintro e w6 ⟨rfl, h6, _⟩)
      have HT6 := Lib.hid h6; clear h6
      go_wp2
      go_roundw
      case rel => exact ⟨k + 1, by omega, by go_num, HT6⟩
      case measure => simp [intOf]; omega
    · obtain rfl : k = q := by omega
      (go_wp2_with fail; go_fit (undo_hitI HT.out n1 m' (by rw [List.length_append, List.length_take, HN1.out, HN2.out]; have := HM'.out; omega)); rintro e w6 ⟨rfl, h6, _, _⟩)
      rw [List.take_left' HN1.out] at h6
      have HT6 := Lib.hid h6; clear h6
      (go_wp2_with fail; go_fit (all_n HT6.out HN1.out); rintro e w9 ⟨rfl, h9, ha9, hic⟩)
      have HT9 := Lib.hid h9; have HIC := Lib.hid hic
      clear h9 ha9 hic
      (go_wp2_with fail; go_fit (ints_n n1 c1 HIC.out (H1.out.icells.ext HT9.out.below) HN1.out (by omega)); rintro e w10 ⟨rfl, h10⟩)
      have HT10 := Lib.hid (HT9.out.same h10)
      clear h10
      go_wp2
      go_ret
      exact ⟨rfl, HT10.out.below⟩

theorem marks_law {v1 v2 : Value} {xs ys : List Int} {W : World} (h1 : Ints W v1 xs) (h2 : Ints W v2 ys) (a : Int) (wa : (Lit.int .i64 a).wf = true) :
    Calls Try.prog 5 #[v1, v2, .int .i64 a] W fun e w' => IsBool W true e w' := marks_any h1 h2 a (wf_range wa)
namespace stackMarks
open Go.ChangeShapes Go.WideShapes Go.ChangeAt Go.RowKit
theorem own : ownKnob Try.prog.godebug = none := by kernel_rfl
theorem laidOut : laidOutB Try.prog = true := by kernel_rfl
set_option linter.unusedVariables false
set_option maxRecDepth 100000 in
theorem lifted (os : Os) (started : os.Started) (H : Type) (enc : TypeId × Value → H) :
    ReturnsInHanded {} Try.checked os 5 .any (Rows.stackMarksSpec.pre6 enc Try.prog Try.f5 Rows.stackMarksRow.domain false) (Rows.stackMarksSpec.post enc Try.prog Try.f5 false true false false) := by
  refine returnsInHanded_of_change_sized (C := Try.checked) own started (by kernel_rfl) Try.func5
    (ChangeSpec.witness6 (enc := enc) (C := Try.checked) false ⟨#[], #[.slice none 0 0, .slice none 0 0, .int .i64 0], []⟩ 8 (by kernel_rfl) (by kernel_rfl) (by kernel_rfl) (by kernel_rfl)) ?_
  intro W base args ds gs before hval0 hW hcnd hsz0 _
  have hval : ∀ (j : Nat) t v, Try.f5.params[j]? = some t → args[j]? = some v → Value.okWide Try.prog W .any base t v := hval0
  have hW' := hW
  obtain ⟨p, q, hA0, hV, rfl, hfz, hnd⟩ := hW
  have hA : DataW.TrodAll enc Try.prog W 0 (fun _ => true) true Try.f5.params.toList args.toList ds p := hA0
  have hsz : (DataW.weightsEach Try.prog (Try.f5.params.toList ++ []) (ds ++ gs)).all (· ≤ reachBytes) = true := hsz0
  rw [Try.params5] at hA hval hsz
  obtain ⟨v0, vs0, d0, ds0, p0, q0, hargs, rfl, rfl, h0, r0⟩ := trodAll_cons hA
  obtain ⟨v1, vs1, d1, ds1, p1, q1, rfl, rfl, rfl, h1, r1⟩ := trodAll_cons r0
  obtain ⟨v2, vs2, d2, ds2, p2, q2, rfl, rfl, rfl, h2, r2⟩ := trodAll_cons r1
  obtain ⟨rfl, rfl, rfl⟩ := trodAll_nil r2
  obtain rfl : args = #[v0, v1, v2] := by cases args; simp_all
  obtain ⟨rfl, rfl⟩ := trodVars_none hV
  clear hA0 hval0 hsz0
  have k0 := h0
  have lt0 := lt_of_trod h0
  have k1 := h1
  have lt1 := lt_of_trod h1
  have k2 := h2
  have lt2 := lt_of_trod h2
  obtain ⟨a0, w0⟩ := ints_of_trod h0 (hval 0 37 v0 rfl rfl) (weights_ok hsz (j := 0) (t := 37) (d := d0) rfl rfl)
  obtain ⟨a1, w1⟩ := ints_of_trod h1 (hval 1 37 v1 rfl rfl) (weights_ok hsz (j := 1) (t := 37) (d := d1) rfl rfl)
  obtain ⟨a2, rfl, rfl, rfl, w2⟩ := open_int Try.underlying3 (hval 2 3 v2 rfl rfl) h2
  refine (marks_law w0 w1 a2 w2).mono fun e W' ⟨he, bel⟩ => ?_
  subst he
  exact ⟨_, rfl, _, _, _, [], _, [], hW', trodAll_mk1 (shut_bool Try.underlying4 _), (trodAll_cons_mk (Below.trod laidOut (by kernel_rfl) (of_decide_eq_true (by kernel_rfl)) k0 bel lt0) (trodAll_cons_mk (Below.trod laidOut (by kernel_rfl) (of_decide_eq_true (by kernel_rfl)) k1 bel lt1) (trodAll_cons_mk (Below.trod laidOut (by kernel_rfl) (of_decide_eq_true (by kernel_rfl)) k2 bel lt2) trodAll_mk0))), rfl, bel.frame _, fun h => by cases h⟩
theorem proved : Rows.StackMarksSaid :=
  OpenClaim.holds_of_wide 5 Try.f5 rfl rfl rfl rfl rfl rfl rfl ⟨rfl, rfl, rfl, rfl, rfl⟩ rfl rfl rfl rfl rfl (by kernel_rfl) Try.func5 (by kernel_rfl)
    (of_decide_eq_true (by kernel_rfl)) (by unfold Func.isWrapper; first | (rw [if_pos (by decide +kernel)]; kernel_rfl) | (rw [if_neg (by decide +kernel)]; exact ⟨rfl, rfl⟩))
    (fun os started H enc _ => lifted os started H enc)
#print axioms proved
end stackMarks

end Go.Proofs.Ytmdilndaipiajaa
