/- TableCuts: what a cut takes away can be put in again, and is then numbered in the order in which it comes. No condition. -/
import Derived.Test.YtjpdigdocdppbaaBack
namespace Go.Proofs.Ytjpdigdocdppbaa
open Go.RowKit Go.Maps Go.WideMaps

/-- The keys when those from n on were cut off, and j of them were put in again, the last one first. -/
def again (ks : List ByteArray) (n j : Nat) : List ByteArray := ks.take n ++ (ks.drop (ks.length - j)).reverse
theorem wf_range' {a : Int} (h : (Lit.int .i64 a).wf = true) : -9223372036854775808 ≤ a ∧ a ≤ 9223372036854775807 := by
  simpa [Lit.wf, IntKind.min, IntKind.max, IntKind.signed, IntKind.bits] using h
theorem again_zero (ks : List ByteArray) (n : Nat) : again ks n 0 = ks.take n := by simp [again]
theorem again_len {ks : List ByteArray} {n j : Nat} (hn : n ≤ ks.length) (hj : j ≤ ks.length - n) : (again ks n j).length = n + j := by simp [again]; omega
theorem again_step {ks : List ByteArray} {n j i : Nat} {x : ByteArray} (hi : i + 1 + j = ks.length) (hx : ks[i]? = some x) : again ks n j ++ [x] = again ks n (j + 1) := by
  unfold again
  have e : ks.length - (j + 1) = i := by omega
  rw [e, List.append_assoc, show ks.length - j = i + 1 by omega]
  have h := (List.getElem?_eq_some_iff.1 hx).1
  rw [List.drop_eq_getElem_cons h, List.reverse_cons, (List.getElem?_eq_some_iff.1 hx).2]
theorem again_not {ks : List ByteArray} {n j i : Nat} {x : ByteArray} (hd : ks.Nodup) (hn : n ≤ i) (hi : i + 1 + j = ks.length) (hx : ks[i]? = some x) : x ∉ again ks n j := by
  unfold again
  rw [List.mem_append, List.mem_reverse]
  rintro (h | h)
  · obtain ⟨m, hm⟩ := List.getElem?_of_mem h
    rw [List.getElem?_take] at hm
    split at hm
    · have := nodup_at hd hm hx; omega
    · cases hm
  · obtain ⟨m, hm⟩ := List.getElem?_of_mem h
    rw [List.getElem?_drop] at hm
    have := nodup_at hd hm hx; omega

set_option maxHeartbeats 1000000 in
theorem cuts_any {v : Value} {l : List ByteArray} {W : World} (hl : Strs W v l) (c : Int) (hc : (Lit.int .i64 c).wf = true) : Calls Try.prog 7 #[v, .int .i64 c] W fun e w' => IsBool W true e w' := by
  obtain ⟨a, cap, rfl, hl1, hl2, hl3, hl4, hl5⟩ := hl
  have hcr := wf_range' hc
  clear hc
  by_cases h60 : 60 < l.length
  · go_enter Try.func7, Try.ntmps7
    (go_wp2_with fail; go_fit (awake_any W); rintro e w1 ⟨rfl, hb⟩)
    go_wp2
    go_ret
    exact ⟨rfl, hb⟩
  have h60' : l.length ≤ 60 := by omega
  clear h60
  have HL := Lib.hid hl5
  have HS := Lib.hid hl4
  clear hl5 hl4
  go_enter Try.func7, Try.ntmps7
  (go_wp2_with fail; go_fit (awake_any W); rintro e w1 ⟨rfl, hb⟩)
  have HB1 := Lib.hid hb; clear hb
  (go_wp2_with fail; go_fit (new_in HB1.out 100 100 (by decide) [] (by simp)); rintro e w2 ⟨bt, rfl, h2, _⟩)
  have HT2 := Lib.hid h2; clear h2
  go_wp2_with fail
  go_loopw [6] (fun i wr => ∃ (k : Nat) (ks : List ByteArray), k ≤ l.length ∧ i = .int .i64 k ∧ ks.length ≤ k ∧ Hid (TabIn W wr (.pointer (some ⟨bt, 0, none⟩)) 100 ks [])) (fun i _ => l.length - (intOf i).toNat)
  case atStart => exact ⟨0, [], by omega, rfl, by simp, HT2⟩
  case round =>
    obtain ⟨k, ks, hk, rfl, hks, HT⟩ := hrel
    by_cases hlt : k < l.length
    · obtain ⟨x, hx⟩ : ∃ x, l[k]? = some x := ⟨_, List.getElem?_eq_getElem hlt⟩
      have hxs := HS.out x (List.mem_of_getElem? hx)
      obtain ⟨bl, off, rfl, hcx⟩ : ∃ bl off, a = some ⟨bl, off, none⟩ ∧ W.cell? ⟨bl, off + k, none⟩ = some (.string x) := by
        rcases HL.out with rfl | ⟨b, off, e, _, hc⟩
        · simp at hlt
        · exact ⟨b, off, e, hc k x hx⟩
      have c0 := cell_later HT.out.below hcx
      clear hcx hx
      have hkk : (k : Int) < l.length := by omega
      obtain ⟨n, b, ks', hp⟩ := puts_ex 100 ks x
      obtain ⟨rfl, i, rfl, hi, hl', hil⟩ := puts_room hp (by omega)
      have HP := Lib.hid hp
      clear hp hi
      (go_wp2_with fail; go_fit (put_in HT.out x hxs HP.out); rintro e w3 ⟨rfl, h3, _⟩)
      have HT3 := Lib.hid h3; clear h3
      go_wp2
      go_roundw
      case rel => exact ⟨k + 1, ks', by omega, by go_num, by omega, HT3⟩
      case measure => simp [intOf]; omega
    · obtain rfl : k = l.length := by omega
      (go_wp2_with fail; go_fit (all_in HT.out); rintro e w3 ⟨rfl, h3, _, hall⟩)
      have HT3 := Lib.hid h3; have HA := Lib.hid hall
      have hkb : ks.length ≤ 60 := by omega
      clear h3 hall
      obtain ⟨b1, ks', hp⟩ := cuts_ex ks c
      have HP := Lib.hid hp; clear hp
      rcases HP.out with ⟨rfl, e0, hi⟩ | ⟨rfl, n, rfl, hn, e0⟩
      · subst e0
        by_cases hc0 : c < 0
        · (go_wp2_with fail; go_fit (cut_in' HT3.out c HP.out); rintro e w4 ⟨rfl, h4, _⟩)
          have HT4 := Lib.hid h4; clear h4
          (go_wp2_with fail; go_fit (len_in HT4.out); rintro e w' ⟨rfl, rfl⟩)
          go_wp2
          go_ret
          exact ⟨rfl, HT4.out.below⟩
        · have hc1 : (ks'.length : Int) < c := by omega
          (go_wp2_with fail; go_fit (cut_in' HT3.out c HP.out); rintro e w4 ⟨rfl, h4, _⟩)
          have HT4 := Lib.hid h4; clear h4
          (go_wp2_with fail; go_fit (len_in HT4.out); rintro e w' ⟨rfl, rfl⟩)
          go_wp2
          go_ret
          exact ⟨rfl, HT4.out.below⟩
      · subst e0
        have hn0 : ¬ ((n : Int) < 0) := by omega
        have hn1 : ¬ ((ks.length : Int) < n) := by omega
        have hn2 : decide ((n : Int) < 0) = false := by simp
        have hn3 : decide ((ks.length : Int) < n) = false := by simp; omega
        have hlen : (ks.take n).length = n := by simp; omega
        (go_wp2_with fail; go_fit (cut_in' HT3.out n HP.out); rintro e w4 ⟨rfl, h4, ha4⟩)
        have HT4 := Lib.hid h4
        have HA4 := Lib.hid (show ∀ (i : Nat) (x : ByteArray), ks[i]? = some x → w4.cell? ⟨wr.heap.size, i, none⟩ = some (.string x) from fun i x hx => ha4.cell (by simp) (HA.out i x hx))
        clear h4 ha4
        (go_wp2_with fail; go_fit (len_in HT4.out); rintro e w' ⟨rfl, rfl⟩)
        have hL : ((ks.take n).length : Int) = n := by omega
        go_wp2_with fail
        have HG0 := Lib.hid HT3.out.good
        have HND := Lib.hid HT3.out.nodup
        have HT5 := Lib.hid (show TabIn W w4 (.pointer (some ⟨bt, 0, none⟩)) 100 (again ks n 0) [wr.heap.size] from by rw [again_zero]; exact HT4.out)
        generalize wr.heap.size = g at *
        go_loopw [8] (fun s wq => ∃ (j : Nat) (z : Int), j ≤ ks.length - n ∧ s = .int .i64 z ∧ Hid (z = ks.length - 1 - j) ∧ Hid (TabIn W wq (.pointer (some ⟨bt, 0, none⟩)) 100 (again ks n j) [g]) ∧ Hid (∀ (i : Nat) (x : ByteArray), ks[i]? = some x → wq.cell? ⟨g, i, none⟩ = some (.string x)))
          (fun s _ => (intOf s + 1 - n).toNat)
        case atStart => exact ⟨0, _, by omega, rfl, Lib.hid (by simp), HT5, HA4⟩
        case round =>
          obtain ⟨j, z, hj, rfl, HZ, HTj, HAj⟩ := hrel
          by_cases hjl : j < ks.length - n
          · obtain ⟨idx, hidx⟩ : ∃ idx : Nat, z = idx := ⟨z.toNat, by have := HZ.out; omega⟩
            subst hidx
            have hz1 : idx + 1 + j = ks.length := by have := HZ.out; omega
            obtain ⟨x, hx⟩ : ∃ x, ks[idx]? = some x := ⟨_, List.getElem?_eq_getElem (by omega)⟩
            have cx := HAj.out idx x hx
            have hxs := HG0.out x (List.mem_of_getElem? hx)
            have hal := again_len hn (j := j) (by omega)
            have hp : Puts 100 (again ks n j) x ((n : Int) + j) true (again ks n j ++ [x]) := Or.inr (Or.inr ⟨rfl, by omega, again_not HND.out (by omega) hz1 hx, rfl, by omega⟩)
            rw [again_step hz1 hx] at hp
            have HP := Lib.hid hp
            clear hp hx hal
            have hn4 : (n : Int) ≤ (idx : Int) := by omega
            have hi4 : (idx : Int) < ks.length := by omega
            (go_wp2_with fail; go_fit (put_in HTj.out x hxs HP.out); rintro e w5 ⟨rfl, h5, ha5⟩)
            have HT6 := Lib.hid h5
            have HA6 := Lib.hid (show ∀ (i : Nat) (x : ByteArray), ks[i]? = some x → w5.cell? ⟨g, i, none⟩ = some (.string x) from fun i x hx => ha5.cell (by simp) (HAj.out i x hx))
            clear h5 ha5 cx
            have hcmp : (n : Int) + ks.length - 1 - idx = n + j := by omega
            go_wp2
            go_roundw
            case rel => exact ⟨j + 1, _, by omega, rfl, Lib.hid (by omega), HT6, HA6⟩
            case measure => simp [intOf]; omega
          · have hz1 : z = n - 1 := by have := HZ.out; omega
            subst hz1
            have hn4 : ¬ ((n : Int) ≤ (n : Int) - 1) := by omega
            have hal := again_len hn (j := j) (by omega)
            have hjl' : n + j = ks.length := by omega
            go_wp2_with fail
            (go_wp2_with fail; go_fit (len_in HTj.out); rintro e w' ⟨rfl, rfl⟩)
            go_wp2
            go_ret
            exact ⟨ret_bool (by simp), HTj.out.below⟩
theorem cuts_law {v : Value} {l : List ByteArray} {W : World} (hl : Strs W v l) (c : Int) (hc : (Lit.int .i64 c).wf = true) : Calls Try.prog 7 #[v, .int .i64 c] W fun e w' => IsBool W true e w' := cuts_any hl c hc
namespace tableCuts
open Go.ChangeShapes Go.WideShapes Go.ChangeAt Go.RowKit
theorem own : ownKnob Try.prog.godebug = none := by kernel_rfl
theorem laidOut : laidOutB Try.prog = true := by kernel_rfl
set_option linter.unusedVariables false
set_option maxRecDepth 100000 in
theorem lifted (os : Os) (started : os.Started) (H : Type) (enc : TypeId × Value → H) :
    ReturnsInHanded {} Try.checked os 7 .any (Rows.tableCutsSpec.pre6 enc Try.prog Try.f7 Rows.tableCutsRow.domain false) (Rows.tableCutsSpec.post enc Try.prog Try.f7 false true false false) := by
  refine returnsInHanded_of_change_sized (C := Try.checked) own started (by kernel_rfl) Try.func7
    (ChangeSpec.witness6 (enc := enc) (C := Try.checked) false ⟨#[], #[.slice none 0 0, .int .i64 0], []⟩ 8 (by kernel_rfl) (by kernel_rfl) (by kernel_rfl) (by kernel_rfl)) ?_
  intro W base args ds gs before hval0 hW hcnd hsz0 _
  have hval : ∀ (j : Nat) t v, Try.f7.params[j]? = some t → args[j]? = some v → Value.okWide Try.prog W .any base t v := hval0
  have hW' := hW
  obtain ⟨p, q, hA0, hV, rfl, hfz, hnd⟩ := hW
  have hA : DataW.TrodAll enc Try.prog W 0 (fun _ => true) true Try.f7.params.toList args.toList ds p := hA0
  have hsz : (DataW.weightsEach Try.prog (Try.f7.params.toList ++ []) (ds ++ gs)).all (· ≤ reachBytes) = true := hsz0
  rw [Try.params7] at hA hval hsz
  obtain ⟨v0, vs0, d0, ds0, p0, q0, hargs, rfl, rfl, h0, r0⟩ := trodAll_cons hA
  obtain ⟨v1, vs1, d1, ds1, p1, q1, rfl, rfl, rfl, h1, r1⟩ := trodAll_cons r0
  obtain ⟨rfl, rfl, rfl⟩ := trodAll_nil r1
  obtain rfl : args = #[v0, v1] := by cases args; simp_all
  obtain ⟨rfl, rfl⟩ := trodVars_none hV
  clear hA0 hval0 hsz0
  have k0 := h0
  have lt0 := lt_of_trod h0
  have k1 := h1
  have lt1 := lt_of_trod h1
  obtain ⟨a0, w0⟩ := strs_of_trod Try.underlying34 Try.underlying9 (by kernel_rfl) (by kernel_rfl) (by obtain ⟨x, y, z, e⟩ := okWide_slice Try.underlying34 (hval 0 34 v0 rfl rfl); exact ⟨x, y, z, e⟩) h0 (weights_ok hsz (j := 0) (t := 34) (d := d0) rfl rfl)
  obtain ⟨a1, rfl, rfl, rfl, w1⟩ := open_int Try.underlying3 (hval 1 3 v1 rfl rfl) h1
  refine (cuts_law w0 a1 w1).mono fun e W' ⟨he, bel⟩ => ?_
  subst he
  exact ⟨_, rfl, _, _, _, [], _, [], hW', trodAll_mk1 (shut_bool Try.underlying4 _), (trodAll_cons_mk (Below.trod laidOut (by kernel_rfl) (of_decide_eq_true (by kernel_rfl)) k0 bel lt0) (trodAll_cons_mk (Below.trod laidOut (by kernel_rfl) (of_decide_eq_true (by kernel_rfl)) k1 bel lt1) trodAll_mk0)), rfl, bel.frame _, fun h => by cases h⟩
theorem proved : Rows.TableCutsSaid :=
  OpenClaim.holds_of_wide 7 Try.f7 rfl rfl rfl rfl rfl rfl rfl ⟨rfl, rfl, rfl, rfl, rfl⟩ rfl rfl rfl rfl rfl (by kernel_rfl) Try.func7 (by kernel_rfl)
    (of_decide_eq_true (by kernel_rfl)) (by unfold Func.isWrapper; first | (rw [if_pos (by decide +kernel)]; kernel_rfl) | (rw [if_neg (by decide +kernel)]; exact ⟨rfl, rfl⟩))
    (fun os started H enc _ => lifted os started H enc)
#print axioms proved
end tableCuts

end Go.Proofs.Ytjpdigdocdppbaa
