/- StackTexts: stacks of texts: what is pushed comes back the other way round. No condition. -/
import Derived.Test.YtmdilndaipiajaaIaw
import Derived.Test.YtmdilndaipiajaaRows
namespace Go.Proofs.Ytmdilndaipiajaa
open Go.RowKit

theorem strs_src {w wq : World} {a : Option Addr} {n c : Nat} {ss : List ByteArray} (h : Strs w (.slice a n c) ss) (hb : Below w.heap.size w wq) :
    n = 0 ∨ ∃ ad, a = some ad ∧ ∀ j u, (ss.map Value.string)[j]? = some u → wq.cell? (ad.add j) = some u := by
  obtain ⟨a', c', e, _, _, _, _, h4⟩ := h
  cases e
  rcases h4 with rfl | ⟨b, off, rfl, hg, hc⟩
  · left; rfl
  · refine Or.inr ⟨_, rfl, fun j u hu => ?_⟩
    rw [List.getElem?_map, Option.map_eq_some_iff] at hu
    obtain ⟨x, hx1, rfl⟩ := hu
    rw [add_plain]
    exact cell_later hb (hc j x hx1)
theorem take_last {ss : List ByteArray} {k : Nat} {x : ByteArray} (hx : ss[k]? = some x) : (ss.take (k + 1)).map Value.string = (ss.take k).map Value.string ++ [.string x] := by
  obtain ⟨hk, rfl⟩ := List.getElem?_eq_some_iff.1 hx
  rw [← List.take_append_getElem hk, List.map_append]
  rfl

set_option maxRecDepth 100000
set_option maxHeartbeats 1000000 in
theorem texts_any {v : Value} {ss : List ByteArray} {W : World} (hl : Strs W v ss) : Calls Try.prog 6 #[v] W fun e w' => IsBool W true e w' := by
  obtain ⟨a, c, rfl⟩ : ∃ a c, v = .slice a ss.length c := by obtain ⟨a, c, e, _⟩ := hl; exact ⟨a, c, e⟩
  obtain ⟨n, hn⟩ : ∃ n, ss.length = n := ⟨_, rfl⟩
  rw [hn] at hl ⊢
  have H1 := Lib.hid hl
  have HN := Lib.hid hn
  clear hl hn
  by_cases h100 : 100 < n
  · go_enter Try.func6, Try.ntmps6
    (go_wp2_with fail; go_fit (awake_any W); rintro e w1 ⟨rfl, hb⟩)
    go_wp2
    go_ret
    exact ⟨rfl, hb⟩
  have hle : n ≤ 100 := by omega
  clear h100
  go_enter Try.func6, Try.ntmps6
  (go_wp2_with fail; go_fit (awake_any W); rintro e w1 ⟨rfl, hb⟩)
  have HB1 := Lib.hid hb; clear hb
  (go_wp2_with fail; go_fit (new_inS HB1.out 100 100 (by decide) [] (by simp)); rintro e w2 ⟨bt, rfl, h2, _⟩)
  have HT2 := Lib.hid h2; clear h2
  (go_wp2_with fail; go_fit (push_fitsS HT2.out a n c (ss.map Value.string) (by rw [List.length_map]; exact HN.out) (strs_src H1.out HT2.out.below) (by simp [Value.oneCell']) (by simp; omega)); rintro e w3 ⟨rfl, h3, _⟩)
  rw [List.nil_append] at h3
  have HT3 := Lib.hid h3; clear h3
  go_wp2_with fail
  go_loopw [4, 5, 6, 7, 8] (fun i _ _ _ _ wr => ∃ (k : Nat) (z : Int), k ≤ n ∧ z = (k : Int) - 1 ∧ i = .int .i64 z ∧ Hid (InS W wr (.pointer (some ⟨bt, 0, none⟩)) 100 ((ss.take k).map Value.string) [])) (fun i _ _ _ _ _ => (intOf i + 1).toNat)
  case atStart => exact ⟨n, (n : Int) - 1, by omega, rfl, rfl, Lib.hid (by rw [List.take_of_length_le (by have := HN.out; omega)]; exact HT3.out)⟩
  case round =>
    obtain ⟨k, z, hk, hz, rfl, HT⟩ := hrel
    by_cases hlt : 0 < k
    · obtain ⟨k', rfl⟩ : ∃ k', k = k' + 1 := ⟨k - 1, by omega⟩
      obtain rfl : z = (k' : Int) := by omega
      obtain ⟨x, hx⟩ : ∃ x, ss[k']? = some x := ⟨_, List.getElem?_eq_getElem (by have := HN.out; omega)⟩
      obtain ⟨bl, off, rfl, hcx⟩ : ∃ bl off, a = some ⟨bl, off, none⟩ ∧ W.cell? ⟨bl, off + k', none⟩ = some (.string x) := by
        obtain ⟨a', c', e, _, _, _, _, h4⟩ := H1.out
        cases e
        rcases h4 with rfl | ⟨b, o, e, _, hc⟩
        · simp at hx
        · exact ⟨b, o, e, hc k' x hx⟩
      have HC := Lib.hid hcx
      have h := HT.out
      rw [take_last hx] at h
      have HT5 := Lib.hid h
      clear h hx hcx hz
      have hkk : (k' : Int) < (n : Int) := by omega
      (go_wp2_with fail; go_fit (top_hitS HT5.out); rintro e w' ⟨rfl, rfl⟩)
      (go_wp2_with fail; go_fit (pop_hitS HT5.out); rintro e w6 ⟨rfl, h6, _⟩)
      have HT6 := Lib.hid h6; clear h6
      have cx := cell_later HT6.out.below HC.out
      go_wp2
      go_roundw
      case rel => exact ⟨k', (k' : Int) - 1, by omega, rfl, by go_num, HT6⟩
      case measure => simp [intOf]
    · obtain rfl : k = 0 := by omega
      have hz1 : z < 0 := by omega
      clear hz
      rw [List.take_zero, List.map_nil] at HT
      clear hk hlt
      (go_wp2_with fail; go_fit (pop_missS HT.out); rintro e w' ⟨rfl, rfl⟩)
      (go_wp2_with fail; go_fit (mark_inS HT.out); rintro e w' ⟨rfl, rfl⟩)
      go_wp2
      go_ret
      exact ⟨rfl, HT.out.below⟩
namespace stackTexts
open Go.ChangeShapes Go.WideShapes Go.ChangeAt Go.RowKit
theorem own : ownKnob Try.prog.godebug = none := by kernel_rfl
theorem laidOut : laidOutB Try.prog = true := by kernel_rfl
set_option linter.unusedVariables false
set_option maxRecDepth 100000 in
theorem lifted (os : Os) (started : os.Started) (H : Type) (enc : TypeId × Value → H) :
    ReturnsInHanded {} Try.checked os 6 .any (Rows.stackTextsSpec.pre6 enc Try.prog Try.f6 Rows.stackTextsRow.domain false) (Rows.stackTextsSpec.post enc Try.prog Try.f6 false true false false) := by
  refine returnsInHanded_of_change_sized (C := Try.checked) own started (by kernel_rfl) Try.func6
    (ChangeSpec.witness6 (enc := enc) (C := Try.checked) false ⟨#[], #[.slice none 0 0], []⟩ 8 (by kernel_rfl) (by kernel_rfl) (by kernel_rfl) (by kernel_rfl)) ?_
  intro W base args ds gs before hval0 hW hcnd hsz0 _
  have hval : ∀ (j : Nat) t v, Try.f6.params[j]? = some t → args[j]? = some v → Value.okWide Try.prog W .any base t v := hval0
  have hW' := hW
  obtain ⟨p, q, hA0, hV, rfl, hfz, hnd⟩ := hW
  have hA : DataW.TrodAll enc Try.prog W 0 (fun _ => true) true Try.f6.params.toList args.toList ds p := hA0
  have hsz : (DataW.weightsEach Try.prog (Try.f6.params.toList ++ []) (ds ++ gs)).all (· ≤ reachBytes) = true := hsz0
  rw [Try.params6] at hA hval hsz
  obtain ⟨v0, vs0, d0, ds0, p0, q0, hargs, rfl, rfl, h0, r0⟩ := trodAll_cons hA
  obtain ⟨rfl, rfl, rfl⟩ := trodAll_nil r0
  obtain rfl : args = #[v0] := by cases args; simp_all
  obtain ⟨rfl, rfl⟩ := trodVars_none hV
  clear hA0 hval0 hsz0
  have k0 := h0
  have lt0 := lt_of_trod h0
  obtain ⟨a0, w0⟩ := strs_of_trod Try.underlying30 Try.underlying9 (by kernel_rfl) (by kernel_rfl) (by obtain ⟨x, y, z, e⟩ := okWide_slice Try.underlying30 (hval 0 30 v0 rfl rfl); exact ⟨x, y, z, e⟩) h0 (weights_ok hsz (j := 0) (t := 30) (d := d0) rfl rfl)
  refine (texts_any w0).mono fun e W' ⟨he, bel⟩ => ?_
  subst he
  exact ⟨_, rfl, _, _, _, [], _, [], hW', trodAll_mk1 (shut_bool Try.underlying4 _), (trodAll_cons_mk (Below.trod laidOut (by kernel_rfl) (of_decide_eq_true (by kernel_rfl)) k0 bel lt0) trodAll_mk0), rfl, bel.frame _, fun h => by cases h⟩
theorem proved : Rows.StackTextsSaid :=
  OpenClaim.holds_of_wide 6 Try.f6 rfl rfl rfl rfl rfl rfl rfl ⟨rfl, rfl, rfl, rfl, rfl⟩ rfl rfl rfl rfl rfl (by kernel_rfl) Try.func6 (by kernel_rfl)
    (of_decide_eq_true (by kernel_rfl)) (by unfold Func.isWrapper; first | (rw [if_pos (by decide +kernel)]; kernel_rfl) | (rw [if_neg (by decide +kernel)]; exact ⟨rfl, rfl⟩))
    (fun os started H enc _ => lifted os started H enc)
#print axioms proved
end stackTexts

end Go.Proofs.Ytmdilndaipiajaa
