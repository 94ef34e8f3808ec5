/- TableBack: a key that is put in has a number; the number tells the key, the key the number; no two numbers tell the same key. No condition. -/
import Derived.Test.YtjpdigdocdppbaaTabI
import Derived.Test.YtjpdigdocdppbaaRows
import Derived.Deep.QuietTactic
import Derived.BigQuiet
import Derived.LoopTactic
import Derived.Lib.Strings
namespace Go.Proofs.Ytjpdigdocdppbaa
open Go.RowKit Go.Maps Go.WideMaps

theorem puts_room {R : Nat} {ks ks' : List ByteArray} {x : ByteArray} {n : Int} {b : Bool} (h : Puts R ks x n b ks') (hr : ks.length < R) : b = true ∧ ∃ i : Nat, n = i ∧ ks'[i]? = some x ∧ ks'.length ≤ ks.length + 1 ∧ i < ks'.length := by
  rcases h with ⟨rfl, rfl, i, rfl, hi⟩ | ⟨rfl, rfl, hn, rfl, hle⟩ | ⟨rfl, rfl, hn, rfl, hlt⟩
  · exact ⟨rfl, i, rfl, hi, by omega, (List.getElem?_eq_some_iff.1 hi).1⟩
  · omega
  · exact ⟨rfl, ks.length, rfl, by simp, by simp, by simp⟩
theorem ne_bytes {y x : ByteArray} (h : y ≠ x) : (y.toList == x.toList) = false := by
  rw [Lib.toList_data, Lib.toList_data]
  simp only [beq_eq_false_iff_ne, ne_eq]
  exact fun e => h (bl_inj e)

set_option maxHeartbeats 1000000 in
theorem back_any {v : Value} {l : List ByteArray} {W : World} (hl : Strs W v l) : Calls Try.prog 5 #[v] W fun e w' => IsBool W true e w' := by
  obtain ⟨a, cap, rfl, hl1, hl2, hl3, hl4, hl5⟩ := hl
  by_cases h100 : 100 < l.length
  · go_enter Try.func5, Try.ntmps5
    (go_wp2_with fail; go_fit (awake_any W); rintro e w1 ⟨rfl, hb⟩)
    go_wp2
    go_ret
    exact ⟨rfl, hb⟩
  have h100' : l.length ≤ 100 := by omega
  clear h100
  have HL := Lib.hid hl5
  have HS := Lib.hid hl4
  clear hl5 hl4
  go_enter Try.func5, Try.ntmps5
  (go_wp2_with fail; go_fit (awake_any W); rintro e w1 ⟨rfl, hb⟩)
  have HB1 := Lib.hid hb; clear hb
  (go_wp2_with fail; go_fit (new_in HB1.out 200 200 (by decide) [] (by simp)); rintro e w2 ⟨bt, rfl, h2, _⟩)
  have HT2 := Lib.hid h2; clear h2
  go_wp2_with fail
  go_loopw [4] (fun i wr => ∃ (k : Nat) (ks : List ByteArray), k ≤ l.length ∧ i = .int .i64 k ∧ ks.length ≤ k ∧ Hid (TabIn W wr (.pointer (some ⟨bt, 0, none⟩)) 200 ks [])) (fun i _ => l.length - (intOf i).toNat)
  case atStart => exact ⟨0, [], by omega, rfl, by simp, HT2⟩
  case round =>
    obtain ⟨k, ks, hk, rfl, hks, HT⟩ := hrel
    by_cases hlt : k < l.length
    · obtain ⟨x, hx⟩ : ∃ x, l[k]? = some x := ⟨_, List.getElem?_eq_getElem hlt⟩
      have hxs := HS.out x (List.mem_of_getElem? hx)
      obtain ⟨bl, off, rfl, hcx⟩ : ∃ bl off, a = some ⟨bl, off, none⟩ ∧ W.cell? ⟨bl, off + k, none⟩ = some (.string x) := by
        rcases HL.out with rfl | ⟨b, off, e, _, hc⟩
        · simp at hlt
        · exact ⟨b, off, e, hc k x hx⟩
      have HC := Lib.hid (fun (wq : World) (hb : Below W.heap.size W wq) => cell_later hb hcx)
      clear hcx hx
      have c0 := HC.out wr HT.out.below
      have hkk : (k : Int) < l.length := by omega
      obtain ⟨n, b, ks', hp⟩ := puts_ex 200 ks x
      obtain ⟨rfl, i, rfl, hi, hl', hil⟩ := puts_room hp (by omega)
      have HP := Lib.hid hp; have HI := Lib.hid hi
      clear hp hi
      (go_wp2_with fail; go_fit (put_in HT.out x hxs HP.out); rintro e w3 ⟨rfl, h3, _⟩)
      have HT3 := Lib.hid h3; clear h3
      (go_wp2_with fail; go_fit (at_hit HT3.out i x HI.out); rintro e w' ⟨rfl, rfl⟩)
      have c1 := HC.out w3 HT3.out.below
      (go_wp2_with fail; go_fit (find_in HT3.out x hxs (Or.inl ⟨rfl, i, rfl, HI.out⟩)); rintro e w4 ⟨rfl, h4, _⟩)
      have HT4 := Lib.hid h4; clear h4 c0 c1
      have c1 := HC.out w4 HT4.out.below
      go_wp2
      go_roundw
      case rel => exact ⟨k + 1, ks', by omega, by go_num, by omega, HT4⟩
      case measure => simp [intOf]; omega
    · obtain rfl : k = l.length := by omega
      (go_wp2_with fail; go_fit (all_in HT.out); rintro e w3 ⟨rfl, h3, _, hall⟩)
      have HT3 := Lib.hid h3; have HA := Lib.hid hall
      have hkb : ks.length ≤ 100 := by omega
      clear h3 hall
      go_wp2_with fail
      go_loopw [12] (fun i wq => ∃ j : Nat, j ≤ ks.length ∧ i = .int .i64 j ∧ Hid (Below w3.heap.size w3 wq)) (fun i _ => ks.length - (intOf i).toNat)
      case atStart => exact ⟨0, by omega, rfl, Lib.hid (Below.refl _ _)⟩
      case round =>
        obtain ⟨j, hj, rfl, HBq⟩ := hrel
        by_cases hjl : j < ks.length
        · obtain ⟨y, hy⟩ : ∃ y, ks[j]? = some y := ⟨_, List.getElem?_eq_getElem hjl⟩
          have HY := Lib.hid hy; clear hy
          go_wp2_with fail
          go_loopw [13] (fun i wq => ∃ m : Nat, m ≤ j ∧ i = .int .i64 m ∧ Hid (Below w3.heap.size w3 wq)) (fun i _ => j - (intOf i).toNat)
          case atStart => exact ⟨0, by omega, rfl, HBq⟩
          case round =>
            obtain ⟨m, hm, rfl, HBm⟩ := hrel
            by_cases hml : m < j
            · obtain ⟨z, hz⟩ : ∃ z, ks[m]? = some z := ⟨_, List.getElem?_eq_getElem (by omega)⟩
              have cy := cell_later HBm.out (HA.out j y HY.out)
              have cz := cell_later HBm.out (HA.out m z hz)
              have hne : z ≠ y := fun e => by
                have := nodup_at HT3.out.nodup hz (e ▸ HY.out)
                omega
              have hq := ne_bytes hne
              clear hz hne
              have hjj : (j : Int) < ks.length := by omega
              have hmm : (m : Int) < ks.length := by omega
              go_wp2_with fail
              go_quiet (fail)
              go_wp2
              go_roundw
              case rel => exact ⟨m + 1, by omega, by go_num, Lib.hid (belN HBm.out _)⟩
              case measure => simp [intOf]; omega
            · go_wp2
              go_roundw
              case rel => exact ⟨j + 1, by omega, by go_num, HBm⟩
              case measure => simp [intOf]; omega
        · have HTR := Lib.hid (HT3.out.same HBq.out)
          have hle : ((ks.length : Int) ≤ (l.length : Int)) := by omega
          (go_wp2_with fail; go_fit (len_in HTR.out); rintro e w' ⟨rfl, rfl⟩)
          go_wp2
          go_ret
          exact ⟨rfl, HTR.out.below⟩
namespace tableBack
open Go.ChangeShapes Go.WideShapes Go.ChangeAt Go.RowKit
theorem own : ownKnob Try.prog.godebug = none := by kernel_rfl
theorem laidOut : laidOutB Try.prog = true := by kernel_rfl
set_option linter.unusedVariables false
set_option maxRecDepth 100000 in
theorem lifted (os : Os) (started : os.Started) (H : Type) (enc : TypeId × Value → H) :
    ReturnsInHanded {} Try.checked os 5 .any (Rows.tableBackSpec.pre6 enc Try.prog Try.f5 Rows.tableBackRow.domain false) (Rows.tableBackSpec.post enc Try.prog Try.f5 false true false false) := by
  refine returnsInHanded_of_change_sized (C := Try.checked) own started (by kernel_rfl) Try.func5
    (ChangeSpec.witness6 (enc := enc) (C := Try.checked) false ⟨#[], #[.slice none 0 0], []⟩ 8 (by kernel_rfl) (by kernel_rfl) (by kernel_rfl) (by kernel_rfl)) ?_
  intro W base args ds gs before hval0 hW hcnd hsz0 _
  have hval : ∀ (j : Nat) t v, Try.f5.params[j]? = some t → args[j]? = some v → Value.okWide Try.prog W .any base t v := hval0
  have hW' := hW
  obtain ⟨p, q, hA0, hV, rfl, hfz, hnd⟩ := hW
  have hA : DataW.TrodAll enc Try.prog W 0 (fun _ => true) true Try.f5.params.toList args.toList ds p := hA0
  have hsz : (DataW.weightsEach Try.prog (Try.f5.params.toList ++ []) (ds ++ gs)).all (· ≤ reachBytes) = true := hsz0
  rw [Try.params5] at hA hval hsz
  obtain ⟨v0, vs0, d0, ds0, p0, q0, hargs, rfl, rfl, h0, r0⟩ := trodAll_cons hA
  obtain ⟨rfl, rfl, rfl⟩ := trodAll_nil r0
  obtain rfl : args = #[v0] := by cases args; simp_all
  obtain ⟨rfl, rfl⟩ := trodVars_none hV
  clear hA0 hval0 hsz0
  have k0 := h0
  have lt0 := lt_of_trod h0
  obtain ⟨a0, w0⟩ := strs_of_trod Try.underlying34 Try.underlying9 (by kernel_rfl) (by kernel_rfl) (by obtain ⟨x, y, z, e⟩ := okWide_slice Try.underlying34 (hval 0 34 v0 rfl rfl); exact ⟨x, y, z, e⟩) h0 (weights_ok hsz (j := 0) (t := 34) (d := d0) rfl rfl)
  refine (back_any w0).mono fun e W' ⟨he, bel⟩ => ?_
  subst he
  exact ⟨_, rfl, _, _, _, [], _, [], hW', trodAll_mk1 (shut_bool Try.underlying4 _), (trodAll_cons_mk (Below.trod laidOut (by kernel_rfl) (of_decide_eq_true (by kernel_rfl)) k0 bel lt0) trodAll_mk0), rfl, bel.frame _, fun h => by cases h⟩
theorem proved : Rows.TableBackSaid :=
  OpenClaim.holds_of_wide 5 Try.f5 rfl rfl rfl rfl rfl rfl rfl ⟨rfl, rfl, rfl, rfl, rfl⟩ rfl rfl rfl rfl rfl (by kernel_rfl) Try.func5 (by kernel_rfl)
    (of_decide_eq_true (by kernel_rfl)) (by unfold Func.isWrapper; first | (rw [if_pos (by decide +kernel)]; kernel_rfl) | (rw [if_neg (by decide +kernel)]; exact ⟨rfl, rfl⟩))
    (fun os started H enc _ => lifted os started H enc)
#print axioms proved
end tableBack

end Go.Proofs.Ytjpdigdocdppbaa
