/- The law's own: two rows of numbers alike. -/
import Derived.Test.YthikbenfhaglkaaNums
import Derived.Test.YthikbenfhaglkaaQ
import Derived.Test.YthikbenfhaglkaaRows
import Derived.Deep.QuietTactic
namespace Go.Proofs.Ythikbenfhaglkaa
open Go.RowKit
set_option linter.unusedVariables false

set_option maxHeartbeats 2000000 in
theorem nums_at {w : World} {v v' : Value} {l l' : List Int} (h : Nums w v l) (h' : Nums w v' l') : Calls Try.prog 26 #[v, v'] w fun e w' => e = .returned (.bool (l == l')) ∧ Below w.heap.size w w' := by
  obtain ⟨a, c, rfl, h1, h2⟩ := h.len
  obtain ⟨a', c', rfl, h1', h2'⟩ := h'.len
  unfold maxLen at h2 h2'
  obtain ⟨m, hm⟩ : ∃ m, l.length = m := ⟨_, rfl⟩
  obtain ⟨m', hm'⟩ : ∃ m', l'.length = m' := ⟨_, rfl⟩
  by_cases g : m = m'
  · subst g
    have HU := Lib.hid h
    have HU' := Lib.hid h'
    rw [hm] at h1 h HU ⊢
    rw [hm'] at h1' h' HU' ⊢
    have HM := Lib.hid hm
    have HM' := Lib.hid hm'
    obtain ⟨r, hr⟩ : ∃ r, (l == l') = r := ⟨_, rfl⟩
    rw [hr]
    have HR := Lib.hid hr
    clear h h' hm hm' hr
    go_enter Try.func26, Try.ntmps26
    go_wp2_with fail
    go_loopw [5] (fun v wr => ∃ i : Nat, i ≤ m ∧ v = .int .i64 i ∧ Hid (l.take i = l'.take i) ∧ Hid (Below w.heap.size w wr)) (fun v _ => m - (intOf v).toNat)
    case atStart => exact ⟨0, Nat.zero_le _, rfl, Lib.hid rfl, Lib.hid (Below.refl _ _)⟩
    case round =>
      obtain ⟨i, hi, rfl, HT, HB⟩ := hrel
      by_cases hil : i < m
      · obtain ⟨x, hx⟩ : ∃ x, l[i]? = some x := ⟨_, List.getElem?_eq_getElem (by rw [HM.out]; exact hil)⟩
        obtain ⟨y, hy⟩ : ∃ y, l'[i]? = some y := ⟨_, List.getElem?_eq_getElem (by rw [HM'.out]; exact hil)⟩
        obtain ⟨b, off, rfl, _, c0⟩ := (HU.out.ext HB.out).get hx
        obtain ⟨b', off', rfl, _, d0⟩ := (HU'.out.ext HB.out).get hy
        by_cases hxy : x = y
        · subst hxy
          have HT2 : Hid (l.take (i + 1) = l'.take (i + 1)) := Lib.hid (by rw [List.take_add_one, List.take_add_one, hx, hy, HT.out])
          clear hx hy HT
          go_wp2_with fail
          go_quiet (fail)
          go_wp2
          go_roundw
          case rel => exact ⟨i + 1, by omega, by go_num, HT2, Lib.hid (bel_drewN HB.out _)⟩
          case measure => simp [intOf]; omega
        · have hrf : r = false := by
            rw [← HR.out]
            apply beq_false_of_ne
            intro e
            rw [e, hy] at hx
            exact hxy (Option.some.inj hx).symm
          subst hrf
          have hxy' : (x != y) = true := by simpa using hxy
          clear hx hy HT HR
          go_wp2_with fail
          go_quiet (fail)
          go_wp2
          go_ret
          exact ⟨rfl, bel_drewN HB.out _⟩
      · have hrt : r = true := by
          rw [← HR.out]
          have := HT.out
          rw [List.take_of_length_le (by rw [HM.out]; omega), List.take_of_length_le (by rw [HM'.out]; omega)] at this
          rw [this]; exact beq_self_eq_true _
        subst hrt
        go_wp2
        go_ret
        exact ⟨rfl, HB.out⟩
  · have hr : (l == l') = false := beq_false_of_ne (fun e => g (by rw [← hm, ← hm', e]))
    rw [hr]
    rw [hm] at h1 ⊢
    rw [hm'] at h1' ⊢
    have g' : ((m : Int) != m') = true := by simp; omega
    have gn : ¬ (m : Int) = m' := by omega
    clear hm hm' h h' hr
    go_enter Try.func26, Try.ntmps26
    go_wp2
    go_ret
    exact ⟨rfl, Below.refl _ _⟩
end Go.Proofs.Ythikbenfhaglkaa
