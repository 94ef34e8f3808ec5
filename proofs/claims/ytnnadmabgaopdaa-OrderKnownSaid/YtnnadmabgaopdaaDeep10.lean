/- Stage 10's laws: how deep a term is asked of. -/
import Derived.Test.YtnnadmabgaopdaaTmA
namespace Go.Proofs.Ytnnadmabgaopdaa
open Go.RowKit
set_option linter.unusedVariables false

set_option maxHeartbeats 2000000 in
theorem deep10_at : ∀ (N : Nat) (x : Tm), sizeN x ≤ N → ∀ (left : Int), I64 left → ∀ (w : World) (v : Value), TmV w x v →
    Calls Try.prog 15 #[v, .int .i64 left] w fun e w' => e = .returned (.bool (deepT x left)) ∧ Below w.heap.size w w'
  | 0, x, h, left, hl, w, v, hv => by have := size_pos x; omega
  | N + 1, .mk k n s ts, h, left, hl, w, v, hv => by
    obtain ⟨u, rfl, hs, hk, hn, hu⟩ := tmV_iff.1 hv
    obtain ⟨a, c, rfl, h1, h2, h3⟩ := hu.len
    unfold BIG at h3
    unfold I64 at hl
    have hD : deepT (.mk k n s ts) left = if left < 1 ∨ 12 < ts.length then true else deepsT ts (left - 1) := by rw [deepT]
    by_cases hlt : left < 1
    · rw [hD, if_pos (Or.inl hlt)]
      clear hD
      go_enter Try.func15, Try.ntmps15
      go_wp2
      go_ret
      exact ⟨rfl, bel1' _ _⟩
    obtain ⟨m, hm⟩ : ∃ m, ts.length = m := ⟨_, rfl⟩
    by_cases h12 : 12 < m
    · rw [hD, if_pos (Or.inr (by rw [hm]; exact h12))]
      rw [hm] at h1 h3 ⊢
      clear hD hv hu hm
      go_enter Try.func15, Try.ntmps15
      go_wp2
      go_ret
      exact ⟨rfl, bel1' _ _⟩
    rw [hD, if_neg (by rw [hm]; omega)]
    have hI : I64 (left - 1) := by unfold I64; omega
    have IH := Lib.hid (fun (y : Tm) (hy : y ∈ ts) => deep10_at N y (mem_size h hy) (left - 1) hI)
    have HU := Lib.hid hu
    have HM := Lib.hid hm
    rw [hm] at h1 h3 hu HU ⊢
    obtain ⟨r, hr⟩ : ∃ r, deepsT ts (left - 1) = r := ⟨_, rfl⟩
    rw [hr]
    have HR := Lib.hid hr
    clear hD hv hu hm hr h
    go_enter Try.func15, Try.ntmps15
    go_wp2_with fail
    go_loopw [5] (fun v wr => ∃ i : Nat, i ≤ m ∧ v = .int .i64 i ∧ Hid (deepsT (ts.drop i) (left - 1) = r) ∧ Hid (Below (w.alloc (.cells #[.int .i64 k, .int .i64 n, .string s, .slice a m c] 25)).heap.size (w.alloc (.cells #[.int .i64 k, .int .i64 n, .string s, .slice a m c] 25)) wr)) (fun v _ => m - (intOf v).toNat)
    case atStart => exact ⟨0, Nat.zero_le _, rfl, Lib.hid (by rw [List.drop_zero]; exact HR.out), Lib.hid (Below.refl _ _)⟩
    case round =>
      obtain ⟨i, hi, rfl, HD, HB⟩ := hrel
      obtain ⟨e0, e1, e2, e3⟩ := box_cells w 25 _ _ _ _ HB.out
      by_cases hil : i < m
      · obtain ⟨y, hy⟩ : ∃ y, ts[i]? = some y := ⟨_, List.getElem?_eq_getElem (by rw [HM.out]; exact hil)⟩
        have hdr : ts.drop i = y :: ts.drop (i + 1) := by
          obtain ⟨hlt', rfl⟩ := List.getElem?_eq_some_iff.1 hy
          exact List.drop_eq_getElem_cons hlt'
        have hd := HD.out
        rw [hdr, deepsT] at hd
        have HBW := Lib.hid (Ext.trans' (bel1' w _) HB.out)
        obtain ⟨b, off, k', n', s', u', rfl, hbb, _, _, _, c0, c1, c2, c3, _, ht⟩ := (HU.out.ext HBW.out).get hy
        have ih := IH.out y (List.mem_of_getElem? hy) wr _ ht
        clear hdr HD ht
        cases hq : deepT y (left - 1)
        · rw [hq, Bool.false_or] at hd
          rw [hq] at ih
          have HD := Lib.hid hd
          clear hq hd hy
          (go_wp2_with fail; go_fit (ih); rintro e w2 ⟨rfl, b2⟩)
          have B2 := Lib.hid (Ext.trans' HB.out b2)
          clear b2
          go_wp2
          go_roundw
          case rel => exact ⟨i + 1, by omega, by go_num, HD, B2⟩
          case measure => simp [intOf]; omega
        · rw [hq, Bool.true_or] at hd
          rw [hq] at ih
          subst hd
          clear hq hy HR
          (go_wp2_with fail; go_fit (ih); rintro e w2 ⟨rfl, b2⟩)
          have B2 := Lib.hid (Ext.trans' HBW.out b2)
          clear b2
          go_wp2
          go_ret
          exact ⟨rfl, B2.out⟩
      · have hd := HD.out
        rw [List.drop_eq_nil_of_le (by rw [HM.out]; omega), deepsT] at hd
        subst hd
        clear HR HD
        go_wp2
        go_ret
        exact ⟨rfl, Ext.trans' (bel1' w _) HB.out⟩
end Go.Proofs.Ytnnadmabgaopdaa
