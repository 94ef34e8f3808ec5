/- Terms: the document's Size, Depth. -/
import Derived.Test.YtnnadmabgaopdaaTmZ
namespace Go.Proofs.Ytnnadmabgaopdaa
open Go.RowKit
set_option linter.unusedVariables false

theorem sizes_drop : ∀ {ts : List Tm} {i : Nat} {y : Tm}, ts[i]? = some y → sizesN (ts.take (i + 1)) = sizesN (ts.take i) + sizeN y
  | x :: r, 0, y, h => by
    simp at h; subst h
    simp [sizesN]
  | x :: r, i + 1, y, h => by
    have := sizes_drop (ts := r) (i := i) (y := y) (by simpa using h)
    simp only [List.take_succ_cons, sizesN, this]
    omega
  | [], i, y, h => by simp at h
theorem depths_drop : ∀ {ts : List Tm} {i : Nat} {y : Tm}, ts[i]? = some y → depthsN (ts.take (i + 1)) = max (depthsN (ts.take i)) (depthN y)
  | x :: r, 0, y, h => by
    simp at h; subst h
    simp [depthsN]
  | x :: r, i + 1, y, h => by
    have := depths_drop (ts := r) (i := i) (y := y) (by simpa using h)
    simp only [List.take_succ_cons, depthsN, this]
    omega
  | [], i, y, h => by simp at h
theorem sizes_take (ts : List Tm) (i : Nat) : sizesN (ts.take i) ≤ sizesN ts := by
  induction ts generalizing i with
  | nil => simp
  | cons x r ih =>
    cases i with
    | zero => simp [sizesN]
    | succ i =>
      simp only [List.take_succ_cons, sizesN]
      have := ih i
      omega
set_option maxHeartbeats 2000000 in
set_option maxRecDepth 100000 in
theorem rsize_at : ∀ (N : Nat) (x : Tm), sizeN x ≤ N → ∀ (q : Nat), q ≤ 1000000 → ∀ (w : World) (v : Value), TmV w x v →
    Calls Try.prog 24 #[v, .int .i64 q] w fun e w' => e = .returned (.int .i64 (min (sizeN x) (q + 1) : Nat)) ∧ Below w.heap.size w w'
  | 0, x, h, q, hq, w, v, hv => by have := size_pos x; omega
  | N + 1, .mk k n s ts, h, q, hq, w, v, hv => by
    obtain ⟨u, rfl, hs, hk, hn, hu⟩ := tmV_iff.1 hv
    obtain ⟨a, c, rfl, h1, h2, h3⟩ := hu.len
    unfold BIG at h3
    obtain ⟨m, hm⟩ : ∃ m, ts.length = m := ⟨_, rfl⟩
    have IH := Lib.hid (fun (y : Tm) (hy : y ∈ ts) => rsize_at N y (mem_size h hy))
    have HU := Lib.hid hu
    have HM := Lib.hid hm
    rw [hm] at h1 h3 hu HU ⊢
    obtain ⟨r, hr⟩ : ∃ r, min (sizeN (.mk k n s ts)) (q + 1) = r := ⟨_, rfl⟩
    rw [hr]
    have HR := Lib.hid (show min (sizesN ts + 1) (q + 1) = r by rw [← hr, sizeN])
    clear hv hu hm hr h
    go_enter Try.func24, Try.ntmps24
    go_wp2_with fail
    go_loopw [5, 6] (fun z v wr => ∃ i t : Nat, i ≤ m ∧ v = .int .i64 i ∧ z = .int .i64 t ∧ Hid (t = min (sizesN (ts.take i) + 1) (q + 1)) ∧ t ≤ q + 1 ∧ Hid (Below (w.alloc (.cells #[.int .i64 k, .int .i64 n, .string s, .slice a m c] 38)).heap.size (w.alloc (.cells #[.int .i64 k, .int .i64 n, .string s, .slice a m c] 38)) wr)) (fun _ v _ => m - (intOf v).toNat)
    case atStart => exact ⟨0, 1, Nat.zero_le _, rfl, rfl, Lib.hid (by simp [sizesN]), by omega, Lib.hid (Below.refl _ _)⟩
    case round =>
      obtain ⟨i, t, hi, rfl, rfl, HT, ht, HB⟩ := hrel
      obtain ⟨e0, e1, e2, e3⟩ := box_cells w 38 _ _ _ _ HB.out
      have HBW := Lib.hid (Ext.trans' (bel1' w _) HB.out)
      by_cases hil : i < m
      · obtain ⟨y, hy⟩ : ∃ y, ts[i]? = some y := ⟨_, List.getElem?_eq_getElem (by rw [HM.out]; exact hil)⟩
        have hst := sizes_take ts (i + 1)
        have hds := sizes_drop hy
        by_cases htq : t ≤ q
        · obtain ⟨b, off, k', n', s', u', rfl, hbb, _, _, _, c0, c1, c2, c3, _, hty⟩ := (HU.out.ext HBW.out).get hy
          obtain ⟨d, hd⟩ : ∃ d, q - t = d := ⟨_, rfl⟩
          have hqt : (q : Int) - t = d := by omega
          have ih := IH.out y (List.mem_of_getElem? hy) d (by omega) wr _ hty
          obtain ⟨z, hz⟩ : ∃ z, min (sizeN y) (d + 1) = z := ⟨_, rfl⟩
          rw [hz] at ih
          have HN : Hid (t + z = min (sizesN (ts.take (i + 1)) + 1) (q + 1)) := Lib.hid (by
            have := HT.out
            rw [hds]
            omega)
          have hzd : z ≤ d + 1 := by omega
          have hzq : t + z ≤ q + 1 := by omega
          clear hst hds hz hy hty hd HT
          (go_wp2_with fail; go_fit (ih); rintro e w2 ⟨rfl, b2⟩)
          have B2 := Lib.hid (Ext.trans' HB.out b2)
          clear b2
          go_wp2
          go_roundw
          case rel => exact ⟨i + 1, t + z, by omega, by go_num, by go_num, HN, hzq, B2⟩
          case measure => simp [intOf]; omega
        · have hrt : t = r := by
            have a1 := HT.out
            have a2 := HR.out
            have a3 := sizes_take ts i
            omega
          subst hrt
          clear hst hds hy
          go_wp2
          go_ret
          exact ⟨rfl, HBW.out⟩
      · have hrt : t = r := by
          have a1 := HT.out
          have a2 := HR.out
          rw [List.take_of_length_le (by rw [HM.out]; omega)] at a1
          omega
        subst hrt
        go_wp2
        go_ret
        exact ⟨rfl, HBW.out⟩
set_option maxHeartbeats 2000000 in
set_option maxRecDepth 100000 in
theorem rdepth_at : ∀ (q : Nat) (x : Tm), q ≤ 1000000 → ∀ (w : World) (v : Value), TmV w x v →
    Calls Try.prog 25 #[v, .int .i64 q] w fun e w' => e = .returned (.int .i64 (min (depthN x) (q + 1) : Nat)) ∧ Below w.heap.size w w'
  | 0, .mk k n s ts, hq, w, v, hv => by
    obtain ⟨u, rfl, hs, hk, hn, hu⟩ := tmV_iff.1 hv
    rw [show min (depthN (.mk k n s ts)) (0 + 1) = 1 by have := depth_pos (.mk k n s ts); omega]
    go_enter Try.func25, Try.ntmps25
    go_wp2
    go_ret
    exact ⟨rfl, bel1' _ _⟩
  | q + 1, .mk k n s ts, hq, w, v, hv => by
    obtain ⟨u, rfl, hs, hk, hn, hu⟩ := tmV_iff.1 hv
    obtain ⟨a, c, rfl, h1, h2, h3⟩ := hu.len
    unfold BIG at h3
    obtain ⟨m, hm⟩ : ∃ m, ts.length = m := ⟨_, rfl⟩
    have IH := Lib.hid (fun (y : Tm) => rdepth_at q y (by omega))
    have HU := Lib.hid hu
    have HM := Lib.hid hm
    rw [hm] at h1 h3 hu HU ⊢
    obtain ⟨r, hr⟩ : ∃ r, min (depthN (.mk k n s ts)) (q + 1 + 1) = r := ⟨_, rfl⟩
    rw [hr]
    have HR := Lib.hid (show min (depthsN ts + 1) (q + 2) = r by rw [← hr, depthN])
    clear hv hu hm hr
    obtain ⟨Q, hQ⟩ : ∃ Q : Int, ((q + 1 : Nat) : Int) = Q := ⟨_, rfl⟩
    rw [hQ]
    have hq1 : Q - 1 = q := by omega
    have hQ0 : ¬ Q ≤ 0 := by omega
    have hQb : Q ≤ 1000000 := by omega
    clear hQ
    go_enter Try.func25, Try.ntmps25
    go_wp2_with fail
    go_loopw [5, 6] (fun z v wr => ∃ i t : Nat, i ≤ m ∧ v = .int .i64 i ∧ z = .int .i64 t ∧ Hid (t = min (depthsN (ts.take i)) (q + 1)) ∧ t ≤ q + 1 ∧ Hid (Below (w.alloc (.cells #[.int .i64 k, .int .i64 n, .string s, .slice a m c] 38)).heap.size (w.alloc (.cells #[.int .i64 k, .int .i64 n, .string s, .slice a m c] 38)) wr)) (fun _ v _ => m - (intOf v).toNat)
    case atStart => exact ⟨0, 0, Nat.zero_le _, rfl, rfl, Lib.hid (by simp [depthsN]), by omega, Lib.hid (Below.refl _ _)⟩
    case round =>
      obtain ⟨i, t, hi, rfl, rfl, HT, ht, HB⟩ := hrel
      obtain ⟨e0, e1, e2, e3⟩ := box_cells w 38 _ _ _ _ HB.out
      have HBW := Lib.hid (Ext.trans' (bel1' w _) HB.out)
      by_cases hil : i < m
      · obtain ⟨y, hy⟩ : ∃ y, ts[i]? = some y := ⟨_, List.getElem?_eq_getElem (by rw [HM.out]; exact hil)⟩
        have hds := depths_drop hy
        obtain ⟨b, off, k', n', s', u', rfl, hbb, _, _, _, c0, c1, c2, c3, _, hty⟩ := (HU.out.ext HBW.out).get hy
        have ih := IH.out y wr _ hty
        obtain ⟨z, hz⟩ : ∃ z, min (depthN y) (q + 1) = z := ⟨_, rfl⟩
        rw [hz] at ih
        have HN : Hid (max t z = min (depthsN (ts.take (i + 1))) (q + 1)) := Lib.hid (by
          have := HT.out
          rw [hds]
          omega)
        have hzd : z ≤ q + 1 := by omega
        clear hds hz hy hty HT
        by_cases htz : t < z
        · have HM2 := Lib.hid (show max t z = z by omega)
          (go_wp2_with fail; go_fit (ih); rintro e w2 ⟨rfl, b2⟩)
          have B2 := Lib.hid (Ext.trans' HB.out b2)
          clear b2
          go_wp2
          go_roundw
          case rel => exact ⟨i + 1, z, by omega, by go_num, rfl, Lib.hid (by rw [← HN.out, HM2.out]), hzd, B2⟩
          case measure => simp [intOf]; omega
        · have HM2 := Lib.hid (show max t z = t by omega)
          (go_wp2_with fail; go_fit (ih); rintro e w2 ⟨rfl, b2⟩)
          have B2 := Lib.hid (Ext.trans' HB.out b2)
          clear b2
          go_wp2
          go_roundw
          case rel => exact ⟨i + 1, t, by omega, by go_num, rfl, Lib.hid (by rw [← HN.out, HM2.out]), ht, B2⟩
          case measure => simp [intOf]; omega
      · have hrt : t + 1 = r := by
          have a1 := HT.out
          have a2 := HR.out
          rw [List.take_of_length_le (by rw [HM.out]; omega)] at a1
          omega
        subst hrt
        go_wp2
        go_ret
        exact ⟨ret_int (by omega), HBW.out⟩
end Go.Proofs.Ytnnadmabgaopdaa
