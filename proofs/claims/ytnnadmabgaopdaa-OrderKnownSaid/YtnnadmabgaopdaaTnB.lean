/- Package term: Size. -/
import Derived.Test.YtnnadmabgaopdaaTnA
namespace Go.Proofs.Ytnnadmabgaopdaa
open Go.RowKit
set_option linter.unusedVariables false

theorem sizes_drop' : ∀ {ts : List Tm} {i : Nat} {y : Tm}, ts[i]? = some y → sizesN (ts.take (i + 1)) = sizesN (ts.take i) + sizeN y
  | x :: r, 0, y, h => by
    simp at h; subst h
    simp [sizesN]
  | x :: r, i + 1, y, h => by
    have := sizes_drop' (ts := r) (i := i) (y := y) (by simpa using h)
    simp only [List.take_succ_cons, sizesN, this]
    omega
  | [], i, y, h => by simp at h
theorem sizes_take' (ts : List Tm) (i : Nat) : sizesN (ts.take i) ≤ sizesN ts := by
  induction ts generalizing i with
  | nil => simp
  | cons x r ih =>
    cases i with
    | zero => simp [sizesN]
    | succ i =>
      simp only [List.take_succ_cons, sizesN]
      have := ih i
      omega
theorem TmV.four {w : World} {x : Tm} {v : Value} (h : TmV w x v) : ∃ k n s u, v = .agg #[.int .i64 k, .int .i64 n, .string s, u] := by
  obtain ⟨u, rfl⟩ := h.pair
  exact ⟨_, _, _, _, rfl⟩
set_option maxHeartbeats 2000000 in
set_option maxRecDepth 100000 in
theorem count_at : ∀ (N : Nat) (x : Tm), sizeN x ≤ N → ∀ (q : Nat), 1 ≤ q → q ≤ 1000000 → ∀ (w : World) (v : Value), TmV w x v →
    Calls Try.prog 37 #[v, .int .i64 q] w fun e w' => e = .returned (.int .i64 (min (sizeN x) q : Nat)) ∧ Below w.heap.size w w'
  | 0, x, h, q, hq1, hq, w, v, hv => by have := size_pos x; omega
  | N + 1, .mk k n s ts, h, q, hq1, hq, w, v, hv => by
    obtain ⟨u, rfl, hs, hk, hn, hu⟩ := tmV_iff.1 hv
    obtain ⟨a, c, rfl, h1, h2, h3⟩ := hu.len
    unfold BIG at h3
    obtain ⟨m, hm⟩ : ∃ m, ts.length = m := ⟨_, rfl⟩
    have IH := Lib.hid (fun (y : Tm) (hy : y ∈ ts) => count_at N y (mem_size h hy))
    have HU := Lib.hid hu
    have HM := Lib.hid hm
    rw [hm] at h1 h3 hu HU ⊢
    obtain ⟨r, hr⟩ : ∃ r, min (sizeN (.mk k n s ts)) q = r := ⟨_, rfl⟩
    rw [hr]
    have HR := Lib.hid (show min (sizesN ts + 1) q = r by rw [← hr, sizeN])
    clear hv hu hm hr h
    go_enter Try.func37, Try.ntmps37
    go_wp2_with fail
    go_loopw [5, 11] (fun z v wr => ∃ i t : Nat, i ≤ m ∧ v = .int .i64 i ∧ z = .int .i64 t ∧ Hid (t = min (sizesN (ts.take i) + 1) q) ∧ t ≤ q ∧ Hid (Below (w.alloc (.cells #[.int .i64 k, .int .i64 n, .string s, .slice a m c] 25)).heap.size (w.alloc (.cells #[.int .i64 k, .int .i64 n, .string s, .slice a m c] 25)) wr)) (fun _ v _ => m - (intOf v).toNat)
    case atStart => exact ⟨0, 1, Nat.zero_le _, rfl, rfl, Lib.hid (by simp [sizesN]; omega), by omega, Lib.hid (Below.refl _ _)⟩
    case round =>
      obtain ⟨i, t, hi, rfl, rfl, HT, ht, HB⟩ := hrel
      have HBW := Lib.hid (Ext.trans' (bel1' w _) HB.out)
      by_cases hil : i < m
      · obtain ⟨y, hy⟩ : ∃ y, ts[i]? = some y := ⟨_, List.getElem?_eq_getElem (by rw [HM.out]; exact hil)⟩
        have hst := sizes_take' ts (i + 1)
        have hds := sizes_drop' hy
        obtain ⟨b, off, k', n', s', u', rfl, hbb, _, _, _, c0, c1, c2, c3, htu, hty⟩ := (HU.out.ext HBW.out).get hy
        obtain ⟨au, cu, rfl, _⟩ := htu.len
        clear htu
        by_cases htq : t < q
        · obtain ⟨d, hd⟩ : ∃ d, q - t = d := ⟨_, rfl⟩
          have hqt : (q : Int) - t = d := by omega
          have htq' : ((t : Int) == q) = false := by apply beq_false_of_ne; omega
          have HNE := Lib.hid (show ¬ t = q by omega)
          have ih := IH.out y (List.mem_of_getElem? hy) d (by omega) (by omega) _ _ (TmV.ext (bel1' wr (box4 k' n' s' (.slice au y.args.length cu) 25)) _ _ hty)
          obtain ⟨z, hz⟩ : ∃ z, min (sizeN y) d = z := ⟨_, rfl⟩
          rw [hz] at ih
          have HN : Hid (t + z = min (sizesN (ts.take (i + 1)) + 1) q) := Lib.hid (by
            have := HT.out
            rw [hds]
            omega)
          have hzd : z ≤ d := by omega
          have hzq : t + z ≤ q := by omega
          clear hst hds hz hy hty hd HT
          (go_wp2_with fail; go_fit (ih); rintro e w2 ⟨rfl, b2⟩)
          have B2 := Lib.hid (Ext.trans' HB.out (Ext.trans' (bel1' _ _) b2))
          clear b2
          go_wp2
          go_roundw
          case rel => exact ⟨i + 1, t + z, by omega, by go_num, by go_num, HN, hzq, B2⟩
          case measure => simp [intOf]; omega
        · have hrt : q = r := by
            have a1 := HT.out
            have a2 := HR.out
            have a3 := sizes_take' ts i
            omega
          have htq2 : t = q := by omega
          subst hrt htq2
          clear hst hds hy hty
          go_wp2
          go_ret
          exact ⟨rfl, Ext.trans' HBW.out (bel1' _ _)⟩
      · have hrt : t = r := by
          have a1 := HT.out
          have a2 := HR.out
          rw [List.take_of_length_le (by rw [HM.out]; omega)] at a1
          omega
        subst hrt
        go_wp2
        go_ret
        exact ⟨rfl, HBW.out⟩
theorem size_at (x : Tm) (w : World) (v : Value) (hv : TmV w x v) : Calls Try.prog 29 #[v] w fun e w' => e = .returned (.int .i64 (min (sizeN x) 2001 : Nat)) ∧ Below w.heap.size w w' := by
  have C := fun w (h : TmV w x v) => count_at _ x (Nat.le_refl _) 2001 (by omega) (by omega) w v h
  obtain ⟨z, hz⟩ : ∃ z, min (sizeN x) 2001 = z := ⟨_, rfl⟩
  rw [hz] at C ⊢
  obtain ⟨k, n, s, u, rfl⟩ := hv.four
  have hv0 := TmV.ext (bel1' w (box4 k n s u 25)) _ _ hv
  clear hz hv
  go_enter Try.func29, Try.ntmps29
  (go_wp2_with fail; go_fit (C _ hv0); rintro e w1 ⟨rfl, b1⟩)
  have B1 := Lib.hid (Ext.trans' (bel1' w _) b1)
  clear b1
  go_wp2
  go_ret
  exact ⟨rfl, B1.out⟩
end Go.Proofs.Ytnnadmabgaopdaa
