import Derived.Test.YtchbbaehdcmcfaaHdtzz
import Derived.Test.YtchbbaehdcmcfaaHdtac
import Derived.Test.YtchbbaehdcmcfaaHdtab
import Derived.Lib.Strings
import Derived.Test.YtchbbaehdcmcfaaHdtaa
import Derived.Test.YtchbbaehdcmcfaaRows
import Derived.Shelf.SlGeneric
import Derived.Shelf.SlIterI.Nil
import Derived.Ground.GgzProg
import Derived.Shelf.Spec.SlicesGrow
import Derived.Ground.Names7Prog
import Derived.Test.YtchbbaehdcmcfaaProg
import Derived.Deep.RegionHeld3
set_option linter.unusedVariables false
set_option linter.unusedSimpArgs false
/- Package index: Of; the document's KeyOf. -/
namespace Go.Proofs.Ytchbbaehdcmcfaa
open Go.RowKit
set_option linter.unusedVariables false
theorem argKey_is {a : Tm} (h : formedT a = true) (hk : a.k ≠ 0) : argKey a = ⟨a.k, a.n, a.s, (a.args.length : Nat)⟩ := by
 rcases formed_kids h with ⟨g, _⟩ | ⟨g, e⟩ | ⟨g, e⟩
 ·exact absurd g hk
 ·unfold argKey
  rw [if_neg hk, if_pos g]
  have e1 : a.s = ⟨#[]⟩ := by rw [e]; rfl
  have e2 : a.args = [] := by rw [e]; rfl
  rw [g, e1, e2]
  rfl
 ·unfold argKey
  rw [if_neg hk, if_neg (by rw [g]; decide)]
  have e1 : a.n = 0 := by rw [e]; rfl
  rw [g, e1]
theorem i64of2 : I64 2 := ⟨by decide, by decide⟩
theorem i64of0 : I64 0 := ⟨by decide, by decide⟩
set_option maxHeartbeats 4000000 in
set_option maxRecDepth 100000 in
theorem ixOf_at (t : Tm) (w : World) (v : Value) (hv : TmV w t v) : Calls Try.prog 41 #[v] w fun e w' => e = .returned (ixV (keyT t)) ∧ Below w.heap.size w w' := by
 have HV := Lib.hid hv
 obtain ⟨k, n, s, ts⟩ := t
 obtain ⟨u, rfl, hss, hkk, hnn, hts⟩ := tmV_iff.1 hv
 obtain ⟨a, c, rfl, ha1, ha2, ha3⟩ := hts.len
 unfold maxLen at ha2
 unfold BIG at ha3
 obtain ⟨m, hm⟩ : ∃ m, ts.length = m := ⟨_, rfl⟩
 have HM := Lib.hid hm
 have HT := Lib.hid hts
 obtain ⟨R, hR⟩ : ∃ R, keyT (.mk k n s ts) = R := ⟨_, rfl⟩
 have HR := Lib.hid hR
 rw [hR]
 rw [hm] at HV HT ha1 ha3 ⊢
 obtain ⟨w1, e1, B1, z1, X1⟩ := box_new w #[.int .i64 k, .int .i64 n, .string s, .slice a m c] 31
 obtain ⟨w2, e2, B2, z2, X2⟩ := box_new w1 #[.int .i64 0, .int .i64 0, .string ⟨#[]⟩, .int .i64 0] 76
 have hB := Ext.trans' B1 B2
 rw [z1] at X2
 have HE := Lib.hid (And.intro e1 e2)
 have HB := Lib.hid hB
 have HX := Lib.hid (And.intro (X1.ext B2) X2)
 obtain ⟨x0, x1, x2, x3, _⟩ := HX.out.1.four
 clear e1 e2 B1 B2 z1 z2 X1 X2 hB hv hss hkk hnn hts hm hR
 go_enter Try.func41, Try.ntmps41
 go_upto_region 1 with fail
 (try rw [HE.out.1])
 (try rw [HE.out.2])
 clear HE
 by_cases hm0 : m = 0
 ·subst hm0
  have hr : R = zeroKey := by
   rw [← HR.out]
   unfold keyT
   split
   ·rw [show (Tm.mk k n s ts).args = [] from List.length_eq_zero_iff.1 HM.out]
   ·rfl
  obtain ⟨y0, y1, y2, y3, yf⟩ := HX.out.2.four
  have hb2 := Below.set4 (b := w.heap.size + 1) HB.out (by omega) (.int .i64 0) (.int .i64 0) (.string ⟨#[]⟩) (.int .i64 0)
  go_wp2
  refine bodyPost_ret (v := .agg #[.int .i64 0, .int .i64 0, .string ⟨#[]⟩, .int .i64 0]) (by rw [results_cell1 rfl]; go_simp) rfl ⟨by first | rfl | (rw [hr]; rfl), hb2⟩
 have hm1 : ((m : Int) == 0) = false := by simp; omega
 have C := Good_at (.mk k n s ts) w2 _ (TmV.ext HB.out _ _ HV.out)
 cases hg : goodT (.mk k n s ts)
 ·rw [hg] at C
  (go_wp2_with fail; go_fit (C); rintro e w3 ⟨rfl, b3⟩)
  have hr : R = zeroKey := by rw [← HR.out]; unfold keyT; rw [if_neg (by rw [hg]; simp)]
  obtain ⟨y0, y1, y2, y3, yf⟩ := (HX.out.2.ext b3).four
  have hb2 := Below.set4 (b := w.heap.size + 1) (Ext.trans' HB.out b3) (by omega) (.int .i64 0) (.int .i64 0) (.string ⟨#[]⟩) (.int .i64 0)
  clear hg b3 C x0 x1 x2 x3
  go_wp2
  refine bodyPost_ret (v := .agg #[.int .i64 0, .int .i64 0, .string ⟨#[]⟩, .int .i64 0]) (by rw [results_cell1 rfl]; go_simp) rfl ⟨by first | rfl | (rw [hr]; rfl), hb2⟩
 rw [hg] at C
 (go_wp2_with fail; go_fit (C); rintro e w3 ⟨rfl, b3⟩)
 have HB3 := Lib.hid (Ext.trans' HB.out b3)
 have HX3 := Lib.hid (And.intro (HX.out.1.ext b3) (HX.out.2.ext b3))
 have HG := Lib.hid hg
 clear hg b3 C x0 x1 x2 x3
 obtain ⟨x0, x1, x2, x3, _⟩ := HX3.out.1.four
 obtain ⟨y, hy⟩ : ∃ y, ts[0]? = some y := ⟨_, List.getElem?_eq_getElem (by rw [HM.out]; omega)⟩
 obtain ⟨b, off, k1, n1, s1, u1, rfl, hbb, g1, g2, g3, c0, c1, c2, c3, hu1, ht⟩ := HT.out.get hy
 obtain ⟨a1, l1, rfl, _, hl2, _⟩ := hu1.len
 unfold maxLen at hl2
 replace c0 := cell_later HB3.out c0
 replace c1 := cell_later HB3.out c1
 replace c2 := cell_later HB3.out c2
 replace c3 := cell_later HB3.out c3
 rw [Nat.zero_mul, Nat.add_zero] at c0 c1 c2 c3
 have hR : R = argKey y := by
  rw [← HR.out]
  unfold keyT
  rw [if_pos HG.out]
  show (match ts with | [] => zeroKey | a :: _ => argKey a) = _
  cases ts with
  | nil => simp at hy
  | cons q r => injection hy with hy; rw [hy]
 have hf : formedT y = true := (good_parts (good_arg HG.out (t := .mk k n s ts) (List.mem_of_getElem? hy))).2.2
 have HKey := Lib.hid (And.intro hR (And.intro hf (And.intro g1 (And.intro g2 g3))))
 obtain ⟨q, hq⟩ : ∃ q, y.args.length = q := ⟨_, rfl⟩
 have HQ := Lib.hid hq
 rw [hq] at c3
 clear hR hf g1 g2 g3 hu1 ht hy hbb hq
 go_upto_region 4 with fail
 obtain ⟨w4, e4, B4, z4, X4⟩ := box_new w3 #[.int .i64 k1, .int .i64 n1, .string s1, .slice a1 q l1] 31
 (try rw [e4])
 obtain ⟨z0, zz1, zz2, zz3, _⟩ := X4.four
 obtain ⟨y0, y1, y2, y3, yf⟩ := (HX3.out.2.ext B4).four
 have HB4 := Lib.hid (Ext.trans' HB3.out B4)
 clear e4 B4 z4 X4 x0 x1 x2 x3 c0 c1 c2 c3
 by_cases hk1 : k1 = 0
 ·have hk1' : (k1 == 0) = true := by simpa using hk1
  have hr : R = zeroKey := by
   rw [HKey.out.1]
   unfold argKey
   rw [if_pos (by rw [HKey.out.2.2.1]; exact hk1)]
  have hb2 := Below.set4 (b := w.heap.size + 1) HB4.out (by omega) (.int .i64 0) (.int .i64 0) (.string ⟨#[]⟩) (.int .i64 0)
  go_wp2
  refine bodyPost_ret (v := .agg #[.int .i64 0, .int .i64 0, .string ⟨#[]⟩, .int .i64 0]) (by rw [results_cell1 rfl]; go_simp) rfl ⟨by first | rfl | (rw [hr]; rfl), hb2⟩
 ·have hk1' : (k1 == 0) = false := by simpa using hk1
  have hr : R = ⟨k1, n1, s1, (q : Int)⟩ := by
   rw [HKey.out.1, argKey_is HKey.out.2.1 (by rw [HKey.out.2.2.1]; exact hk1), HKey.out.2.2.1, HKey.out.2.2.2.1, HKey.out.2.2.2.2, HQ.out]
  have hb2 := Below.set4 (b := w.heap.size + 1) HB4.out (by omega) (.int .i64 k1) (.int .i64 n1) (.string s1) (.int .i64 (q : Int))
  go_wp2
  refine bodyPost_ret (v := .agg #[.int .i64 k1, .int .i64 n1, .string s1, .int .i64 (q : Int)]) (by rw [results_cell1 rfl]; go_simp) rfl ⟨by first | rfl | rw [hr], hb2⟩
end Go.Proofs.Ytchbbaehdcmcfaa
/- Terms: the document's Size, Depth. -/
namespace Go.Proofs.Ytchbbaehdcmcfaa
open Go.RowKit
set_option linter.unusedVariables false
theorem sizes_drop : ∀ {ts : List Tm} {i : Nat} {y : Tm}, ts[i]? = some y → sizesN (ts.take (i + 1)) = sizesN (ts.take i) + sizeN y
  | x :: r, 0, y, h => by
    simp at h; subst h
    simp [sizesN]
  | x :: r, i + 1, y, h => by
    have := sizes_drop (ts := r) (i := i) (y := y) (by simpa using h)
    simp only [List.take_succ_cons, sizesN, this]
    omega
  | [], i, y, h => by simp at h
theorem depths_drop : ∀ {ts : List Tm} {i : Nat} {y : Tm}, ts[i]? = some y → depthsN (ts.take (i + 1)) = max (depthsN (ts.take i)) (depthN y)
  | x :: r, 0, y, h => by
    simp at h; subst h
    simp [depthsN]
  | x :: r, i + 1, y, h => by
    have := depths_drop (ts := r) (i := i) (y := y) (by simpa using h)
    simp only [List.take_succ_cons, depthsN, this]
    omega
  | [], i, y, h => by simp at h
theorem sizes_take (ts : List Tm) (i : Nat) : sizesN (ts.take i) ≤ sizesN ts := by
  induction ts generalizing i with
  | nil => simp
  | cons x r ih =>
    cases i with
    | zero => simp [sizesN]
    | succ i =>
      simp only [List.take_succ_cons, sizesN]
      have := ih i
      omega
set_option maxHeartbeats 2000000 in
set_option maxRecDepth 100000 in
theorem rsize_at : ∀ (N : Nat) (x : Tm), sizeN x ≤ N → ∀ (q : Nat), q ≤ 1000000 → ∀ (w : World) (v : Value), TmV w x v →
    Calls Try.prog 76 #[v, .int .i64 q] w fun e w' => e = .returned (.int .i64 (min (sizeN x) (q + 1) : Nat)) ∧ Below w.heap.size w w'
  | 0, x, h, q, hq, w, v, hv => by have := size_pos x; omega
  | N + 1, .mk k n s ts, h, q, hq, w, v, hv => by
    obtain ⟨u, rfl, hs, hk, hn, hu⟩ := tmV_iff.1 hv
    obtain ⟨a, c, rfl, h1, h2, h3⟩ := hu.len
    unfold BIG at h3
    obtain ⟨m, hm⟩ : ∃ m, ts.length = m := ⟨_, rfl⟩
    have IH := Lib.hid (fun (y : Tm) (hy : y ∈ ts) => rsize_at N y (mem_size h hy))
    have HU := Lib.hid hu
    have HM := Lib.hid hm
    rw [hm] at h1 h3 hu HU ⊢
    obtain ⟨r, hr⟩ : ∃ r, min (sizeN (.mk k n s ts)) (q + 1) = r := ⟨_, rfl⟩
    rw [hr]
    have HR := Lib.hid (show min (sizesN ts + 1) (q + 1) = r by rw [← hr, sizeN])
    clear hv hu hm hr h
    go_enter Try.func76, Try.ntmps76
    go_wp2_with fail
    go_loopw [5, 6] (fun z v wr => ∃ i t : Nat, i ≤ m ∧ v = .int .i64 i ∧ z = .int .i64 t ∧ Hid (t = min (sizesN (ts.take i) + 1) (q + 1)) ∧ t ≤ q + 1 ∧ Hid (Below (w.alloc (.cells #[.int .i64 k, .int .i64 n, .string s, .slice a m c] 54)).heap.size (w.alloc (.cells #[.int .i64 k, .int .i64 n, .string s, .slice a m c] 54)) wr)) (fun _ v _ => m - (RowKit.intOf v).toNat)
    case atStart => exact ⟨0, 1, Nat.zero_le _, rfl, rfl, Lib.hid (by simp [sizesN]), by omega, Lib.hid (Below.refl _ _)⟩
    case round =>
      obtain ⟨i, t, hi, rfl, rfl, HT, ht, HB⟩ := hrel
      obtain ⟨e0, e1, e2, e3⟩ := box_cells w 54 _ _ _ _ HB.out
      have HBW := Lib.hid (Ext.trans' (bel1' w _) HB.out)
      by_cases hil : i < m
      · obtain ⟨y, hy⟩ : ∃ y, ts[i]? = some y := ⟨_, List.getElem?_eq_getElem (by rw [HM.out]; exact hil)⟩
        have hst := sizes_take ts (i + 1)
        have hds := sizes_drop hy
        by_cases htq : t ≤ q
        · obtain ⟨b, off, k', n', s', u', rfl, hbb, _, _, _, c0, c1, c2, c3, _, hty⟩ := (HU.out.ext HBW.out).get hy
          obtain ⟨d, hd⟩ : ∃ d, q - t = d := ⟨_, rfl⟩
          have hqt : (q : Int) - t = d := by omega
          have ih := IH.out y (List.mem_of_getElem? hy) d (by omega) wr _ hty
          obtain ⟨z, hz⟩ : ∃ z, min (sizeN y) (d + 1) = z := ⟨_, rfl⟩
          rw [hz] at ih
          have HN : Hid (t + z = min (sizesN (ts.take (i + 1)) + 1) (q + 1)) := Lib.hid (by
            have := HT.out
            rw [hds]
            omega)
          have hzd : z ≤ d + 1 := by omega
          have hzq : t + z ≤ q + 1 := by omega
          clear hst hds hz hy hty hd HT
          (go_wp2_with fail; go_fit (ih); rintro e w2 ⟨rfl, b2⟩)
          have B2 := Lib.hid (Ext.trans' HB.out b2)
          clear b2
          go_wp2
          go_roundw
          case rel => exact ⟨i + 1, t + z, by omega, by go_num, by go_num, HN, hzq, B2⟩
          case measure => simp [RowKit.intOf]; omega
        · have hrt : t = r := by
            have a1 := HT.out
            have a2 := HR.out
            have a3 := sizes_take ts i
            omega
          subst hrt
          clear hst hds hy
          go_wp2
          go_ret
          exact ⟨rfl, HBW.out⟩
      · have hrt : t = r := by
          have a1 := HT.out
          have a2 := HR.out
          rw [List.take_of_length_le (by rw [HM.out]; omega)] at a1
          omega
        subst hrt
        go_wp2
        go_ret
        exact ⟨rfl, HBW.out⟩
set_option maxHeartbeats 2000000 in
set_option maxRecDepth 100000 in
theorem rdepth_at : ∀ (q : Nat) (x : Tm), q ≤ 1000000 → ∀ (w : World) (v : Value), TmV w x v →
    Calls Try.prog 77 #[v, .int .i64 q] w fun e w' => e = .returned (.int .i64 (min (depthN x) (q + 1) : Nat)) ∧ Below w.heap.size w w'
  | 0, .mk k n s ts, hq, w, v, hv => by
    obtain ⟨u, rfl, hs, hk, hn, hu⟩ := tmV_iff.1 hv
    rw [show min (depthN (.mk k n s ts)) (0 + 1) = 1 by have := depth_pos (.mk k n s ts); omega]
    go_enter Try.func77, Try.ntmps77
    go_wp2
    go_ret
    exact ⟨rfl, bel1' _ _⟩
  | q + 1, .mk k n s ts, hq, w, v, hv => by
    obtain ⟨u, rfl, hs, hk, hn, hu⟩ := tmV_iff.1 hv
    obtain ⟨a, c, rfl, h1, h2, h3⟩ := hu.len
    unfold BIG at h3
    obtain ⟨m, hm⟩ : ∃ m, ts.length = m := ⟨_, rfl⟩
    have IH := Lib.hid (fun (y : Tm) => rdepth_at q y (by omega))
    have HU := Lib.hid hu
    have HM := Lib.hid hm
    rw [hm] at h1 h3 hu HU ⊢
    obtain ⟨r, hr⟩ : ∃ r, min (depthN (.mk k n s ts)) (q + 1 + 1) = r := ⟨_, rfl⟩
    rw [hr]
    have HR := Lib.hid (show min (depthsN ts + 1) (q + 2) = r by rw [← hr, depthN])
    clear hv hu hm hr
    obtain ⟨Q, hQ⟩ : ∃ Q : Int, ((q + 1 : Nat) : Int) = Q := ⟨_, rfl⟩
    rw [hQ]
    have hq1 : Q - 1 = q := by omega
    have hQ0 : ¬ Q ≤ 0 := by omega
    have hQb : Q ≤ 1000000 := by omega
    clear hQ
    go_enter Try.func77, Try.ntmps77
    go_wp2_with fail
    go_loopw [5, 6] (fun z v wr => ∃ i t : Nat, i ≤ m ∧ v = .int .i64 i ∧ z = .int .i64 t ∧ Hid (t = min (depthsN (ts.take i)) (q + 1)) ∧ t ≤ q + 1 ∧ Hid (Below (w.alloc (.cells #[.int .i64 k, .int .i64 n, .string s, .slice a m c] 54)).heap.size (w.alloc (.cells #[.int .i64 k, .int .i64 n, .string s, .slice a m c] 54)) wr)) (fun _ v _ => m - (RowKit.intOf v).toNat)
    case atStart => exact ⟨0, 0, Nat.zero_le _, rfl, rfl, Lib.hid (by simp [depthsN]), by omega, Lib.hid (Below.refl _ _)⟩
    case round =>
      obtain ⟨i, t, hi, rfl, rfl, HT, ht, HB⟩ := hrel
      obtain ⟨e0, e1, e2, e3⟩ := box_cells w 54 _ _ _ _ HB.out
      have HBW := Lib.hid (Ext.trans' (bel1' w _) HB.out)
      by_cases hil : i < m
      · obtain ⟨y, hy⟩ : ∃ y, ts[i]? = some y := ⟨_, List.getElem?_eq_getElem (by rw [HM.out]; exact hil)⟩
        have hds := depths_drop hy
        obtain ⟨b, off, k', n', s', u', rfl, hbb, _, _, _, c0, c1, c2, c3, _, hty⟩ := (HU.out.ext HBW.out).get hy
        have ih := IH.out y wr _ hty
        obtain ⟨z, hz⟩ : ∃ z, min (depthN y) (q + 1) = z := ⟨_, rfl⟩
        rw [hz] at ih
        have HN : Hid (max t z = min (depthsN (ts.take (i + 1))) (q + 1)) := Lib.hid (by
          have := HT.out
          rw [hds]
          omega)
        have hzd : z ≤ q + 1 := by omega
        clear hds hz hy hty HT
        by_cases htz : t < z
        · have HM2 := Lib.hid (show max t z = z by omega)
          (go_wp2_with fail; go_fit (ih); rintro e w2 ⟨rfl, b2⟩)
          have B2 := Lib.hid (Ext.trans' HB.out b2)
          clear b2
          go_wp2
          go_roundw
          case rel => exact ⟨i + 1, z, by omega, by go_num, rfl, Lib.hid (by rw [← HN.out, HM2.out]), hzd, B2⟩
          case measure => simp [RowKit.intOf]; omega
        · have HM2 := Lib.hid (show max t z = t by omega)
          (go_wp2_with fail; go_fit (ih); rintro e w2 ⟨rfl, b2⟩)
          have B2 := Lib.hid (Ext.trans' HB.out b2)
          clear b2
          go_wp2
          go_roundw
          case rel => exact ⟨i + 1, t, by omega, by go_num, rfl, Lib.hid (by rw [← HN.out, HM2.out]), ht, B2⟩
          case measure => simp [RowKit.intOf]; omega
      · have hrt : t + 1 = r := by
          have a1 := HT.out
          have a2 := HR.out
          rw [List.take_of_length_le (by rw [HM.out]; omega)] at a1
          omega
        subst hrt
        go_wp2
        go_ret
        exact ⟨ret_int (by omega), HBW.out⟩
end Go.Proofs.Ytchbbaehdcmcfaa
/- Terms: which the document's own calls good. -/
namespace Go.Proofs.Ytchbbaehdcmcfaa
open Go.RowKit
set_option linter.unusedVariables false
theorem formed_mk (k n : Int) (s : ByteArray) (ts : List Tm) : formedT (.mk k n s ts) = (plainT k n s.data.toList ts.length && formedL ts) := by rw [formedT]
theorem formed_no {k n : Int} {s : ByteArray} {ts : List Tm} (h : plainT k n s.data.toList ts.length = false) : formedT (.mk k n s ts) = false := by rw [formed_mk, h]; rfl
theorem formed_leaf {k n : Int} {s : ByteArray} (h : plainT k n s.data.toList 0 = true) : formedT (.mk k n s []) = true := by rw [formed_mk]; show (plainT k n s.data.toList 0 && formedL []) = true; rw [h, formedL]; rfl
theorem isEmpty_size (s : ByteArray) : s.data.toList.isEmpty = decide (s.size = 0) := by
  have h : s.data.toList.length = s.size := rfl
  cases hq : s.data.toList with
  | nil => rw [hq] at h; simp at h; simp [← h]
  | cons a r =>
    rw [hq, List.length_cons] at h
    rw [decide_eq_false (by omega)]
    rfl
theorem toList_empty {s : ByteArray} (h : s.size = 0) : s.toList.isEmpty = true := by rw [Lib.toList_data, isEmpty_size]; simpa using h
theorem toList_some {s : ByteArray} (h : ¬ s.size = 0) : s.toList.isEmpty = false := by rw [Lib.toList_data, isEmpty_size]; simpa using h
theorem letter_eq : ∀ c : UInt8, letterB c = (((c.toNat : Int) == 9) || ((c.toNat : Int) == 10) || (!decide ((c.toNat : Int) < 32) && !decide (126 < (c.toNat : Int)))) := by
 intro c
 have h : ((List.range 256).all fun n => letterB (UInt8.ofNat n) == ((((UInt8.ofNat n).toNat : Int) == 9) || (((UInt8.ofNat n).toNat : Int) == 10) || (!decide (((UInt8.ofNat n).toNat : Int) < 32) && !decide (126 < ((UInt8.ofNat n).toNat : Int))))) = true := by decide +kernel
 have h1 := List.all_eq_true.1 h c.toNat (List.mem_range.2 c.toNat_lt)
 have e : UInt8.ofNat c.toNat = c := by simp
 rw [e] at h1
 exact eq_of_beq h1
set_option maxHeartbeats 4000000 in
set_option maxRecDepth 100000 in
theorem rformed_two {s : ByteArray} {ts : List Tm} {w : World} {a : Option Addr} {m c : Nat} (hs : s.size ≤ 140737488351232) (h1 : m ≤ c) (h2 : c ≤ maxLen) (h3 : m * 56 ≤ 140737488351232) (g2 : ¬ 64 < s.size) (g3 : ¬ 8 < m) (HM : Hid (ts.length = m)) (HU : Hid (Tms w (.slice a m c) ts))
  (HP : Hid (formedT (.mk 2 0 s ts) = (s.data.toList.all letterB && formedL ts)))
  (IH : Hid (∀ y ∈ ts, ∀ (w : World) (v : Value), TmV w y v → Calls Try.prog 78 #[v] w fun e w' => e = .returned (.bool (formedT y)) ∧ Below w.heap.size w w')) :
  Calls Try.prog 78 #[.agg #[.int .i64 2, .int .i64 0, .string s, .slice a m c]] w fun e w' => e = .returned (.bool (formedT (.mk 2 0 s ts))) ∧ Below w.heap.size w w' := by
 obtain ⟨r, hr⟩ : ∃ r, formedT (.mk 2 0 s ts) = r := ⟨_, rfl⟩
 rw [hr]
 have HR := Lib.hid (HP.out.symm.trans hr)
 clear hr HP
 go_enter Try.func78, Try.ntmps78
 go_wp2_with fail
 go_loopw [3] (fun z wr => ∃ i : Nat, i ≤ s.size ∧ z = .int .i64 i ∧ Hid (∀ j (hj : j < s.size), j < i → letterB s[j] = true) ∧ wr = w.alloc (.cells #[.int .i64 2, .int .i64 0, .string s, .slice a m c] 54)) (fun z _ => s.size - (RowKit.intOf z).toNat)
 case atStart => exact ⟨0, Nat.zero_le _, rfl, Lib.hid (fun j _ h => by omega), rfl⟩
 case round =>
  obtain ⟨i, hi, rfl, HL, rfl⟩ := hrel
  by_cases hil : i < s.size
  ·cases hq : letterB s[i]
   ·have hlq := letter_eq s[i]
    rw [hq] at hlq
    have hall : s.data.toList.all letterB = false := by
     rw [List.all_eq_false]
     exact ⟨s.data.toList[i]'hil, List.getElem_mem _, by show ¬ letterB s[i] = true; rw [hq]; simp⟩
    have hrf : r = false := by rw [← HR.out, hall]; rfl
    subst hrf
    obtain ⟨z, hz⟩ : ∃ z : Int, (s[i].toNat : Int) = z := ⟨_, rfl⟩
    rw [hz] at hlq
    have e9 : (z == 9) = false := by
     cases h : (z == 9)
     ·rfl
     ·rw [h] at hlq; cases hlq
    have e10 : (z == 10) = false := by
     cases h : (z == 10)
     ·rfl
     ·rw [h, Bool.or_true] at hlq; cases hlq
    rw [e9, e10, Bool.false_or, Bool.false_or] at hlq
    have n9 : (z != 9) = true := by unfold bne; rw [e9]; rfl
    have n10 : (z != 10) = true := by unfold bne; rw [e10]; rfl
    clear e9 e10
    clear hall hq HR HL
    by_cases h32 : z < 32
    ·clear hlq
     go_wp2
     go_ret
     exact ⟨rfl, bel1' _ _⟩
    ·have h126 : 126 < z := by
      simp [h32] at hlq
      omega
     clear hlq
     go_wp2
     go_ret
     exact ⟨rfl, bel1' _ _⟩
   ·have hlq := letter_eq s[i]
    rw [hq] at hlq
    have HN : Hid (∀ j (hj : j < s.size), j < i + 1 → letterB s[j] = true) := Lib.hid (fun j hj h => by
     by_cases e : j = i
     ·subst e; exact hq
     ·exact HL.out j hj (by omega))
    obtain ⟨z, hz⟩ : ∃ z : Int, (s[i].toNat : Int) = z := ⟨_, rfl⟩
    rw [hz] at hlq
    clear hq HL
    by_cases e9 : z = 9
    ·subst e9
     clear hlq
     go_wp2
     go_roundw
     case rel => exact ⟨i + 1, by omega, by go_num, HN, trivial⟩
     case measure => simp [RowKit.intOf]; omega
    have e9' : (z == 9) = false := beq_false_of_ne e9
    by_cases e10 : z = 10
    ·subst e10
     clear hlq
     go_wp2
     go_roundw
     case rel => exact ⟨i + 1, by omega, by go_num, HN, trivial⟩
     case measure => simp [RowKit.intOf]; omega
    have e10' : (z == 10) = false := beq_false_of_ne e10
    rw [e9', e10'] at hlq
    have h32 : ¬ z < 32 := fun hh => by simp [hh] at hlq
    have h126 : ¬ 126 < z := fun hh => by simp [hh] at hlq
    have n9 : (z != 9) = true := by unfold bne; rw [e9']; rfl
    have n10 : (z != 10) = true := by unfold bne; rw [e10']; rfl
    clear hlq e9 e10 e9' e10'
    go_wp2
    go_roundw
    case rel => exact ⟨i + 1, by omega, by go_num, HN, trivial⟩
    case measure => simp [RowKit.intOf]; omega
  ·have hall : s.data.toList.all letterB = true := by
    rw [List.all_eq_true]
    intro x hx
    obtain ⟨j, hj, rfl⟩ := List.getElem_of_mem hx
    exact HL.out j hj (by have : j < s.size := hj; omega)
   have HR2 := Lib.hid (show formedL ts = r by rw [← HR.out, hall]; rfl)
   clear hall HR HL
   go_wp2_with fail
   go_loopw [5] (fun v wr => ∃ i : Nat, i ≤ m ∧ v = .int .i64 i ∧ Hid (formedL (ts.drop i) = r) ∧ Hid (Below (w.alloc (.cells #[.int .i64 2, .int .i64 0, .string s, .slice a m c] 54)).heap.size (w.alloc (.cells #[.int .i64 2, .int .i64 0, .string s, .slice a m c] 54)) wr)) (fun v _ => m - (RowKit.intOf v).toNat)
   case atStart => exact ⟨0, Nat.zero_le _, rfl, Lib.hid (by rw [List.drop_zero]; exact HR2.out), Lib.hid (Below.refl _ _)⟩
   case round =>
    obtain ⟨i, hi, rfl, HD, HB⟩ := hrel
    obtain ⟨e0, e1, e2, e3⟩ := box_cells w 54 _ _ _ _ HB.out
    by_cases hil : i < m
    ·obtain ⟨y, hy⟩ : ∃ y, ts[i]? = some y := ⟨_, List.getElem?_eq_getElem (by rw [HM.out]; exact hil)⟩
     have hdr : ts.drop i = y :: ts.drop (i + 1) := by
      obtain ⟨hlt', rfl⟩ := List.getElem?_eq_some_iff.1 hy
      exact List.drop_eq_getElem_cons hlt'
     have hd := HD.out
     rw [hdr, formedL] at hd
     have HBW := Lib.hid (Ext.trans' (bel1' w _) HB.out)
     obtain ⟨b, off, k', n', s', u', rfl, hbb, _, _, _, c0, c1, c2, c3, _, ht⟩ := (HU.out.ext HBW.out).get hy
     have ih := IH.out y (List.mem_of_getElem? hy) wr _ ht
     clear hdr HD ht
     cases hq : formedT y
     ·rw [hq, Bool.false_and] at hd
      rw [hq] at ih
      subst hd
      clear hq hy HR2
      (go_wp2_with fail; go_fit (ih); rintro e w2 ⟨rfl, b2⟩)
      have B2 := Lib.hid (Ext.trans' HBW.out b2)
      clear b2
      go_wp2
      go_ret
      exact ⟨rfl, B2.out⟩
     ·rw [hq, Bool.true_and] at hd
      rw [hq] at ih
      have HD := Lib.hid hd
      clear hq hd hy
      (go_wp2_with fail; go_fit (ih); rintro e w2 ⟨rfl, b2⟩)
      have B2 := Lib.hid (Ext.trans' HB.out b2)
      clear b2
      go_wp2
      go_roundw
      case rel => exact ⟨i + 1, by omega, by go_num, HD, B2⟩
      case measure => simp [RowKit.intOf]; omega
    ·have hd := HD.out
     rw [List.drop_eq_nil_of_le (by rw [HM.out]; omega), formedL] at hd
     subst hd
     clear HR2 HD
     go_wp2
     go_ret
     exact ⟨rfl, Ext.trans' (bel1' w _) HB.out⟩
end Go.Proofs.Ytchbbaehdcmcfaa
/- Terms: which the document's own calls good: all of it. -/
namespace Go.Proofs.Ytchbbaehdcmcfaa
open Go.RowKit
set_option linter.unusedVariables false
set_option maxHeartbeats 4000000 in
set_option maxRecDepth 100000 in
theorem rformed_at : ∀ (N : Nat) (x : Tm), sizeN x ≤ N → ∀ (w : World) (v : Value), TmV w x v →
    Calls Try.prog 78 #[v] w fun e w' => e = .returned (.bool (formedT x)) ∧ Below w.heap.size w w'
  | 0, x, h, w, v, hv => by have := size_pos x; omega
  | N + 1, .mk k n s ts, h, w, v, hv => by
    obtain ⟨u, rfl, hs, hk, hn, hu⟩ := tmV_iff.1 hv
    obtain ⟨a, c, rfl, h1, h2, h3⟩ := hu.len
    unfold BIG at h3 hs
    obtain ⟨m, hm⟩ : ∃ m, ts.length = m := ⟨_, rfl⟩
    by_cases k0 : k = 0
    · subst k0
      have hp : plainT 0 n s.data.toList ts.length = (decide (0 ≤ n) && decide (n < 2147483648) && decide (s.size = 0) && decide (m = 0)) := by
        unfold plainT; rw [if_pos rfl, isEmpty_size, hm]
      by_cases g1 : 0 ≤ n
      · by_cases g2 : n < 2147483648
        · by_cases g3 : s.size = 0
          · have g3' := toList_empty g3
            by_cases g4 : m = 0
            · obtain rfl : ts = [] := List.length_eq_zero_iff.1 (by rw [hm, g4])
              rw [formed_leaf (by rw [List.length_nil] at hp; rw [hp]; simp [g1, g2, g3, g4])]
              rw [g4] at hm
              clear hp hv hu hm g3
              go_enter Try.func78, Try.ntmps78
              go_wp2
              go_ret
              exact ⟨rfl, bel1' _ _⟩
            · rw [formed_no (by rw [hp]; simp [g4])]
              have g4' : ((m : Int) == 0) = false := by apply beq_false_of_ne; omega
              rw [hm] at h1 h3 ⊢
              clear hp hv hu hm g3 h
              go_enter Try.func78, Try.ntmps78
              go_wp2
              go_ret
              exact ⟨rfl, bel1' _ _⟩
          · rw [formed_no (by rw [hp]; simp [g3])]
            have g3' := toList_some g3
            clear hp hv hu h
            go_enter Try.func78, Try.ntmps78
            go_wp2
            go_ret
            exact ⟨rfl, bel1' _ _⟩
        · rw [formed_no (by rw [hp]; simp [g2])]
          clear hp hv hu h
          go_enter Try.func78, Try.ntmps78
          go_wp2
          go_ret
          exact ⟨rfl, bel1' _ _⟩
      · rw [formed_no (by rw [hp]; simp [g1])]
        clear hp hv hu h
        go_enter Try.func78, Try.ntmps78
        go_wp2
        go_ret
        exact ⟨rfl, bel1' _ _⟩
    by_cases k1 : k = 1
    · subst k1
      have hp : plainT 1 n s.data.toList ts.length = (decide (s.size = 0) && decide (m = 0)) := by
        unfold plainT; rw [if_neg (by decide), if_pos rfl, isEmpty_size, hm]
      by_cases g3 : s.size = 0
      · have g3' := toList_empty g3
        by_cases g4 : m = 0
        · obtain rfl : ts = [] := List.length_eq_zero_iff.1 (by rw [hm, g4])
          rw [formed_leaf (by rw [List.length_nil] at hp; rw [hp]; simp [g3, g4])]
          clear hp hv hu hm g3
          go_enter Try.func78, Try.ntmps78
          go_wp2
          go_ret
          exact ⟨rfl, bel1' _ _⟩
        · rw [formed_no (by rw [hp]; simp [g4])]
          have g4' : ((m : Int) == 0) = false := by apply beq_false_of_ne; omega
          rw [hm] at h1 h3 ⊢
          clear hp hv hu hm g3 h
          go_enter Try.func78, Try.ntmps78
          go_wp2
          go_ret
          exact ⟨rfl, bel1' _ _⟩
      · rw [formed_no (by rw [hp]; simp [g3])]
        have g3' := toList_some g3
        clear hp hv hu h
        go_enter Try.func78, Try.ntmps78
        go_wp2
        go_ret
        exact ⟨rfl, bel1' _ _⟩
    have k0' : (k == 0) = false := beq_false_of_ne k0
    have k1' : (k == 1) = false := beq_false_of_ne k1
    by_cases k2 : k = 2
    · subst k2
      have hp : plainT 2 n s.data.toList ts.length = (decide (n = 0) && decide (s.size ≤ 64) && decide (m ≤ 8) && s.data.toList.all letterB) := by
        unfold plainT; rw [if_neg (by decide), if_neg (by decide), if_pos rfl, hm]; rfl
      by_cases g1 : n = 0
      · subst g1
        by_cases g2 : 64 < s.size
        · rw [formed_no (by rw [hp]; simp; omega)]
          clear hp hv hu h k0 k1 k0' k1'
          go_enter Try.func78, Try.ntmps78
          go_wp2
          go_ret
          exact ⟨rfl, bel1' _ _⟩
        · by_cases g3 : 8 < m
          · rw [formed_no (by rw [hp]; simp; omega)]
            rw [hm] at h1 h3 ⊢
            clear hp hv hu hm h k0 k1 k0' k1'
            go_enter Try.func78, Try.ntmps78
            go_wp2
            go_ret
            exact ⟨rfl, bel1' _ _⟩
          · have IH := Lib.hid (fun (y : Tm) (hy : y ∈ ts) => rformed_at N y (mem_size h hy))
            have HP := Lib.hid (show formedT (.mk 2 0 s ts) = (s.data.toList.all letterB && formedL ts) by
              rw [formed_mk, hp]
              have e1 : decide (s.size ≤ 64) = true := decide_eq_true (by omega)
              have e2 : decide (m ≤ 8) = true := decide_eq_true (by omega)
              rw [e1, e2]
              simp)
            rw [hm] at h1 h3 hu ⊢
            exact rformed_two hs h1 h2 h3 g2 g3 (Lib.hid hm) (Lib.hid hu) HP IH
      · rw [formed_no (by rw [hp]; simp [g1])]
        have g1' : (n == 0) = false := beq_false_of_ne g1
        clear hp hv hu h k0 k1 k0' k1'
        go_enter Try.func78, Try.ntmps78
        go_wp2
        go_ret
        exact ⟨rfl, bel1' _ _⟩
    · rw [formed_no (by unfold plainT; rw [if_neg k0, if_neg k1, if_neg k2])]
      have k2' : (k == 2) = false := beq_false_of_ne k2
      clear hv hu h k0 k1 k2
      go_enter Try.func78, Try.ntmps78
      go_wp2
      go_ret
      exact ⟨rfl, bel1' _ _⟩
theorem rgood_at (x : Tm) (w : World) (v : Value) (hv : TmV w x v) : Calls Try.prog 39 #[v] w fun e w' => e = .returned (.bool (goodT x)) ∧ Below w.heap.size w w' := by
 obtain ⟨k, n, s, ts, rfl⟩ : ∃ k n s ts, x = .mk k n s ts := by cases x; exact ⟨_, _, _, _, rfl⟩
 obtain ⟨u, rfl, _, _, _, _⟩ := tmV_iff.1 hv
 obtain ⟨x, hxe⟩ : ∃ x, Tm.mk k n s ts = x := ⟨_, rfl⟩
 rw [hxe] at hv ⊢
 clear hxe
 obtain ⟨v, hve⟩ : ∃ v, Value.agg #[.int .i64 k, .int .i64 n, .string s, u] = v := ⟨_, rfl⟩
 have S := fun w (h : TmV w x v) => rsize_at _ x (Nat.le_refl _) 2000 (by omega) w v h
 have D := fun w (h : TmV w x v) => rdepth_at 64 x (by omega) w v h
 have F := fun w (h : TmV w x v) => rformed_at _ x (Nat.le_refl _) w v h
 rw [← hve] at S D F
 subst hve
 have hg : goodT x = (decide (sizeN x ≤ 2000) && decide (depthN x ≤ 64) && formedT x) := rfl
 have HG := Lib.hid hg
 clear hg
 generalize formedT x = f at F HG
 obtain ⟨p, hp⟩ : ∃ p, min (sizeN x) (2000 + 1) = p := ⟨_, rfl⟩
 obtain ⟨q, hq⟩ : ∃ q, min (depthN x) (64 + 1) = q := ⟨_, rfl⟩
 rw [hp] at S
 rw [hq] at D
 have hP := Lib.hid (show (sizeN x ≤ 2000) ↔ p ≤ 2000 by omega)
 have hQ := Lib.hid (show (depthN x ≤ 64) ↔ q ≤ 64 by omega)
 clear hp hq
 by_cases h1 : p ≤ 2000
 ·by_cases h2 : q ≤ 64
  ·have hr : goodT x = f := by rw [HG.out, decide_eq_true (hP.out.2 h1), decide_eq_true (hQ.out.2 h2)]; rfl
   rw [hr]
   clear hr HG hP hQ
   go_enter Try.func39, Try.ntmps39
   have hv0 := TmV.ext (bel1' w (.cells #[.int .i64 k, .int .i64 n, .string s, u] 54)) _ _ hv
   (go_wp2_with fail; go_fit (S _ hv0); rintro e w1 ⟨rfl, b1⟩)
   obtain ⟨e0, e1, e2, e3⟩ := box_cells w 54 _ _ _ _ b1
   have hv1 := TmV.ext b1 _ _ hv0
   (go_wp2_with fail; go_fit (D _ hv1); rintro e w2 ⟨rfl, b2⟩)
   have e0 := cell_later b2 e0
   have e1 := cell_later b2 e1
   have e2 := cell_later b2 e2
   have e3 := cell_later b2 e3
   (go_wp2_with fail; go_fit (F _ (TmV.ext b2 _ _ hv1)); rintro e w3 ⟨rfl, b3⟩)
   have B3 := Lib.hid (Ext.trans' (bel1' w _) (Ext.trans' b1 (Ext.trans' b2 b3)))
   clear b1 b2 b3
   go_wp2
   go_ret
   exact ⟨rfl, B3.out⟩
  ·have hr : goodT x = false := by rw [HG.out, decide_eq_false (fun h => h2 (hQ.out.1 h))]; simp
   rw [hr]
   clear hr HG hP hQ
   go_enter Try.func39, Try.ntmps39
   have hv0 := TmV.ext (bel1' w (.cells #[.int .i64 k, .int .i64 n, .string s, u] 54)) _ _ hv
   (go_wp2_with fail; go_fit (S _ hv0); rintro e w1 ⟨rfl, b1⟩)
   obtain ⟨e0, e1, e2, e3⟩ := box_cells w 54 _ _ _ _ b1
   have hv1 := TmV.ext b1 _ _ hv0
   (go_wp2_with fail; go_fit (D _ hv1); rintro e w2 ⟨rfl, b2⟩)
   have e0 := cell_later b2 e0
   have e1 := cell_later b2 e1
   have e2 := cell_later b2 e2
   have e3 := cell_later b2 e3
   have B3 := Lib.hid (Ext.trans' (bel1' w _) (Ext.trans' b1 b2))
   clear b1 b2
   go_wp2
   go_ret
   exact ⟨rfl, B3.out⟩
 ·have hr : goodT x = false := by rw [HG.out, decide_eq_false (fun h => h1 (hP.out.1 h))]; rfl
  rw [hr]
  clear hr HG hP hQ
  go_enter Try.func39, Try.ntmps39
  have hv0 := TmV.ext (bel1' w (.cells #[.int .i64 k, .int .i64 n, .string s, u] 54)) _ _ hv
  (go_wp2_with fail; go_fit (S _ hv0); rintro e w1 ⟨rfl, b1⟩)
  obtain ⟨e0, e1, e2, e3⟩ := box_cells w 54 _ _ _ _ b1
  have B3 := Lib.hid (Ext.trans' (bel1' w _) b1)
  clear b1
  go_wp2
  go_ret
  exact ⟨rfl, B3.out⟩
end Go.Proofs.Ytchbbaehdcmcfaa
/- The document's KeyOf. -/
namespace Go.Proofs.Ytchbbaehdcmcfaa
open Go.RowKit
set_option linter.unusedVariables false
set_option maxHeartbeats 4000000 in
set_option maxRecDepth 100000 in
theorem rxKeyOf_at (t : Tm) (w : World) (v : Value) (hv : TmV w t v) : Calls Try.prog 52 #[v] w fun e w' => e = .returned (ixV (keyT t)) ∧ Below w.heap.size w w' := by
 have HV := Lib.hid hv
 obtain ⟨k, n, s, ts⟩ := t
 obtain ⟨u, rfl, hss, hkk, hnn, hts⟩ := tmV_iff.1 hv
 obtain ⟨a, c, rfl, ha1, ha2, ha3⟩ := hts.len
 unfold maxLen at ha2
 unfold BIG at ha3
 obtain ⟨m, hm⟩ : ∃ m, ts.length = m := ⟨_, rfl⟩
 have HM := Lib.hid hm
 have HT := Lib.hid hts
 obtain ⟨R, hR⟩ : ∃ R, keyT (.mk k n s ts) = R := ⟨_, rfl⟩
 have HR := Lib.hid hR
 rw [hR]
 rw [hm] at HV HT ha1 ha3 ⊢
 obtain ⟨w1, e1, B1, z1, X1⟩ := box_new w #[.int .i64 k, .int .i64 n, .string s, .slice a m c] 54
 obtain ⟨w2, e2, B2, z2, X2⟩ := box_new w1 #[.int .i64 0, .int .i64 0, .string ⟨#[]⟩, .int .i64 0] 91
 have hB := Ext.trans' B1 B2
 rw [z1] at X2
 have HE := Lib.hid (And.intro e1 e2)
 have HB := Lib.hid hB
 have HX := Lib.hid (And.intro (X1.ext B2) X2)
 obtain ⟨x0, x1, x2, x3, _⟩ := HX.out.1.four
 clear e1 e2 B1 B2 z1 z2 X1 X2 hB hv hss hkk hnn hts hm hR
 go_enter Try.func52, Try.ntmps52
 go_upto_region 1 with fail
 (try rw [HE.out.1])
 (try rw [HE.out.2])
 clear HE
 have C := rgood_at (.mk k n s ts) w2 _ (TmV.ext HB.out _ _ HV.out)
 cases hg : goodT (.mk k n s ts)
 ·rw [hg] at C
  (go_wp2_with fail; go_fit (C); rintro e w3 ⟨rfl, b3⟩)
  have hr : R = zeroKey := by rw [← HR.out]; unfold keyT; rw [if_neg (by rw [hg]; simp)]
  obtain ⟨y0, y1, y2, y3, yf⟩ := (HX.out.2.ext b3).four
  have hb2 := Below.set4 (b := w.heap.size + 1) (Ext.trans' HB.out b3) (by omega) (.int .i64 0) (.int .i64 0) (.string ⟨#[]⟩) (.int .i64 0)
  clear hg b3 C x0 x1 x2 x3
  go_wp2
  refine bodyPost_ret (v := .agg #[.int .i64 0, .int .i64 0, .string ⟨#[]⟩, .int .i64 0]) (by rw [results_cell1 rfl]; go_simp) rfl ⟨by first | rfl | (rw [hr]; rfl), hb2⟩
 rw [hg] at C
 (go_wp2_with fail; go_fit (C); rintro e w3 ⟨rfl, b3⟩)
 have HB3 := Lib.hid (Ext.trans' HB.out b3)
 have HX3 := Lib.hid (And.intro (HX.out.1.ext b3) (HX.out.2.ext b3))
 have HG := Lib.hid hg
 clear hg b3 C x0 x1 x2 x3
 obtain ⟨x0, x1, x2, x3, _⟩ := HX3.out.1.four
 by_cases hm0 : m = 0
 ·subst hm0
  have hr : R = zeroKey := by
   rw [← HR.out]
   unfold keyT
   split
   ·rw [show (Tm.mk k n s ts).args = [] from List.length_eq_zero_iff.1 HM.out]
   ·rfl
  obtain ⟨y0, y1, y2, y3, yf⟩ := HX3.out.2.four
  have hb2 := Below.set4 (b := w.heap.size + 1) HB3.out (by omega) (.int .i64 0) (.int .i64 0) (.string ⟨#[]⟩) (.int .i64 0)
  go_wp2
  refine bodyPost_ret (v := .agg #[.int .i64 0, .int .i64 0, .string ⟨#[]⟩, .int .i64 0]) (by rw [results_cell1 rfl]; go_simp) rfl ⟨by first | rfl | (rw [hr]; rfl), hb2⟩
 have hm1 : ((m : Int) == 0) = false := by simp; omega
 obtain ⟨y, hy⟩ : ∃ y, ts[0]? = some y := ⟨_, List.getElem?_eq_getElem (by rw [HM.out]; omega)⟩
 obtain ⟨b, off, k1, n1, s1, u1, rfl, hbb, g1, g2, g3, c0, c1, c2, c3, hu1, ht⟩ := HT.out.get hy
 obtain ⟨a1, l1, rfl, _, hl2, _⟩ := hu1.len
 unfold maxLen at hl2
 replace c0 := cell_later HB3.out c0
 replace c1 := cell_later HB3.out c1
 replace c2 := cell_later HB3.out c2
 replace c3 := cell_later HB3.out c3
 rw [Nat.zero_mul, Nat.add_zero] at c0 c1 c2 c3
 have hR : R = argKey y := by
  rw [← HR.out]
  unfold keyT
  rw [if_pos HG.out]
  show (match ts with | [] => zeroKey | a :: _ => argKey a) = _
  cases ts with
  | nil => simp at hy
  | cons q r => injection hy with hy; rw [hy]
 have HKey := Lib.hid (And.intro hR (And.intro g1 (And.intro g2 g3)))
 obtain ⟨q, hq⟩ : ∃ q, y.args.length = q := ⟨_, rfl⟩
 have HQ := Lib.hid hq
 rw [hq] at c3
 clear hR g1 g2 g3 hu1 ht hy hbb hq
 by_cases hk1 : k1 = 0
 ·have hk1' : (k1 == 0) = true := by simpa using hk1
  have hr : R = zeroKey := by
   rw [HKey.out.1]
   unfold argKey
   rw [if_pos (by rw [HKey.out.2.1]; exact hk1)]
  obtain ⟨y0, y1, y2, y3, yf⟩ := HX3.out.2.four
  have hb2 := Below.set4 (b := w.heap.size + 1) HB3.out (by omega) (.int .i64 0) (.int .i64 0) (.string ⟨#[]⟩) (.int .i64 0)
  go_wp2
  refine bodyPost_ret (v := .agg #[.int .i64 0, .int .i64 0, .string ⟨#[]⟩, .int .i64 0]) (by rw [results_cell1 rfl]; go_simp) rfl ⟨by first | rfl | (rw [hr]; rfl), hb2⟩
 have hk1' : (k1 == 0) = false := by simpa using hk1
 go_upto_region 4 with fail
 obtain ⟨w4, e4, B4, z4, X4⟩ := box_new w3 #[.int .i64 k1, .int .i64 n1, .string s1, .slice a1 q l1] 54
 (try rw [e4])
 obtain ⟨z0, zz1, zz2, zz3, _⟩ := X4.four
 obtain ⟨y0, y1, y2, y3, yf⟩ := (HX3.out.2.ext B4).four
 have HB4 := Lib.hid (Ext.trans' HB3.out B4)
 clear e4 B4 z4 X4 x0 x1 x2 x3 c0 c1 c2 c3
 by_cases hk2 : k1 = 1
 ·have hk2' : (k1 == 1) = true := by simpa using hk2
  have hr : R = ⟨1, n1, ⟨#[]⟩, 0⟩ := by
   rw [HKey.out.1]
   unfold argKey
   rw [if_neg (by rw [HKey.out.2.1]; exact hk1), if_pos (by rw [HKey.out.2.1]; exact hk2), HKey.out.2.2.1]
  have hb2 := Below.set4 (b := w.heap.size + 1) HB4.out (by omega) (.int .i64 1) (.int .i64 n1) (.string ⟨#[]⟩) (.int .i64 0)
  go_wp2
  refine bodyPost_ret (v := .agg #[.int .i64 1, .int .i64 n1, .string ⟨#[]⟩, .int .i64 0]) (by rw [results_cell1 rfl]; go_simp) rfl ⟨by first | rfl | rw [hr], hb2⟩
 ·have hk2' : (k1 == 1) = false := by simpa using hk2
  have hr : R = ⟨2, 0, s1, (q : Int)⟩ := by
   rw [HKey.out.1]
   unfold argKey
   rw [if_neg (by rw [HKey.out.2.1]; exact hk1), if_neg (by rw [HKey.out.2.1]; exact hk2), HKey.out.2.2.2, HQ.out]
  have hb2 := Below.set4 (b := w.heap.size + 1) HB4.out (by omega) (.int .i64 2) (.int .i64 0) (.string s1) (.int .i64 (q : Int))
  go_wp2
  refine bodyPost_ret (v := .agg #[.int .i64 2, .int .i64 0, .string s1, .int .i64 (q : Int)]) (by rw [results_cell1 rfl]; go_simp) rfl ⟨by first | rfl | rw [hr], hb2⟩
end Go.Proofs.Ytchbbaehdcmcfaa
/- Rows of numbers; a term's variables' numbers, one behind the other. -/
namespace Go.Proofs.Ytchbbaehdcmcfaa
open Go.RowKit
set_option linter.unusedVariables false
def Nums (w : World) (v : Value) (l : List Int) : Prop := Elems 1 (fun n => [Value.int .i64 n]) w v l
theorem Nums.ext {w w' : World} {v : Value} {l : List Int} (h : Nums w v l) (hb : Below w.heap.size w w') : Nums w' v l := Elems.ext h hb
theorem Nums.get {w : World} {a : Option Addr} {m c : Nat} {l : List Int} (h : Nums w (.slice a m c) l) {i : Nat} {x : Int} (hx : l[i]? = some x) : ∃ b off, a = some ⟨b, off, none⟩ ∧ b < w.heap.size ∧ w.cell? ⟨b, off + i, none⟩ = some (.int .i64 x) := by
 obtain ⟨a', c', e, h1, h2, h3⟩ := h
 cases e
 rcases h3 with rfl | ⟨b, off, rfl, hb, hc⟩
 ·simp at hx
 ·exact ⟨b, off, rfl, hb, by have := hc i x hx 0 _ rfl; simpa using this⟩
theorem Nums.len {w : World} {v : Value} {l : List Int} (h : Nums w v l) : ∃ a c, v = .slice a l.length c ∧ l.length ≤ c ∧ c ≤ maxLen := by
 obtain ⟨a, c, h1, h2, h3, _⟩ := h
 exact ⟨a, c, h1, h2, h3⟩
abbrev numCells (n : Int) : List Value := [Value.int .i64 n]
def RowN (w : World) (base : Nat) (v : Value) (l : List Int) : Prop := w.ownsRow base 2 1 v l.length (l.flatMap numCells)
theorem RowN.nums {w : World} {base : Nat} {v : Value} {l : List Int} (h : RowN w base v l) : Nums w v l := Elems.owned (cells := numCells) (fun _ => rfl) h
theorem RowN.nil (w : World) (base : Nat) : RowN w base (.slice none 0 0) [] := World.ownsRow_nil _ _ _ _
mutual
theorem vars_len : ∀ (t : Tm) (l : List Int), (varsT t l).length ≤ l.length + sizeN t ∧ l.length ≤ (varsT t l).length
  | .mk k n s ts, l => by
    rw [varsT, sizeN]
    by_cases hk : k = 0
    · rw [if_pos hk]
      split
      · omega
      · rw [List.length_append, List.length_singleton]; omega
    · rw [if_neg hk]
      have := varss_len ts l
      omega
theorem varss_len : ∀ (ts : List Tm) (l : List Int), (varsL ts l).length ≤ l.length + sizesN ts ∧ l.length ≤ (varsL ts l).length
  | [], l => by rw [varsL, sizesN]; omega
  | x :: r, l => by
    rw [varsL, sizesN]
    have h1 := vars_len x l
    have h2 := varss_len r (varsT x l)
    omega
end
def Kept (w w' : World) (row : Option Nat) : Prop := w.heap.size ≤ w'.heap.size ∧ ∀ k, k < w.heap.size → row ≠ some k → w'.heap[k]? = w.heap[k]?
theorem Kept.of {w w' : World} (h : Below w.heap.size w w') (row : Option Nat) : Kept w w' row := ⟨h.size, fun k hk _ => h.block k hk⟩
theorem Kept.trans {w w1 w2 : World} {r1 r2 : Option Nat} (h1 : Kept w w1 r1) (h2 : Kept w1 w2 r2) (hr : r2 = r1 ∨ ∀ k, r2 = some k → w.heap.size ≤ k) : Kept w w2 r1 :=
 ⟨Nat.le_trans h1.1 h2.1, fun k hk hne => by
  rw [h2.2 k (Nat.lt_of_lt_of_le hk h1.1) (fun e => by
   rcases hr with hr | hr
   ·exact hne (by rw [← hr]; exact e)
   ·have := hr k e; omega), h1.2 k hk hne]⟩
theorem infoI64 : (Try.prog.info? 2).map (fun i => (i.zero, i.size, i.bytes)) = some (some (.int .i64 0), 1, 8) := by kernel_rfl
end Go.Proofs.Ytchbbaehdcmcfaa
/- slices.Concat at rows of numbers. -/
namespace Go.Proofs.Ytchbbaehdcmcfaa
open Go.Shelf Go.RowKit
set_option linter.unusedVariables false
theorem infoIntP : ∃ i, Try.prog.info? 3 = some i ∧ i.zero = some (.int .i64 0) ∧ i.size = 1 ∧ i.bytes = 8 := by
 have h : (Try.prog.info? 3).map (fun i => (i.zero, i.size, i.bytes)) = some (some (.int .i64 0), 1, 8) := by kernel_rfl
 cases hi : Try.prog.info? 3 with
 | none => rw [hi] at h; simp at h
 | some i => rw [hi] at h; simp only [Option.map_some, Option.some.injEq, Prod.mk.injEq] at h; exact ⟨i, rfl, h.1, h.2.1, h.2.2⟩
end Go.Proofs.Ytchbbaehdcmcfaa
/- Package index: Pick over a row of keys; the law's ints. -/
namespace Go.Proofs.Ytchbbaehdcmcfaa
open Go.RowKit
set_option linter.unusedVariables false
def Keys (w : World) (v : Value) (l : List KeyM) : Prop := Elems 4 ixCells w v l
theorem Keys.ext {w w' : World} {v : Value} {l : List KeyM} (h : Keys w v l) (hb : Below w.heap.size w w') : Keys w' v l := Elems.ext h hb
theorem Keys.len {w : World} {v : Value} {l : List KeyM} (h : Keys w v l) : ∃ a c, v = .slice a l.length c ∧ l.length ≤ c ∧ c ≤ maxLen := by
 obtain ⟨a, c, h1, h2, h3, _⟩ := h
 exact ⟨a, c, h1, h2, h3⟩
theorem Keys.get {w : World} {a : Option Addr} {m c : Nat} {l : List KeyM} (h : Keys w (.slice a m c) l) {i : Nat} {x : KeyM} (hx : l[i]? = some x) : ∃ b off, a = some ⟨b, off, none⟩ ∧ b < w.heap.size ∧ w.cell? ⟨b, off + i * 4, none⟩ = some (.int .i64 x.k) ∧ w.cell? ⟨b, off + i * 4 + 1, none⟩ = some (.int .i64 x.n) ∧ w.cell? ⟨b, off + i * 4 + 2, none⟩ = some (.string x.s) ∧ w.cell? ⟨b, off + i * 4 + 3, none⟩ = some (.int .i64 x.ar) := by
 obtain ⟨a', c', e, h1, h2, h3⟩ := h
 cases e
 rcases h3 with rfl | ⟨b, off, rfl, hb, hc⟩
 ·simp at hx
 ·have c0 := hc i x hx 0 _ rfl
  have c1 := hc i x hx 1 _ rfl
  have c2 := hc i x hx 2 _ rfl
  have c3 := hc i x hx 3 _ rfl
  rw [Nat.add_zero] at c0
  rw [← Nat.add_assoc] at c1 c2 c3
  exact ⟨b, off, rfl, hb, c0, c1, c2, c3⟩
theorem pickF_len (k : KeyM) : ∀ (l : List KeyM) (i : Nat), (pickF k l i).length ≤ l.length
  | [], i => Nat.le_refl _
  | a :: l, i => by
    have := pickF_len k l (i + 1)
    rw [pickF]
    split
    · simp only [List.length_cons]; omega
    · simp only [List.length_cons]; omega
theorem pickF_next {k : KeyM} {l : List KeyM} {i : Nat} {x : KeyM} (h : l[i]? = some x) : pickF k (l.take (i + 1)) 0 = pickF k (l.take i) 0 ++ (if mayK x k = true then [(i : Int)] else []) := by
 have hi := (List.getElem?_eq_some_iff.1 h).1
 rw [take_next h, pickF_snoc, List.length_take, Nat.min_eq_left (by omega)]
set_option maxHeartbeats 4000000 in
set_option maxRecDepth 100000 in
theorem ixPick_at {w : World} {v : Value} {l : List KeyM} (h : Keys w v l) (hl : l.length ≤ 1000000) (k : KeyM) :
    Calls Try.prog 50 #[v, ixV k] w fun e w' => ∃ r, e = .returned r ∧ w'.ownsRow w.heap.size 3 1 r (pickF k l 0).length ((pickF k l 0).flatMap numCells) ∧ Below w.heap.size w w' := by
  obtain ⟨a, c, rfl, h1, h2⟩ := h.len
  unfold maxLen at h2
  obtain ⟨m, hm⟩ : ∃ m, l.length = m := ⟨_, rfl⟩
  have HM := Lib.hid hm
  rw [hm] at h h1 hl ⊢
  have HK := Lib.hid h
  obtain ⟨w1, e1, B1, z1, X1⟩ := box_new w #[.int .i64 k.k, .int .i64 k.n, .string k.s, .int .i64 k.ar] 76
  have HE := Lib.hid e1
  have HB1 := Lib.hid B1
  have HX1 := Lib.hid X1
  obtain ⟨i0, hi0, hz0, hs0, hb0⟩ := infoIntP
  obtain ⟨R, hR⟩ : ∃ R, pickF k l 0 = R := ⟨_, rfl⟩
  have HR := Lib.hid hR
  rw [hR]
  clear hm h e1 B1 z1 X1 hR
  go_enter Try.func50, Try.ntmps50
  go_upto_region 1 with fail
  (try rw [HE.out])
  clear HE
  go_wp2_with fail
  go_loopw [5, 10] (fun r z wr => ∃ (i q cr : Nat) (ar : Option Addr), i ≤ m ∧ z = .int .i64 i ∧ r = .slice ar q cr ∧ Hid ((pickF k (l.take i) 0).length = q) ∧ Hid (wr.ownsRow w1.heap.size 3 1 (.slice ar q cr) q ((pickF k (l.take i) 0).flatMap numCells)) ∧ Hid (Below w1.heap.size w1 wr)) (fun _ z _ => m - (RowKit.intOf z).toNat)
  case atStart => exact ⟨0, 0, 0, none, Nat.zero_le _, rfl, rfl, Lib.hid rfl, Lib.hid (World.ownsRow_nil _ _ _ _), Lib.hid (Below.refl _ _)⟩
  case round =>
    obtain ⟨i, q, cr, ar, hi, rfl, rfl, HQ, HRow, HB⟩ := hrel
    by_cases him : i < m
    · obtain ⟨x, hx⟩ : ∃ x, l[i]? = some x := ⟨_, List.getElem?_eq_getElem (by rw [HM.out]; exact him)⟩
      have HBr := Lib.hid (Ext.trans' HB1.out HB.out)
      have HNX := Lib.hid (pickF_next (k := k) hx)
      have hq : q ≤ i := by
        rw [← HQ.out]
        exact Nat.le_trans (pickF_len k _ 0) (by rw [List.length_take]; omega)
      obtain ⟨b, off, rfl, hbb, c0, c1, c2, c3⟩ := (HK.out.ext HBr.out).get hx
      clear hx
      go_upto_region 5 with fail
      obtain ⟨w2, e2, B2, z2, X2⟩ := box_new wr #[.int .i64 x.k, .int .i64 x.n, .string x.s, .int .i64 x.ar] 76
      (try rw [e2])
      obtain ⟨y0, y1, y2, y3, _⟩ := X2.four
      obtain ⟨x0, x1, x2, x3, _⟩ := (HX1.out.ext (Ext.trans' HB.out B2)).four
      have HB2 := Lib.hid B2
      clear e2 B2 z2 X2 c0 c1 c2 c3 hbb
      have C := ixMay_at x k w2
      obtain ⟨mb, hmb⟩ : ∃ mb, mayK x k = mb := ⟨_, rfl⟩
      have HMB := Lib.hid hmb
      rw [hmb] at C
      clear hmb
      (go_wp2_with fail; go_fit (C); rintro e w3 ⟨rfl, b3⟩)
      have HB3 := Lib.hid (Ext.trans' HB2.out b3)
      have HRow3 := Lib.hid (show w3.ownsRow w1.heap.size 3 1 (.slice ar q cr) q ((pickF k (l.take i) 0).flatMap numCells) from row_at HRow.out (fun g hg => HB3.out.block g (row_in HRow.out hg).2))
      have HBB3 := Lib.hid (Ext.trans' HB.out HB3.out)
      clear b3 C x0 x1 x2 x3 y0 y1 y2 y3
      cases mb
      · have HN := Lib.hid (show pickF k (l.take (i + 1)) 0 = pickF k (l.take i) 0 from by rw [HNX.out, HMB.out, if_neg (by simp), List.append_nil])
        go_wp2
        go_roundw
        case rel => exact ⟨i + 1, q, cr, ar, him, by go_num, by go_num, Lib.hid (by rw [HN.out]; exact HQ.out), Lib.hid (by rw [HN.out]; exact HRow3.out), HBB3⟩
        case measure => simp [RowKit.intOf]; omega
      · have HN := Lib.hid (show pickF k (l.take (i + 1)) 0 = pickF k (l.take i) 0 ++ [(i : Int)] from by rw [HNX.out, HMB.out, if_pos rfl])
        have HSZ := Lib.hid HBB3.out.size
        go_wp2_with (first
          | (at_builtin; refine wpList_append_k rfl _ _ 81 rfl w1.heap.size 3 i0 (.int .i64 0) 1 8 Try.underlying81 hi0 hz0 hs0 (by decide) hb0 rfl (.slice ar q cr) q ((pickF k (l.take i) 0).flatMap numCells) rfl (row_at HRow3.out (fun g hg => (bel1' w3 _).block g (row_in HRow3.out hg).2)) (some ⟨w3.heap.size, 0, none⟩) 1 1 [.int .i64 (i : Int)] rfl rfl (Or.inr ⟨_, rfl, fun jj uu hu => cell_new w3 #[.int .i64 (i : Int)] _ jj uu hu⟩) (by simp [Value.oneCell']) (by unfold maxLen; omega) (by omega) (by have := HSZ.out; simp; omega) (q + 1) ((pickF k (l.take i) 0).flatMap numCells ++ [.int .i64 (i : Int)]) rfl rfl ?_; intro a4 c4 w4 hown4 hgrow4 hat4
             have HO4 := Lib.hid hown4
             have HB4 := Lib.hid (show Below w1.heap.size w1 w4 from (HBB3.out.trans ((bel1' w3 _).mono HBB3.out.size)).grown hgrow4 (by have := HBB3.out.size; simp; omega) (fun g hg => (row_in HRow3.out hg).1))
             clear hown4 hgrow4 hat4)
          | fail)
        go_roundw
        case rel => exact ⟨i + 1, q + 1, c4, a4, him, by go_num, by go_num, Lib.hid (by rw [HN.out, List.length_append, HQ.out]; rfl), Lib.hid (by rw [HN.out, List.flatMap_append]; exact HO4.out), HB4⟩
        case measure => simp [RowKit.intOf]; omega
    · have hie : m = i := by omega
      subst hie
      have HQ2 := Lib.hid (show pickF k (l.take m) 0 = R from by rw [List.take_of_length_le (by rw [HM.out]; exact Nat.le_refl _)]; exact HR.out)
      have hmx : ¬ (m : Int) < m := by omega
      go_wp2
      go_ret
      refine ⟨_, rfl, ?_, Ext.trans' HB1.out HB.out⟩
      have h1 := HRow.out
      rw [HQ2.out] at h1
      have hqR : R.length = q := by rw [← HQ2.out]; exact HQ.out
      rw [hqR]
      exact ownsRow_base_a h1 HB1.out.size
end Go.Proofs.Ytchbbaehdcmcfaa
/- Stage 16's laws: ints, deep. -/
namespace Go.Proofs.Ytchbbaehdcmcfaa
open Go.RowKit
set_option linter.unusedVariables false
theorem Nums.cellsAt {w : World} {v : Value} {l : List Int} (h : Nums w v l) : ∃ a c, v = .slice a l.length c ∧ l.length ≤ c ∧ c ≤ maxLen ∧ ∀ (i : Nat) x, l[i]? = some x → ∃ b off, a = some ⟨b, off, none⟩ ∧ b < w.heap.size ∧ w.cell? ⟨b, off + i, none⟩ = some (.int .i64 x) := by
 obtain ⟨a, c, rfl, h1, h2⟩ := h.len
 exact ⟨a, c, rfl, h1, h2, fun i x hx => h.get hx⟩
set_option maxHeartbeats 4000000 in
theorem ints_at {w : World} {va vb : Value} {l r : List Int} (ha : Nums w va l) (hb : Nums w vb r) : Calls Try.prog 46 #[va, vb] w fun e w' => e = .returned (.bool (decide (l = r))) ∧ Below w.heap.size w w' := by
 obtain ⟨a, c, rfl, ha1, ha2, ha3⟩ := ha.cellsAt
 obtain ⟨b, d, rfl, hb1, hb2, hb3⟩ := hb.cellsAt
 unfold maxLen at ha2 hb2
 obtain ⟨m, hm⟩ : ∃ m, l.length = m := ⟨_, rfl⟩
 obtain ⟨n, hn⟩ : ∃ n, r.length = n := ⟨_, rfl⟩
 have HL := Lib.hid (And.intro hm hn)
 have HA := Lib.hid ha3
 have HB := Lib.hid hb3
 rw [hm] at ha1 ⊢
 rw [hn] at hb1 ⊢
 clear ha hb ha3 hb3 hm hn
 go_enter Try.func46, Try.ntmps46
 by_cases hmn : m = n
 rotate_left
 ·have hmn' : ((m : Int) == (n : Int)) = false := by simp; omega
  have hd : decide (l = r) = false := decide_eq_false fun e => hmn (by rw [← HL.out.1, ← HL.out.2, e])
  go_wp2
  go_ret
  exact ⟨by first | rfl | (rw [hd]; rfl), Below.refl _ _⟩
 subst hmn
 go_wp2_with fail
 go_loopw [5] (fun z wr => ∃ i : Nat, i ≤ m ∧ z = .int .i64 i ∧ Hid (Below w.heap.size w wr) ∧ Hid (l.take i = r.take i)) (fun z _ => m - (RowKit.intOf z).toNat)
 case atStart => exact ⟨0, Nat.zero_le _, rfl, Lib.hid (Below.refl _ _), Lib.hid rfl⟩
 case round =>
  obtain ⟨i, hi, rfl, HW, HT⟩ := hrel
  by_cases him : i < m
  ·obtain ⟨x, hx⟩ : ∃ x, l[i]? = some x := ⟨_, List.getElem?_eq_getElem (by rw [HL.out.1]; exact him)⟩
   obtain ⟨y, hy⟩ : ∃ y, r[i]? = some y := ⟨_, List.getElem?_eq_getElem (by rw [HL.out.2]; exact him)⟩
   obtain ⟨ba, oa, rfl, _, c0⟩ := HA.out i x hx
   obtain ⟨bb, ob, rfl, _, c1⟩ := HB.out i y hy
   have HX := Lib.hid (And.intro hx hy)
   replace c0 := cell_later HW.out c0
   replace c1 := cell_later HW.out c1
   have himi : (i : Int) < m := by omega
   clear hx hy
   by_cases hxy : x = y
   ·subst hxy
    have HN := Lib.hid (show l.take (i + 1) = r.take (i + 1) from by rw [take_next HX.out.1, take_next HX.out.2, HT.out])
    go_upto_region 6 with fail
    refine wp_region_held_drew (S := fun wq => wq.cell? ⟨ba, oa + i, none⟩ = some (.int .i64 x) ∧ wq.cell? ⟨bb, ob + i, none⟩ = some (.int .i64 x)) (by kernel_rfl) ⟨c0, c1⟩ (fun hHeld => ?_)
    first | (refine held_t (i := 0) hHeld ?_; constructor; constructor; intro wq hq; focus ((try dsimp only at hq); go_simp; first | done | with_reducible rfl | fail)) | refine held_s (i := 0) hHeld ?_ | fail
    first | (refine held_t (i := 1) hHeld ?_; constructor; constructor; intro wq hq; focus ((try dsimp only at hq); go_simp; first | done | with_reducible rfl | fail)) | refine held_s (i := 1) hHeld ?_ | fail
    first | (refine held_t (i := 2) hHeld ?_; constructor; constructor; intro wq hq; focus ((try dsimp only at hq); go_simp; first | done | with_reducible rfl | fail)) | refine held_s (i := 2) hHeld ?_ | fail
    first | (refine held_t (i := 3) hHeld ?_; constructor; constructor; intro wq hq; focus ((try dsimp only at hq); go_simp; first | done | with_reducible rfl | fail)) | refine held_s (i := 3) hHeld ?_ | fail
    first | (refine held_t (i := 4) hHeld ?_; constructor; constructor; intro wq hq; focus ((try dsimp only at hq); go_simp; first | done | with_reducible rfl | fail)) | refine held_s (i := 4) hHeld ?_ | fail
    first | (refine held_t (i := 5) hHeld ?_; constructor; constructor; intro wq hq; focus ((try dsimp only at hq); go_simp; first | done | with_reducible rfl | fail)) | refine held_s (i := 5) hHeld ?_ | fail
    first | (refine held_t (i := 6) hHeld ?_; constructor; constructor; intro wq hq; focus ((try dsimp only at hq); go_simp; first | done | with_reducible rfl | fail)) | refine held_s (i := 6) hHeld ?_ | fail
    first | (refine held_t (i := 7) hHeld ?_; constructor; constructor; intro wq hq; focus ((try dsimp only at hq); go_simp; first | done | with_reducible rfl | fail)) | refine held_s (i := 7) hHeld ?_ | fail
    first | (refine held_t (i := 8) hHeld ?_; constructor; constructor; intro wq hq; focus ((try dsimp only at hq); go_simp; first | done | with_reducible rfl | fail)) | refine held_s (i := 8) hHeld ?_ | fail
    try simp only [Act.put, lay4]
    refine wpAnyH_done (by kernel_rfl) ?_ _
    have HW2 := Lib.hid (show Below w.heap.size w wr.drew from HW.out.drew)
    clear hHeld c0 c1
    go_wp2
    go_roundw
    case rel => exact ⟨i + 1, him, by go_num, HW2, HN⟩
    case measure => simp [RowKit.intOf]; omega
   ·have hxy' : (x == y) = false := by simpa using hxy
    have hd : decide (l = r) = false := decide_eq_false fun e => hxy (by
     have h1 := HX.out.1
     rw [e, HX.out.2] at h1
     exact (Option.some.inj h1).symm)
    go_upto_region 6 with fail
    refine wp_region_held_drew (S := fun wq => wq.cell? ⟨ba, oa + i, none⟩ = some (.int .i64 x) ∧ wq.cell? ⟨bb, ob + i, none⟩ = some (.int .i64 y)) (by kernel_rfl) ⟨c0, c1⟩ (fun hHeld => ?_)
    first | (refine held_t (i := 0) hHeld ?_; constructor; constructor; intro wq hq; focus ((try dsimp only at hq); go_simp; first | done | with_reducible rfl | fail)) | refine held_s (i := 0) hHeld ?_ | fail
    first | (refine held_t (i := 1) hHeld ?_; constructor; constructor; intro wq hq; focus ((try dsimp only at hq); go_simp; first | done | with_reducible rfl | fail)) | refine held_s (i := 1) hHeld ?_ | fail
    first | (refine held_t (i := 2) hHeld ?_; constructor; constructor; intro wq hq; focus ((try dsimp only at hq); go_simp; first | done | with_reducible rfl | fail)) | refine held_s (i := 2) hHeld ?_ | fail
    first | (refine held_t (i := 3) hHeld ?_; constructor; constructor; intro wq hq; focus ((try dsimp only at hq); go_simp; first | done | with_reducible rfl | fail)) | refine held_s (i := 3) hHeld ?_ | fail
    first | (refine held_t (i := 4) hHeld ?_; constructor; constructor; intro wq hq; focus ((try dsimp only at hq); go_simp; first | done | with_reducible rfl | fail)) | refine held_s (i := 4) hHeld ?_ | fail
    first | (refine held_t (i := 5) hHeld ?_; constructor; constructor; intro wq hq; focus ((try dsimp only at hq); go_simp; first | done | with_reducible rfl | fail)) | refine held_s (i := 5) hHeld ?_ | fail
    first | (refine held_t (i := 6) hHeld ?_; constructor; constructor; intro wq hq; focus ((try dsimp only at hq); go_simp; first | done | with_reducible rfl | fail)) | refine held_s (i := 6) hHeld ?_ | fail
    first | (refine held_t (i := 7) hHeld ?_; constructor; constructor; intro wq hq; focus ((try dsimp only at hq); go_simp; first | done | with_reducible rfl | fail)) | refine held_s (i := 7) hHeld ?_ | fail
    first | (refine held_t (i := 8) hHeld ?_; constructor; constructor; intro wq hq; focus ((try dsimp only at hq); go_simp; first | done | with_reducible rfl | fail)) | refine held_s (i := 8) hHeld ?_ | fail
    try simp only [Act.put, lay4]
    refine wpAnyH_done (by kernel_rfl) ?_ _
    have HW2 := Lib.hid (show Below w.heap.size w wr.drew from HW.out.drew)
    clear hHeld c0 c1
    go_wp2
    go_ret
    exact ⟨by first | rfl | (rw [hd]; rfl), HW2.out⟩
  ·have hie : m = i := by omega
   subst hie
   have hd : decide (l = r) = true := decide_eq_true (by
    have h := HT.out
    rw [List.take_of_length_le (by rw [HL.out.1]; exact Nat.le_refl _), List.take_of_length_le (by rw [HL.out.2]; exact Nat.le_refl _)] at h
    exact h)
   have hmx : ¬ (m : Int) < m := by omega
   go_wp2
   go_ret
   exact ⟨by first | rfl | (rw [hd]; rfl), HW.out⟩
end Go.Proofs.Ytchbbaehdcmcfaa
