import Derived.Test.YtchbbaehdcmcfaaHzrzz
import Derived.Test.YtchbbaehdcmcfaaHzrad
import Derived.Test.YtchbbaehdcmcfaaHzrac
import Derived.Test.YtchbbaehdcmcfaaHzraa
import Derived.Test.YtchbbaehdcmcfaaRows
import Derived.Test.YtchbbaehdcmcfaaHzrab
import Derived.Deep.RegionHeld3
import Derived.Deep.Cut
import Derived.Deep.CutRange
set_option linter.unusedVariables false
set_option linter.unusedSimpArgs false
/- Stage 16's laws: ints, deep. -/
namespace Go.Proofs.Ytchbbaehdcmcfaa
open Go.RowKit
set_option linter.unusedVariables false
theorem Nums.cellsAt {w : World} {v : Value} {l : List Int} (h : Nums w v l) : ∃ a c, v = .slice a l.length c ∧ l.length ≤ c ∧ c ≤ maxLen ∧ ∀ (i : Nat) x, l[i]? = some x → ∃ b off, a = some ⟨b, off, none⟩ ∧ b < w.heap.size ∧ w.cell? ⟨b, off + i, none⟩ = some (.int .i64 x) := by
 obtain ⟨a, c, rfl, h1, h2⟩ := h.len
 exact ⟨a, c, rfl, h1, h2, fun i x hx => h.get hx⟩
set_option maxHeartbeats 4000000 in
theorem ints_at {w : World} {va vb : Value} {l r : List Int} (ha : Nums w va l) (hb : Nums w vb r) : Calls Try.prog 46 #[va, vb] w fun e w' => e = .returned (.bool (decide (l = r))) ∧ Below w.heap.size w w' := by
 obtain ⟨a, c, rfl, ha1, ha2, ha3⟩ := ha.cellsAt
 obtain ⟨b, d, rfl, hb1, hb2, hb3⟩ := hb.cellsAt
 unfold maxLen at ha2 hb2
 obtain ⟨m, hm⟩ : ∃ m, l.length = m := ⟨_, rfl⟩
 obtain ⟨n, hn⟩ : ∃ n, r.length = n := ⟨_, rfl⟩
 have HL := Lib.hid (And.intro hm hn)
 have HA := Lib.hid ha3
 have HB := Lib.hid hb3
 rw [hm] at ha1 ⊢
 rw [hn] at hb1 ⊢
 clear ha hb ha3 hb3 hm hn
 go_enter Try.func46, Try.ntmps46
 by_cases hmn : m = n
 rotate_left
 ·have hmn' : ((m : Int) == (n : Int)) = false := by simp; omega
  have hd : decide (l = r) = false := decide_eq_false fun e => hmn (by rw [← HL.out.1, ← HL.out.2, e])
  go_wp2
  go_ret
  exact ⟨by first | rfl | (rw [hd]; rfl), Below.refl _ _⟩
 subst hmn
 go_wp2_with fail
 go_loopw [5] (fun z wr => ∃ i : Nat, i ≤ m ∧ z = .int .i64 i ∧ Hid (Below w.heap.size w wr) ∧ Hid (l.take i = r.take i)) (fun z _ => m - (RowKit.intOf z).toNat)
 case atStart => exact ⟨0, Nat.zero_le _, rfl, Lib.hid (Below.refl _ _), Lib.hid rfl⟩
 case round =>
  obtain ⟨i, hi, rfl, HW, HT⟩ := hrel
  by_cases him : i < m
  ·obtain ⟨x, hx⟩ : ∃ x, l[i]? = some x := ⟨_, List.getElem?_eq_getElem (by rw [HL.out.1]; exact him)⟩
   obtain ⟨y, hy⟩ : ∃ y, r[i]? = some y := ⟨_, List.getElem?_eq_getElem (by rw [HL.out.2]; exact him)⟩
   obtain ⟨ba, oa, rfl, _, c0⟩ := HA.out i x hx
   obtain ⟨bb, ob, rfl, _, c1⟩ := HB.out i y hy
   have HX := Lib.hid (And.intro hx hy)
   replace c0 := cell_later HW.out c0
   replace c1 := cell_later HW.out c1
   have himi : (i : Int) < m := by omega
   clear hx hy
   by_cases hxy : x = y
   ·subst hxy
    have HN := Lib.hid (show l.take (i + 1) = r.take (i + 1) from by rw [take_next HX.out.1, take_next HX.out.2, HT.out])
    go_upto_region 6 with fail
    refine wp_region_held_drew (S := fun wq => wq.cell? ⟨ba, oa + i, none⟩ = some (.int .i64 x) ∧ wq.cell? ⟨bb, ob + i, none⟩ = some (.int .i64 x)) (by kernel_rfl) ⟨c0, c1⟩ (fun hHeld => ?_)
    first | (refine held_t (i := 0) hHeld ?_; constructor; constructor; intro wq hq; focus ((try dsimp only at hq); go_simp; first | done | with_reducible rfl | fail)) | refine held_s (i := 0) hHeld ?_ | fail
    first | (refine held_t (i := 1) hHeld ?_; constructor; constructor; intro wq hq; focus ((try dsimp only at hq); go_simp; first | done | with_reducible rfl | fail)) | refine held_s (i := 1) hHeld ?_ | fail
    first | (refine held_t (i := 2) hHeld ?_; constructor; constructor; intro wq hq; focus ((try dsimp only at hq); go_simp; first | done | with_reducible rfl | fail)) | refine held_s (i := 2) hHeld ?_ | fail
    first | (refine held_t (i := 3) hHeld ?_; constructor; constructor; intro wq hq; focus ((try dsimp only at hq); go_simp; first | done | with_reducible rfl | fail)) | refine held_s (i := 3) hHeld ?_ | fail
    first | (refine held_t (i := 4) hHeld ?_; constructor; constructor; intro wq hq; focus ((try dsimp only at hq); go_simp; first | done | with_reducible rfl | fail)) | refine held_s (i := 4) hHeld ?_ | fail
    first | (refine held_t (i := 5) hHeld ?_; constructor; constructor; intro wq hq; focus ((try dsimp only at hq); go_simp; first | done | with_reducible rfl | fail)) | refine held_s (i := 5) hHeld ?_ | fail
    first | (refine held_t (i := 6) hHeld ?_; constructor; constructor; intro wq hq; focus ((try dsimp only at hq); go_simp; first | done | with_reducible rfl | fail)) | refine held_s (i := 6) hHeld ?_ | fail
    first | (refine held_t (i := 7) hHeld ?_; constructor; constructor; intro wq hq; focus ((try dsimp only at hq); go_simp; first | done | with_reducible rfl | fail)) | refine held_s (i := 7) hHeld ?_ | fail
    first | (refine held_t (i := 8) hHeld ?_; constructor; constructor; intro wq hq; focus ((try dsimp only at hq); go_simp; first | done | with_reducible rfl | fail)) | refine held_s (i := 8) hHeld ?_ | fail
    try simp only [Act.put, lay4]
    refine wpAnyH_done (by kernel_rfl) ?_ _
    have HW2 := Lib.hid (show Below w.heap.size w wr.drew from HW.out.drew)
    clear hHeld c0 c1
    go_wp2
    go_roundw
    case rel => exact ⟨i + 1, him, by go_num, HW2, HN⟩
    case measure => simp [RowKit.intOf]; omega
   ·have hxy' : (x == y) = false := by simpa using hxy
    have hd : decide (l = r) = false := decide_eq_false fun e => hxy (by
     have h1 := HX.out.1
     rw [e, HX.out.2] at h1
     exact (Option.some.inj h1).symm)
    go_upto_region 6 with fail
    refine wp_region_held_drew (S := fun wq => wq.cell? ⟨ba, oa + i, none⟩ = some (.int .i64 x) ∧ wq.cell? ⟨bb, ob + i, none⟩ = some (.int .i64 y)) (by kernel_rfl) ⟨c0, c1⟩ (fun hHeld => ?_)
    first | (refine held_t (i := 0) hHeld ?_; constructor; constructor; intro wq hq; focus ((try dsimp only at hq); go_simp; first | done | with_reducible rfl | fail)) | refine held_s (i := 0) hHeld ?_ | fail
    first | (refine held_t (i := 1) hHeld ?_; constructor; constructor; intro wq hq; focus ((try dsimp only at hq); go_simp; first | done | with_reducible rfl | fail)) | refine held_s (i := 1) hHeld ?_ | fail
    first | (refine held_t (i := 2) hHeld ?_; constructor; constructor; intro wq hq; focus ((try dsimp only at hq); go_simp; first | done | with_reducible rfl | fail)) | refine held_s (i := 2) hHeld ?_ | fail
    first | (refine held_t (i := 3) hHeld ?_; constructor; constructor; intro wq hq; focus ((try dsimp only at hq); go_simp; first | done | with_reducible rfl | fail)) | refine held_s (i := 3) hHeld ?_ | fail
    first | (refine held_t (i := 4) hHeld ?_; constructor; constructor; intro wq hq; focus ((try dsimp only at hq); go_simp; first | done | with_reducible rfl | fail)) | refine held_s (i := 4) hHeld ?_ | fail
    first | (refine held_t (i := 5) hHeld ?_; constructor; constructor; intro wq hq; focus ((try dsimp only at hq); go_simp; first | done | with_reducible rfl | fail)) | refine held_s (i := 5) hHeld ?_ | fail
    first | (refine held_t (i := 6) hHeld ?_; constructor; constructor; intro wq hq; focus ((try dsimp only at hq); go_simp; first | done | with_reducible rfl | fail)) | refine held_s (i := 6) hHeld ?_ | fail
    first | (refine held_t (i := 7) hHeld ?_; constructor; constructor; intro wq hq; focus ((try dsimp only at hq); go_simp; first | done | with_reducible rfl | fail)) | refine held_s (i := 7) hHeld ?_ | fail
    first | (refine held_t (i := 8) hHeld ?_; constructor; constructor; intro wq hq; focus ((try dsimp only at hq); go_simp; first | done | with_reducible rfl | fail)) | refine held_s (i := 8) hHeld ?_ | fail
    try simp only [Act.put, lay4]
    refine wpAnyH_done (by kernel_rfl) ?_ _
    have HW2 := Lib.hid (show Below w.heap.size w wr.drew from HW.out.drew)
    clear hHeld c0 c1
    go_wp2
    go_ret
    exact ⟨by first | rfl | (rw [hd]; rfl), HW2.out⟩
  ·have hie : m = i := by omega
   subst hie
   have hd : decide (l = r) = true := decide_eq_true (by
    have h := HT.out
    rw [List.take_of_length_le (by rw [HL.out.1]; exact Nat.le_refl _), List.take_of_length_le (by rw [HL.out.2]; exact Nat.le_refl _)] at h
    exact h)
   have hmx : ¬ (m : Int) < m := by omega
   go_wp2
   go_ret
   exact ⟨by first | rfl | (rw [hd]; rfl), HW.out⟩
end Go.Proofs.Ytchbbaehdcmcfaa
/- Package index: Of; the document's KeyOf. -/
namespace Go.Proofs.Ytchbbaehdcmcfaa
open Go.RowKit
set_option linter.unusedVariables false
theorem argKey_is {a : Tm} (h : formedT a = true) (hk : a.k ≠ 0) : argKey a = ⟨a.k, a.n, a.s, (a.args.length : Nat)⟩ := by
 rcases formed_kids h with ⟨g, _⟩ | ⟨g, e⟩ | ⟨g, e⟩
 ·exact absurd g hk
 ·unfold argKey
  rw [if_neg hk, if_pos g]
  have e1 : a.s = ⟨#[]⟩ := by rw [e]; rfl
  have e2 : a.args = [] := by rw [e]; rfl
  rw [g, e1, e2]
  rfl
 ·unfold argKey
  rw [if_neg hk, if_neg (by rw [g]; decide)]
  have e1 : a.n = 0 := by rw [e]; rfl
  rw [g, e1]
theorem i64of2 : I64 2 := ⟨by decide, by decide⟩
theorem i64of0 : I64 0 := ⟨by decide, by decide⟩
set_option maxHeartbeats 4000000 in
set_option maxRecDepth 100000 in
theorem ixOf_at (t : Tm) (w : World) (v : Value) (hv : TmV w t v) : Calls Try.prog 41 #[v] w fun e w' => e = .returned (ixV (keyT t)) ∧ Below w.heap.size w w' := by
 have HV := Lib.hid hv
 obtain ⟨k, n, s, ts⟩ := t
 obtain ⟨u, rfl, hss, hkk, hnn, hts⟩ := tmV_iff.1 hv
 obtain ⟨a, c, rfl, ha1, ha2, ha3⟩ := hts.len
 unfold maxLen at ha2
 unfold BIG at ha3
 obtain ⟨m, hm⟩ : ∃ m, ts.length = m := ⟨_, rfl⟩
 have HM := Lib.hid hm
 have HT := Lib.hid hts
 obtain ⟨R, hR⟩ : ∃ R, keyT (.mk k n s ts) = R := ⟨_, rfl⟩
 have HR := Lib.hid hR
 rw [hR]
 rw [hm] at HV HT ha1 ha3 ⊢
 obtain ⟨w1, e1, B1, z1, X1⟩ := box_new w #[.int .i64 k, .int .i64 n, .string s, .slice a m c] 31
 obtain ⟨w2, e2, B2, z2, X2⟩ := box_new w1 #[.int .i64 0, .int .i64 0, .string ⟨#[]⟩, .int .i64 0] 76
 have hB := Ext.trans' B1 B2
 rw [z1] at X2
 have HE := Lib.hid (And.intro e1 e2)
 have HB := Lib.hid hB
 have HX := Lib.hid (And.intro (X1.ext B2) X2)
 obtain ⟨x0, x1, x2, x3, _⟩ := HX.out.1.four
 clear e1 e2 B1 B2 z1 z2 X1 X2 hB hv hss hkk hnn hts hm hR
 go_enter Try.func41, Try.ntmps41
 go_upto_region 1 with fail
 (try rw [HE.out.1])
 (try rw [HE.out.2])
 clear HE
 by_cases hm0 : m = 0
 ·subst hm0
  have hr : R = zeroKey := by
   rw [← HR.out]
   unfold keyT
   split
   ·rw [show (Tm.mk k n s ts).args = [] from List.length_eq_zero_iff.1 HM.out]
   ·rfl
  obtain ⟨y0, y1, y2, y3, yf⟩ := HX.out.2.four
  have hb2 := Below.set4 (b := w.heap.size + 1) HB.out (by omega) (.int .i64 0) (.int .i64 0) (.string ⟨#[]⟩) (.int .i64 0)
  go_wp2
  refine bodyPost_ret (v := .agg #[.int .i64 0, .int .i64 0, .string ⟨#[]⟩, .int .i64 0]) (by rw [results_cell1 rfl]; go_simp) rfl ⟨by first | rfl | (rw [hr]; rfl), hb2⟩
 have hm1 : ((m : Int) == 0) = false := by simp; omega
 have C := Good_at (.mk k n s ts) w2 _ (TmV.ext HB.out _ _ HV.out)
 cases hg : goodT (.mk k n s ts)
 ·rw [hg] at C
  (go_wp2_with fail; go_fit (C); rintro e w3 ⟨rfl, b3⟩)
  have hr : R = zeroKey := by rw [← HR.out]; unfold keyT; rw [if_neg (by rw [hg]; simp)]
  obtain ⟨y0, y1, y2, y3, yf⟩ := (HX.out.2.ext b3).four
  have hb2 := Below.set4 (b := w.heap.size + 1) (Ext.trans' HB.out b3) (by omega) (.int .i64 0) (.int .i64 0) (.string ⟨#[]⟩) (.int .i64 0)
  clear hg b3 C x0 x1 x2 x3
  go_wp2
  refine bodyPost_ret (v := .agg #[.int .i64 0, .int .i64 0, .string ⟨#[]⟩, .int .i64 0]) (by rw [results_cell1 rfl]; go_simp) rfl ⟨by first | rfl | (rw [hr]; rfl), hb2⟩
 rw [hg] at C
 (go_wp2_with fail; go_fit (C); rintro e w3 ⟨rfl, b3⟩)
 have HB3 := Lib.hid (Ext.trans' HB.out b3)
 have HX3 := Lib.hid (And.intro (HX.out.1.ext b3) (HX.out.2.ext b3))
 have HG := Lib.hid hg
 clear hg b3 C x0 x1 x2 x3
 obtain ⟨x0, x1, x2, x3, _⟩ := HX3.out.1.four
 obtain ⟨y, hy⟩ : ∃ y, ts[0]? = some y := ⟨_, List.getElem?_eq_getElem (by rw [HM.out]; omega)⟩
 obtain ⟨b, off, k1, n1, s1, u1, rfl, hbb, g1, g2, g3, c0, c1, c2, c3, hu1, ht⟩ := HT.out.get hy
 obtain ⟨a1, l1, rfl, _, hl2, _⟩ := hu1.len
 unfold maxLen at hl2
 replace c0 := cell_later HB3.out c0
 replace c1 := cell_later HB3.out c1
 replace c2 := cell_later HB3.out c2
 replace c3 := cell_later HB3.out c3
 rw [Nat.zero_mul, Nat.add_zero] at c0 c1 c2 c3
 have hR : R = argKey y := by
  rw [← HR.out]
  unfold keyT
  rw [if_pos HG.out]
  show (match ts with | [] => zeroKey | a :: _ => argKey a) = _
  cases ts with
  | nil => simp at hy
  | cons q r => injection hy with hy; rw [hy]
 have hf : formedT y = true := (good_parts (good_arg HG.out (t := .mk k n s ts) (List.mem_of_getElem? hy))).2.2
 have HKey := Lib.hid (And.intro hR (And.intro hf (And.intro g1 (And.intro g2 g3))))
 obtain ⟨q, hq⟩ : ∃ q, y.args.length = q := ⟨_, rfl⟩
 have HQ := Lib.hid hq
 rw [hq] at c3
 clear hR hf g1 g2 g3 hu1 ht hy hbb hq
 go_upto_region 4 with fail
 obtain ⟨w4, e4, B4, z4, X4⟩ := box_new w3 #[.int .i64 k1, .int .i64 n1, .string s1, .slice a1 q l1] 31
 (try rw [e4])
 obtain ⟨z0, zz1, zz2, zz3, _⟩ := X4.four
 obtain ⟨y0, y1, y2, y3, yf⟩ := (HX3.out.2.ext B4).four
 have HB4 := Lib.hid (Ext.trans' HB3.out B4)
 clear e4 B4 z4 X4 x0 x1 x2 x3 c0 c1 c2 c3
 by_cases hk1 : k1 = 0
 ·have hk1' : (k1 == 0) = true := by simpa using hk1
  have hr : R = zeroKey := by
   rw [HKey.out.1]
   unfold argKey
   rw [if_pos (by rw [HKey.out.2.2.1]; exact hk1)]
  have hb2 := Below.set4 (b := w.heap.size + 1) HB4.out (by omega) (.int .i64 0) (.int .i64 0) (.string ⟨#[]⟩) (.int .i64 0)
  go_wp2
  refine bodyPost_ret (v := .agg #[.int .i64 0, .int .i64 0, .string ⟨#[]⟩, .int .i64 0]) (by rw [results_cell1 rfl]; go_simp) rfl ⟨by first | rfl | (rw [hr]; rfl), hb2⟩
 ·have hk1' : (k1 == 0) = false := by simpa using hk1
  have hr : R = ⟨k1, n1, s1, (q : Int)⟩ := by
   rw [HKey.out.1, argKey_is HKey.out.2.1 (by rw [HKey.out.2.2.1]; exact hk1), HKey.out.2.2.1, HKey.out.2.2.2.1, HKey.out.2.2.2.2, HQ.out]
  have hb2 := Below.set4 (b := w.heap.size + 1) HB4.out (by omega) (.int .i64 k1) (.int .i64 n1) (.string s1) (.int .i64 (q : Int))
  go_wp2
  refine bodyPost_ret (v := .agg #[.int .i64 k1, .int .i64 n1, .string s1, .int .i64 (q : Int)]) (by rw [results_cell1 rfl]; go_simp) rfl ⟨by first | rfl | rw [hr], hb2⟩
end Go.Proofs.Ytchbbaehdcmcfaa
/- Stage 16's laws: awake. -/
namespace Go.Proofs.Ytchbbaehdcmcfaa
open Go.RowKit
set_option linter.unusedVariables false
def ixA : KeyM := ⟨2, 0, ⟨#[97]⟩, 0⟩
def ixB : KeyM := ⟨2, 0, ⟨#[98]⟩, 0⟩
theorem ix3_keys {w : World} {b : Nat} (h : Box w b [.int .i64 0, .int .i64 0, .string ⟨#[]⟩, .int .i64 0, .int .i64 2, .int .i64 0, .string ⟨#[97]⟩, .int .i64 0, .int .i64 2, .int .i64 0, .string ⟨#[98]⟩, .int .i64 0]) : Keys w (.slice (some ⟨b, 0, none⟩) 3 3) [zeroKey, ixA, ixB] := by
 refine ⟨_, 3, rfl, Nat.le_refl _, by unfold maxLen; omega, Or.inr ⟨b, 0, rfl, h.lt, fun i x hx j u hu => ?_⟩⟩
 rcases i with _ | _ | _ | i <;> simp at hx <;> subst hx <;> rcases j with _ | _ | _ | _ | j <;> simp [ixCells, zeroKey, ixA, ixB] at hu <;> subst hu <;> exact h.cells _ _ rfl
theorem two_nums {w : World} {b : Nat} (h : Box w b [.int .i64 0, .int .i64 1]) : Nums w (.slice (some ⟨b, 0, none⟩) 2 2) [0, 1] := by
 refine ⟨_, 2, rfl, Nat.le_refl _, by unfold maxLen; omega, Or.inr ⟨b, 0, rfl, h.lt, fun i x hx j u hu => ?_⟩⟩
 rcases i with _ | _ | i <;> simp at hx <;> subst hx <;> rcases j with _ | j <;> simp at hu <;> subst hu <;> exact h.cells _ _ rfl
theorem ixA_head : keyT (nameT ⟨#[112]⟩ [nameT ⟨#[97]⟩ []]) = ixA := by
 unfold keyT
 rw [if_pos (by decide +kernel)]
 rfl
theorem ixA_v : ixV (keyT (nameT ⟨#[112]⟩ [nameT ⟨#[97]⟩ []])) = .agg #[.int .i64 2, .int .i64 0, .string ⟨#[97]⟩, .int .i64 0] := by rw [ixA_head]; rfl
theorem ixA_same : sameKey ixA ixA = true := sameKey_self _
set_option maxHeartbeats 4000000 in
set_option maxRecDepth 100000 in
theorem awake16_at (w : World) : Calls Try.prog 40 #[] w fun e w' => e = .returned (.bool true) ∧ Below w.heap.size w w' := by
 obtain ⟨w1, e1, B1, z1, X1⟩ := box_new w #[.int .i64 0, .int .i64 0, .string ⟨#[]⟩, .int .i64 0, .int .i64 2, .int .i64 0, .string ⟨#[97]⟩, .int .i64 0, .int .i64 2, .int .i64 0, .string ⟨#[98]⟩, .int .i64 0] 76
 obtain ⟨lb, hlb⟩ : ∃ lb, w.heap.size = lb := ⟨_, rfl⟩
 rw [hlb] at X1
 have HE := Lib.hid (And.intro e1 hlb)
 have HB1 := Lib.hid B1
 have HK := Lib.hid (ix3_keys X1)
 have hC : ∀ wq, Below w1.heap.size w1 wq → (wq.cell? ⟨lb, 4, none⟩ = some (.int .i64 2) ∧ wq.cell? ⟨lb, 5, none⟩ = some (.int .i64 0) ∧ wq.cell? ⟨lb, 6, none⟩ = some (.string ⟨#[97]⟩) ∧ wq.cell? ⟨lb, 7, none⟩ = some (.int .i64 0)) := fun wq hb =>
  ⟨cell_later hb (X1.cells 4 _ rfl), cell_later hb (X1.cells 5 _ rfl), cell_later hb (X1.cells 6 _ rfl), cell_later hb (X1.cells 7 _ rfl)⟩
 have HC := Lib.hid hC
 have he : ∀ wq : World, (Op.equalIn 10000 76 (.agg #[.int .i64 2, .int .i64 0, .string ⟨#[97]⟩, .int .i64 0]) (.agg #[.int .i64 2, .int .i64 0, .string ⟨#[97]⟩, .int .i64 0])).run Try.prog wq = .ok true wq := fun wq => by
  have := ixEq ixA ixA wq
  rw [ixA_same] at this
  exact this
 have HEQ := Lib.hid he
 clear e1 hlb B1 X1 z1 hC he
 go_enter Try.func40, Try.ntmps40
 go_upto_region 2 with fail
 (try rw [HE.out.1])
 (try rw [HE.out.2])
 refine wp_region_held_drew (S := fun wq => wq.cell? ⟨lb, 4, none⟩ = some (.int .i64 2) ∧ wq.cell? ⟨lb, 5, none⟩ = some (.int .i64 0) ∧ wq.cell? ⟨lb, 6, none⟩ = some (.string ⟨#[97]⟩) ∧ wq.cell? ⟨lb, 7, none⟩ = some (.int .i64 0)) (by kernel_rfl) (HC.out _ (Below.refl _ _).drew) (fun hHeld => ?_)
 obtain ⟨wd, ewd⟩ : ∃ wd, w1.drew = wd := ⟨_, rfl⟩
 have HBd := Lib.hid (show Below w1.heap.size w1 wd from by rw [← ewd]; exact (Below.refl _ _).drew)
 rw [ewd] at hHeld ⊢
 clear ewd
 first | (refine held_t (i := 0) hHeld ?_; constructor; constructor; intro wq hq; focus ((try dsimp only at hq); go_simp; first | done | with_reducible rfl | fail)) | refine held_s (i := 0) hHeld ?_ | fail
 first | (refine held_t (i := 1) hHeld ?_; constructor; constructor; intro wq hq; focus ((try dsimp only at hq); go_simp; first | done | with_reducible rfl | fail)) | refine held_s (i := 1) hHeld ?_ | fail
 first | (refine held_t (i := 2) hHeld ?_; constructor; constructor; intro wq hq; focus ((try dsimp only at hq); go_simp; first | done | with_reducible rfl | fail)) | refine held_s (i := 2) hHeld ?_ | fail
 first | (refine held_t (i := 3) hHeld ?_; constructor; constructor; intro wq hq; focus ((try dsimp only at hq); go_simp; first | done | with_reducible rfl | fail)) | refine held_s (i := 3) hHeld ?_ | fail
 try simp only [Act.put, lay4]
 refine wpAnyH_ready (rs := [4, 5]) (by kernel_rfl) (by simp) ?_
 refine AllReadyH.cons (by simp only [ops3]; rfl) (fun K hK => ?_) (AllReadyH.cons (by simp only [ops3]; rfl) (fun K hK => ?_) AllReadyH.nil)
 ·go_simp
  (go_at_call 50; refine (ixPick_at (HK.out.ext HBd.out) (by decide) ixA).mono ?_; rintro e w2 ⟨r2, rfl, h2, b2⟩; have HB2 := Lib.hid (Ext.trans' HBd.out b2); have HN2 := Lib.hid (show Nums w2 r2 [0, 1] from Elems.owned (cells := numCells) (fun _ => rfl) h2); clear h2 b2)
  refine hK.out _ _ (HC.out _ HB2.out) (fun hHeld => ?_)
  clear hK K
  try simp only [Act.put, lay4]
  refine held_c 5 fun K hK => ?_
  go_simp
  skip
  refine hK.out _ _ (HC.out _ (Ext.trans' HB2.out (bel1' _ _))) (fun hHeld => ?_)
  clear hK K
  try simp only [Act.put, lay4]
  have HB3 := Lib.hid (Ext.trans' HB2.out (bel1' w2 (.cells #[.int .i64 0, .int .i64 1] 3)))
  have HA3 := Lib.hid (Nums.ext HN2.out (bel1' w2 (.cells #[.int .i64 0, .int .i64 1] 3)))
  obtain ⟨w3, e3, b3, z3, X3⟩ := box_new w2 #[.int .i64 0, .int .i64 1] 3
  have HD3 := Lib.hid (two_nums X3)
  rw [e3] at hHeld HB3 HA3 ⊢
  clear e3 b3 z3 X3
  refine held_c 6 fun K hK => ?_
  go_simp
  (go_at_call 46; refine (ints_at HA3.out HD3.out).mono ?_; rintro e w4 ⟨rfl, b4⟩; have HB4 := Lib.hid (Ext.trans' HB3.out b4); clear b4)
  refine hK.out _ _ (HC.out _ HB4.out) (fun hHeld => ?_)
  clear hK K
  try simp only [Act.put, lay4]
  first | (refine held_t (i := 7) hHeld ?_; constructor; constructor; intro wq hq; focus ((try dsimp only at hq); go_simp; first | done | with_reducible rfl | fail)) | refine held_s (i := 7) hHeld ?_ | fail
  first | (refine held_t (i := 12) hHeld ?_; constructor; constructor; intro wq hq; focus ((try dsimp only at hq); go_simp; first | done | with_reducible rfl | fail)) | refine held_s (i := 12) hHeld ?_ | fail
  first | (refine held_t (i := 13) hHeld ?_; constructor; constructor; intro wq hq; focus ((try dsimp only at hq); go_simp; first | done | with_reducible rfl | fail)) | refine held_s (i := 13) hHeld ?_ | fail
  first | (refine held_t (i := 14) hHeld ?_; constructor; constructor; intro wq hq; focus ((try dsimp only at hq); go_simp; first | done | with_reducible rfl | fail)) | refine held_s (i := 14) hHeld ?_ | fail
  try simp only [Act.put, lay4]
  refine held_c 8 fun K hK => ?_
  go_simp
  (go_at_call 16; refine (atom_at _ ⟨#[97]⟩).mono ?_; rintro e w5 ⟨rfl, b5⟩; have HB5 := Lib.hid (Ext.trans' HB4.out b5); clear b5)
  refine hK.out _ _ (HC.out _ HB5.out) (fun hHeld => ?_)
  clear hK K
  try simp only [Act.put, lay4]
  refine held_c 9 fun K hK => ?_
  go_simp
  skip
  refine hK.out _ _ (HC.out _ (Ext.trans' HB5.out (bel1' _ _))) (fun hHeld => ?_)
  clear hK K
  try simp only [Act.put, lay4]
  obtain ⟨w6, e6, b6, z6, X6⟩ := box_new w5 #[.int .i64 2, .int .i64 0, .string ⟨#[97]⟩, .slice none 0 0] 31
  obtain ⟨ab, hab⟩ : ∃ ab, w5.heap.size = ab := ⟨_, rfl⟩
  rw [hab] at X6 ⊢
  have HB6 := Lib.hid (Ext.trans' HB5.out b6)
  have HT6 := Lib.hid (show Tms w6 (.slice (some ⟨ab, 0, none⟩) 1 1) [nameT ⟨#[97]⟩ []] from ⟨_, 1, rfl, Nat.le_refl _, by unfold maxLen; omega, by unfold BIG; decide, Or.inr ⟨ab, 0, rfl, X6.lt, TmRow.mk fun i x hx => by
   rcases i with _ | i
   ·injection hx with hx
    subst hx
    exact ⟨_, _, _, _, X6.cells 0 _ rfl, X6.cells 1 _ rfl, X6.cells 2 _ rfl, X6.cells 3 _ rfl, leaf_tm w6 i64of2 i64of0 (by unfold BIG; decide)⟩
   ·simp at hx⟩⟩)
  rw [e6] at hHeld ⊢
  clear e6 b6 z6 X6 hab
  refine held_c 10 fun K hK => ?_
  go_simp
  (go_at_call 17; refine (comp_at ⟨#[112]⟩ (by unfold BIG; decide) HT6.out).mono ?_; rintro e w7 ⟨a7, c7, rfl, ht7, b7⟩; have HB7 := Lib.hid (Ext.trans' HB6.out b7); have HT7 := Lib.hid ht7; clear ht7 b7)
  refine hK.out _ _ (HC.out _ HB7.out) (fun hHeld => ?_)
  clear hK K
  try simp only [Act.put, lay4]
  refine held_c 11 fun K hK => ?_
  go_simp
  (go_at_call 41; refine (ixOf_at (nameT ⟨#[112]⟩ [nameT ⟨#[97]⟩ []]) _ _ HT7.out).mono ?_; rintro e w8 ⟨rfl, b8⟩; have HB8 := Lib.hid (Ext.trans' HB7.out b8); have he := HEQ.out; rw [ixA_v]; clear b8)
  refine hK.out _ _ (HC.out _ HB8.out) (fun hHeld => ?_)
  clear hK K
  try simp only [Act.put, lay4]
  first | (refine held_t (i := 15) hHeld ?_; constructor; constructor; intro wq hq; focus ((try dsimp only at hq); go_simp; first | done | with_reducible rfl | fail)) | refine held_s (i := 15) hHeld ?_ | fail
  first | (refine held_t (i := 16) hHeld ?_; constructor; constructor; intro wq hq; focus ((try dsimp only at hq); go_simp; first | done | with_reducible rfl | fail)) | refine held_s (i := 16) hHeld ?_ | fail
  first | (refine held_t (i := 17) hHeld ?_; constructor; constructor; intro wq hq; focus ((try dsimp only at hq); go_simp; first | done | with_reducible rfl | fail)) | refine held_s (i := 17) hHeld ?_ | fail
  try simp only [Act.put, lay4]
  refine wpAnyH_done (by kernel_rfl) ?_ _
  go_wp2
  go_ret
  exact ⟨rfl, Ext.trans' HB1.out HB8.out⟩
 ·go_simp
  skip
  refine hK.out _ _ (HC.out _ (Ext.trans' HBd.out (bel1' _ _))) (fun hHeld => ?_)
  clear hK K
  try simp only [Act.put, lay4]
  obtain ⟨w2, e2, b2, z2, X2⟩ := box_new wd #[.int .i64 0, .int .i64 1] 3
  have HB2 := Lib.hid (Ext.trans' HBd.out b2)
  have HX2 := Lib.hid X2
  rw [e2] at hHeld ⊢
  clear e2 b2 z2 X2
  refine held_c 4 fun K hK => ?_
  go_simp
  (go_at_call 50; refine (ixPick_at (HK.out.ext HB2.out) (by decide) ixA).mono ?_; rintro e w3 ⟨r2, rfl, h2, b2⟩; have HB3 := Lib.hid (Ext.trans' HB2.out b2); have HA3 := Lib.hid (show Nums w3 r2 [0, 1] from Elems.owned (cells := numCells) (fun _ => rfl) h2); have HD3 := Lib.hid (two_nums (HX2.out.ext b2)); clear h2 b2)
  refine hK.out _ _ (HC.out _ HB3.out) (fun hHeld => ?_)
  clear hK K
  try simp only [Act.put, lay4]
  refine held_c 6 fun K hK => ?_
  go_simp
  (go_at_call 46; refine (ints_at HA3.out HD3.out).mono ?_; rintro e w4 ⟨rfl, b4⟩; have HB4 := Lib.hid (Ext.trans' HB3.out b4); clear b4)
  refine hK.out _ _ (HC.out _ HB4.out) (fun hHeld => ?_)
  clear hK K
  try simp only [Act.put, lay4]
  first | (refine held_t (i := 7) hHeld ?_; constructor; constructor; intro wq hq; focus ((try dsimp only at hq); go_simp; first | done | with_reducible rfl | fail)) | refine held_s (i := 7) hHeld ?_ | fail
  first | (refine held_t (i := 12) hHeld ?_; constructor; constructor; intro wq hq; focus ((try dsimp only at hq); go_simp; first | done | with_reducible rfl | fail)) | refine held_s (i := 12) hHeld ?_ | fail
  first | (refine held_t (i := 13) hHeld ?_; constructor; constructor; intro wq hq; focus ((try dsimp only at hq); go_simp; first | done | with_reducible rfl | fail)) | refine held_s (i := 13) hHeld ?_ | fail
  first | (refine held_t (i := 14) hHeld ?_; constructor; constructor; intro wq hq; focus ((try dsimp only at hq); go_simp; first | done | with_reducible rfl | fail)) | refine held_s (i := 14) hHeld ?_ | fail
  try simp only [Act.put, lay4]
  refine held_c 8 fun K hK => ?_
  go_simp
  (go_at_call 16; refine (atom_at _ ⟨#[97]⟩).mono ?_; rintro e w5 ⟨rfl, b5⟩; have HB5 := Lib.hid (Ext.trans' HB4.out b5); clear b5)
  refine hK.out _ _ (HC.out _ HB5.out) (fun hHeld => ?_)
  clear hK K
  try simp only [Act.put, lay4]
  refine held_c 9 fun K hK => ?_
  go_simp
  skip
  refine hK.out _ _ (HC.out _ (Ext.trans' HB5.out (bel1' _ _))) (fun hHeld => ?_)
  clear hK K
  try simp only [Act.put, lay4]
  obtain ⟨w6, e6, b6, z6, X6⟩ := box_new w5 #[.int .i64 2, .int .i64 0, .string ⟨#[97]⟩, .slice none 0 0] 31
  obtain ⟨ab, hab⟩ : ∃ ab, w5.heap.size = ab := ⟨_, rfl⟩
  rw [hab] at X6 ⊢
  have HB6 := Lib.hid (Ext.trans' HB5.out b6)
  have HT6 := Lib.hid (show Tms w6 (.slice (some ⟨ab, 0, none⟩) 1 1) [nameT ⟨#[97]⟩ []] from ⟨_, 1, rfl, Nat.le_refl _, by unfold maxLen; omega, by unfold BIG; decide, Or.inr ⟨ab, 0, rfl, X6.lt, TmRow.mk fun i x hx => by
   rcases i with _ | i
   ·injection hx with hx
    subst hx
    exact ⟨_, _, _, _, X6.cells 0 _ rfl, X6.cells 1 _ rfl, X6.cells 2 _ rfl, X6.cells 3 _ rfl, leaf_tm w6 i64of2 i64of0 (by unfold BIG; decide)⟩
   ·simp at hx⟩⟩)
  rw [e6] at hHeld ⊢
  clear e6 b6 z6 X6 hab
  refine held_c 10 fun K hK => ?_
  go_simp
  (go_at_call 17; refine (comp_at ⟨#[112]⟩ (by unfold BIG; decide) HT6.out).mono ?_; rintro e w7 ⟨a7, c7, rfl, ht7, b7⟩; have HB7 := Lib.hid (Ext.trans' HB6.out b7); have HT7 := Lib.hid ht7; clear ht7 b7)
  refine hK.out _ _ (HC.out _ HB7.out) (fun hHeld => ?_)
  clear hK K
  try simp only [Act.put, lay4]
  refine held_c 11 fun K hK => ?_
  go_simp
  (go_at_call 41; refine (ixOf_at (nameT ⟨#[112]⟩ [nameT ⟨#[97]⟩ []]) _ _ HT7.out).mono ?_; rintro e w8 ⟨rfl, b8⟩; have HB8 := Lib.hid (Ext.trans' HB7.out b8); have he := HEQ.out; rw [ixA_v]; clear b8)
  refine hK.out _ _ (HC.out _ HB8.out) (fun hHeld => ?_)
  clear hK K
  try simp only [Act.put, lay4]
  first | (refine held_t (i := 15) hHeld ?_; constructor; constructor; intro wq hq; focus ((try dsimp only at hq); go_simp; first | done | with_reducible rfl | fail)) | refine held_s (i := 15) hHeld ?_ | fail
  first | (refine held_t (i := 16) hHeld ?_; constructor; constructor; intro wq hq; focus ((try dsimp only at hq); go_simp; first | done | with_reducible rfl | fail)) | refine held_s (i := 16) hHeld ?_ | fail
  first | (refine held_t (i := 17) hHeld ?_; constructor; constructor; intro wq hq; focus ((try dsimp only at hq); go_simp; first | done | with_reducible rfl | fail)) | refine held_s (i := 17) hHeld ?_ | fail
  try simp only [Act.put, lay4]
  refine wpAnyH_done (by kernel_rfl) ?_ _
  go_wp2
  go_ret
  exact ⟨rfl, Ext.trans' HB1.out HB8.out⟩
end Go.Proofs.Ytchbbaehdcmcfaa
/- Keys, numbers, calls that come in; a row of Bools beside an index. -/
namespace Go.Proofs.Ytchbbaehdcmcfaa
open Go.RowKit Go.ChangeShapes Go.WideShapes Go.ChangeAt Go.Deep
set_option linter.unusedVariables false
set_option maxRecDepth 100000
theorem wf_range16 {a : Int} (h : (Lit.int .i64 a).wf = true) : I64 a := by
 unfold I64
 simpa [Lit.wf, IntKind.min, IntKind.max, IntKind.signed, IntKind.bits] using h
theorem key_parse {H : Type} {enc : TypeId × Value → H} {W : World} {n : Nat} {cs : List Value} {D : DataW H} {pl : List MemPlace} (hd : DataW.trod enc Try.prog W 0 (fun _ => true) true n 76 cs = some (D, pl))
  (hw : ∀ m ∈ D.weights Try.prog 76, m ≤ 140737488351232) : ∃ x : KeyM, cs = ixCells x ∧ ixOk x := by
 obtain ⟨xs, n', rfl, hx, hl, hxl, hf⟩ := DataW.trod_struct Try.underlying76 hd
 have e1 : Try.prog.cellsOf 76 = 4 := by kernel_rfl
 have e2 : Try.prog.cellsOf 3 = 1 := by kernel_rfl
 have e3 : Try.prog.cellsOf 9 = 1 := by kernel_rfl
 have e4 : Try.prog.cellsOf 2 = 1 := by kernel_rfl
 rw [e1] at hl
 obtain ⟨c0, c1, c2, c3, rfl⟩ : ∃ c0 c1 c2 c3, cs = [c0, c1, c2, c3] := by
  match cs, hl with
  | [a, b, c, d], _ => exact ⟨a, b, c, d, rfl⟩
 obtain ⟨y0, y1, y2, y3, rfl⟩ : ∃ y0 y1 y2 y3, xs = [y0, y1, y2, y3] := by
  match xs, hxl with
  | [a, b, c, d], _ => exact ⟨a, b, c, d, rfl⟩
 have f0 : DataW.trod enc Try.prog W 0 (fun _ => true) true n' 3 (([c0, c1, c2, c3].drop 0).take (Try.prog.cellsOf 3)) = [y0, y1, y2, y3][0]? := hf 0 _ rfl
 have f1 : DataW.trod enc Try.prog W 0 (fun _ => true) true n' 2 (([c0, c1, c2, c3].drop 1).take (Try.prog.cellsOf 2)) = [y0, y1, y2, y3][1]? := hf 1 _ rfl
 have f2 : DataW.trod enc Try.prog W 0 (fun _ => true) true n' 9 (([c0, c1, c2, c3].drop 2).take (Try.prog.cellsOf 9)) = [y0, y1, y2, y3][2]? := hf 2 _ rfl
 have f3 : DataW.trod enc Try.prog W 0 (fun _ => true) true n' 3 (([c0, c1, c2, c3].drop 3).take (Try.prog.cellsOf 3)) = [y0, y1, y2, y3][3]? := hf 3 _ rfl
 rw [e2] at f0 f3
 rw [e4] at f1
 rw [e3] at f2
 simp only [List.drop_zero, List.drop_succ_cons, List.take_succ_cons, List.take_zero, List.getElem?_cons_zero, List.getElem?_cons_succ] at f0 f1 f2 f3
 obtain ⟨a, q0, r0, s0⟩ := DataW.trod_int Try.underlying3 f0
 obtain ⟨b, q1, r1, s1⟩ := DataW.trod_int Try.underlying2 f1
 obtain ⟨s, q2, r2, s2⟩ := DataW.trod_string Try.underlying9 f2
 obtain ⟨d, q3, r3, s3⟩ := DataW.trod_int Try.underlying3 f3
 obtain rfl := (List.cons.inj q0).1
 obtain rfl := (List.cons.inj q1).1
 obtain rfl := (List.cons.inj q2).1
 obtain rfl := (List.cons.inj q3).1
 simp only [Prod.mk.injEq] at hx
 have h2 := hw s.data.toList.length (by
  rw [hx.1, r2]
  simp [DataW.weights, Try.underlying76, DataW.weightsEach])
 exact ⟨⟨a, b, s, d⟩, rfl, wf_range16 s0, wf_range16 s1, h2, wf_range16 s3⟩
section
variable {W w w' : World} {F F' : List Nat} {p : Value} {ks ks' : List (KeyM × Bool)} {bb : Nat} {bs : List Bool}
end
end Go.Proofs.Ytchbbaehdcmcfaa
/- Package index: an index's Pick. -/
namespace Go.Proofs.Ytchbbaehdcmcfaa
open Go.RowKit Go.Maps
set_option linter.unusedVariables false
theorem rowI_len (k : KeyM) (ks : List (KeyM × Bool)) : (rowI k ks).length ≤ ks.length := selI_len
set_option maxHeartbeats 4000000 in
set_option maxRecDepth 100000 in
theorem ixPickM_at {w : World} {F : List Nat} {p : Value} {ks : List (KeyM × Bool)} (h : IsX w F p ks) (hl : ks.length ≤ 400000) (k : KeyM) (hk : ixOk k) :
    Calls Try.prog 44 #[p, ixV k] w fun e w' => ∃ r, e = .returned r ∧ Nums w' r (pickT k ks 0) ∧ Below w.heap.size w w' := by
  obtain ⟨xb, kb, rb, D1, D2, rv, rfl, H⟩ := h
  have HH := Lib.hid H
  obtain ⟨w1, e1, B1, z1, X1⟩ := box_new w #[.int .i64 k.k, .int .i64 k.n, .string k.s, .int .i64 k.ar] 76
  have HE := Lib.hid e1
  have HB1 := Lib.hid B1
  have HX1 := Lib.hid X1
  have HXB := Lib.hid (H.box.ext B1)
  obtain ⟨x0, x1, x2, x3, _⟩ := X1.four
  have i1 := HXB.out.cells 1 _ rfl
  have i2 := HXB.out.cells 2 _ rfl
  clear e1 B1 z1 X1 H
  go_enter Try.func44, Try.ntmps44
  go_upto_region 1 with fail
  (try rw [HE.out])
  clear HE
  by_cases hk0 : k.k = 0
  · have hk0' : (k.k == 0) = true := by simpa using hk0
    have O1 := owns_mapN (w' := w1) HH.out.own1 (HB1.out.block kb (HH.out.lt kb HH.out.inF.2.1))
    have hsz := O1.size_le
    have CS := Lib.hid (ixSorted_at kb ks.length D1 keepV w1 O1 (by unfold maxLen; omega) (by omega))
    (go_wp2_with fail; go_fit (ixKeys_at kb w1); rintro e w2 ⟨rfl, rfl⟩)
    (go_wp2_with fail; go_fit (CS.out); rintro e w3 ⟨v, ss, rfl, hp, hrow, hb⟩)
    have HB3 := Lib.hid (Ext.trans' HB1.out hb)
    have hall := HH.out.all hp
    have hlen : ss.length = (allI ks).length := by rw [← hall, List.length_mergeSort]
    rw [hall, hlen, ← num_cells] at hrow
    have HN := Lib.hid (show Nums w3 v (pickT k ks 0) from by rw [pick_zero hk0]; exact Elems.owned (cells := numCells) (fun _ => rfl) hrow)
    clear hrow hlen hall hp hb O1
    go_wp2
    go_ret
    exact ⟨_, rfl, HN.out, HB3.out⟩
  have hk0' : (k.k == 0) = false := by simpa using hk0
  obtain ⟨v0, hv0, hw0⟩ := HH.out.look ixZero
  obtain ⟨v1, hv1, hw1⟩ := HH.out.look hk
  have hN0 := HH.out.nums ixZero hw0
  have hN1 := HH.out.nums hk hw1
  have HN0 := Lib.hid hN0
  have HN1 := Lib.hid hN1
  obtain ⟨a0, c0, hs0, _⟩ := hN0.len
  obtain ⟨a1, c1, hs1, _⟩ := hN1.len
  obtain ⟨n0, hn0⟩ : ∃ n, (rowI zeroKey ks).length = n := ⟨_, rfl⟩
  obtain ⟨n1, hn1⟩ : ∃ n, (rowI k ks).length = n := ⟨_, rfl⟩
  rw [hn0] at hs0
  rw [hn1] at hs1
  have HNN := Lib.hid (And.intro hn0 hn1)
  subst hs0 hs1
  clear hN0 hN1 hn0 hn1
  have hC : ∀ wq : World, Below w1.heap.size w1 wq → wq.cell? ⟨xb, 2, none⟩ = some (.map (some rb)) ∧ (wq.cell? ⟨w.heap.size, 0, none⟩ = some (.int .i64 k.k) ∧ wq.cell? ⟨w.heap.size, 1, none⟩ = some (.int .i64 k.n) ∧ wq.cell? ⟨w.heap.size, 2, none⟩ = some (.string k.s) ∧ wq.cell? ⟨w.heap.size, 3, none⟩ = some (.int .i64 k.ar)) ∧
      (Instr.lookup 129 (.map (some rb)) (.agg #[.int .i64 0, .int .i64 0, .string ⟨#[]⟩, .int .i64 0]) false).run Try.prog wq = .ok (.slice a0 n0 c0) wq ∧ (Instr.lookup 129 (.map (some rb)) (.agg #[.int .i64 k.k, .int .i64 k.n, .string k.s, .int .i64 k.ar]) false).run Try.prog wq = .ok (.slice a1 n1 c1) wq := fun wq hb => by
    have hr := (Ext.trans' HB1.out hb).block rb (HH.out.lt rb HH.out.inF.2.2)
    obtain ⟨x0, x1, x2, x3, _⟩ := (HX1.out.ext hb).four
    exact ⟨(HXB.out.ext hb).cells 2 _ rfl, ⟨x0, x1, x2, x3⟩, hv0 wq hr, hv1 wq hr⟩
  have HC := Lib.hid hC
  clear hC hv0 hv1 hw0 hw1 i1 i2
  go_upto_region 3 with fail
  clear x0 x1 x2 x3
  refine wp_region_held_drew (S := fun wq => wq.cell? ⟨xb, 2, none⟩ = some (.map (some rb)) ∧ (wq.cell? ⟨w.heap.size, 0, none⟩ = some (.int .i64 k.k) ∧ wq.cell? ⟨w.heap.size, 1, none⟩ = some (.int .i64 k.n) ∧ wq.cell? ⟨w.heap.size, 2, none⟩ = some (.string k.s) ∧ wq.cell? ⟨w.heap.size, 3, none⟩ = some (.int .i64 k.ar)) ∧
      (Instr.lookup 129 (.map (some rb)) (.agg #[.int .i64 0, .int .i64 0, .string ⟨#[]⟩, .int .i64 0]) false).run Try.prog wq = .ok (.slice a0 n0 c0) wq ∧ (Instr.lookup 129 (.map (some rb)) (.agg #[.int .i64 k.k, .int .i64 k.n, .string k.s, .int .i64 k.ar]) false).run Try.prog wq = .ok (.slice a1 n1 c1) wq) (by kernel_rfl) (HC.out _ (Below.refl _ _).drew) (fun hHeld => ?_)
  obtain ⟨wd, ewd⟩ : ∃ wd, w1.drew = wd := ⟨_, rfl⟩
  have HBd := Lib.hid (show Below w1.heap.size w1 wd from by rw [← ewd]; exact (Below.refl _ _).drew)
  rw [ewd] at hHeld ⊢
  clear ewd
  first | (refine held_t (i := 0) hHeld ?_; constructor; constructor; intro wq hq; focus ((try dsimp only at hq); go_simp; first | done | with_reducible rfl | fail)) | refine held_s (i := 0) hHeld ?_ | fail
  first | (refine held_t (i := 1) hHeld ?_; constructor; constructor; intro wq hq; focus ((try dsimp only at hq); go_simp; first | done | with_reducible rfl | fail)) | refine held_s (i := 1) hHeld ?_ | fail
  first | (refine held_t (i := 2) hHeld ?_; constructor; constructor; intro wq hq; focus ((try dsimp only at hq); go_simp; first | done | with_reducible rfl | fail)) | refine held_s (i := 2) hHeld ?_ | fail
  first | (refine held_t (i := 3) hHeld ?_; constructor; constructor; intro wq hq; focus ((try dsimp only at hq); go_simp; first | done | with_reducible rfl | fail)) | refine held_s (i := 3) hHeld ?_ | fail
  first | (refine held_t (i := 4) hHeld ?_; constructor; constructor; intro wq hq; focus ((try dsimp only at hq); go_simp; first | done | with_reducible rfl | fail)) | refine held_s (i := 4) hHeld ?_ | fail
  first | (refine held_t (i := 5) hHeld ?_; constructor; constructor; intro wq hq; focus ((try dsimp only at hq); go_simp; first | done | with_reducible rfl | fail)) | refine held_s (i := 5) hHeld ?_ | fail
  first | (refine held_t (i := 6) hHeld ?_; constructor; constructor; intro wq hq; focus ((try dsimp only at hq); go_simp; first | done | with_reducible rfl | fail)) | refine held_s (i := 6) hHeld ?_ | fail
  first | (refine held_t (i := 7) hHeld ?_; constructor; constructor; intro wq hq; focus ((try dsimp only at hq); go_simp; first | done | with_reducible rfl | fail)) | refine held_s (i := 7) hHeld ?_ | fail
  first | (refine held_t (i := 8) hHeld ?_; constructor; constructor; intro wq hq; focus ((try dsimp only at hq); go_simp; first | done | with_reducible rfl | fail)) | refine held_s (i := 8) hHeld ?_ | fail
  first | (refine held_t (i := 9) hHeld ?_; constructor; constructor; intro wq hq; focus ((try dsimp only at hq); go_simp; first | done | with_reducible rfl | fail)) | refine held_s (i := 9) hHeld ?_ | fail
  first | (refine held_t (i := 10) hHeld ?_; constructor; constructor; intro wq hq; focus ((try dsimp only at hq); go_simp; first | done | with_reducible rfl | fail)) | refine held_s (i := 10) hHeld ?_ | fail
  first | (refine held_t (i := 11) hHeld ?_; constructor; constructor; intro wq hq; focus ((try dsimp only at hq); go_simp; first | done | with_reducible rfl | fail)) | refine held_s (i := 11) hHeld ?_ | fail
  try simp only [Act.put, lay4]
  refine held_c 12 fun K hK => ?_
  go_simp
  skip
  refine hK.out _ _ (HC.out _ (Ext.trans' HBd.out (bel1' _ _))) (fun hHeld => ?_)
  clear hK K
  try simp only [Act.put, lay4]
  obtain ⟨w2, e2, b2, z2, X2⟩ := box_new wd #[.slice a0 n0 c0, .slice a1 n1 c1] 81
  obtain ⟨ab, hab⟩ : ∃ ab, wd.heap.size = ab := ⟨_, rfl⟩
  rw [hab] at X2 ⊢
  have HB2 := Lib.hid (Ext.trans' HBd.out b2)
  have HBw2 := Lib.hid (Ext.trans' HB1.out HB2.out)
  have HX2 := Lib.hid X2
  rw [e2] at hHeld ⊢
  clear e2 b2 z2 X2 hab
  have CC := Lib.hid (concatN_at (w := w2) (v := .slice (some ⟨ab, 0, none⟩) 2 2) (ps := [(.slice a0 n0 c0, rowI zeroKey ks), (.slice a1 n1 c1, rowI k ks)]) (L0 := rowI zeroKey ks ++ rowI k ks) (by simp)
    ⟨some ⟨ab, 0, none⟩, 2, rfl, Nat.le_refl _, by unfold maxLen; omega, Or.inr ⟨ab, 0, rfl, HX2.out.lt, fun i x hx j u hu => by
      rcases i with _ | _ | i <;> simp at hx <;> subst hx <;> rcases j with _ | j <;> simp at hu <;> subst hu <;> exact HX2.out.cells _ _ rfl⟩⟩
    (fun q hq => by
      simp at hq
      rcases hq with rfl | rfl
      · exact Nums.ext HN0.out HBw2.out
      · exact Nums.ext HN1.out HBw2.out) (by simp) (by have h1 := rowI_len zeroKey ks; have h2 := rowI_len k ks; rw [List.length_append]; omega))
  refine held_c 13 fun K hK => ?_
  go_simp
  (go_at_call 82; refine CC.out.mono ?_; rintro e w3 ⟨r3, rfl, h3, b3⟩; have HR3 := Lib.hid h3; have HB3 := Lib.hid (Ext.trans' HB2.out b3); have HS3 := Lib.hid b3.size; clear h3 b3)
  refine hK.out _ _ (HC.out _ HB3.out) (fun hHeld => ?_)
  clear hK K
  try simp only [Act.put, lay4]
  first | (refine held_t (i := 14) hHeld ?_; constructor; constructor; intro wq hq; focus ((try dsimp only at hq); go_simp; first | done | with_reducible rfl | fail)) | refine held_s (i := 14) hHeld ?_ | fail
  try simp only [Act.put, lay4]
  refine wpAnyH_done (by kernel_rfl) ?_ _
  clear hHeld
  have C := sortN_at HR3.out (by have h1 := rowI_len zeroKey ks; have h2 := rowI_len k ks; rw [List.length_append]; omega)
  (go_wp2_with fail; go_fit (C); rintro e w4 ⟨rfl, h4, g4⟩)
  have hlen := (List.mergeSort_perm (rowI zeroKey ks ++ rowI k ks) (fun x y => decide (x ≤ y))).length_eq
  rw [← hlen] at h4
  have HN4 := Lib.hid (show Nums w4 r3 (pickT k ks 0) from by
    have hs : (rowI zeroKey ks ++ rowI k ks).mergeSort (fun x y => decide (x ≤ y)) = pickT k ks 0 := by
      rw [pickT_sel]
      exact selI_sort (by rw [← pickT_sel]; exact pick_two HH.out.kept hk0)
    rw [← hs]
    exact Elems.owned (cells := numCells) (fun _ => rfl) h4)
  have HB4 := Lib.hid ((Ext.trans' HB1.out HB3.out).grown g4 (Ext.trans' HB1.out HB3.out).size (fun g hg => Nat.le_trans HBw2.out.size (row_in HR3.out hg).1))
  clear hlen h4 g4
  go_wp2
  go_ret
  exact ⟨_, rfl, HN4.out, HB4.out⟩
end Go.Proofs.Ytchbbaehdcmcfaa
/- Stage 16's laws: acts that come in; an index beside a row of keys and a row of Bools. -/
namespace Go.Proofs.Ytchbbaehdcmcfaa
open Go.RowKit Go.ChangeShapes Go.WideShapes Go.ChangeAt Go.Deep
set_option linter.unusedVariables false
set_option maxRecDepth 100000
structure ActM where
 op : Int
 i : Int
 k : KeyM
def actCells (x : ActM) : List Value := [.int .i64 x.op, .int .i64 x.i, .int .i64 x.k.k, .int .i64 x.k.n, .string x.k.s, .int .i64 x.k.ar]
def Acts (w : World) (v : Value) (l : List ActM) : Prop := Elems 6 actCells w v l
theorem act_parse {H : Type} {enc : TypeId × Value → H} {W : World} {n : Nat} {cs : List Value} {D : DataW H} {pl : List MemPlace} (hd : DataW.trod enc Try.prog W 0 (fun _ => true) true n 89 cs = some (D, pl))
  (hw : ∀ m ∈ D.weights Try.prog 89, m ≤ 140737488351232) : ∃ x : ActM, cs = actCells x ∧ I64 x.i ∧ ixOk x.k := by
 obtain ⟨xs, n', rfl, hx, hl, hxl, hf⟩ := DataW.trod_struct Try.underlying89 hd
 have e1 : Try.prog.cellsOf 89 = 6 := by kernel_rfl
 have e2 : Try.prog.cellsOf 3 = 1 := by kernel_rfl
 have e3 : Try.prog.cellsOf 76 = 4 := by kernel_rfl
 rw [e1] at hl
 obtain ⟨c0, c1, c2, c3, c4, c5, rfl⟩ : ∃ c0 c1 c2 c3 c4 c5, cs = [c0, c1, c2, c3, c4, c5] := by
  match cs, hl with
  | [a, b, c, d, e, f], _ => exact ⟨a, b, c, d, e, f, rfl⟩
 obtain ⟨y0, y1, y2, rfl⟩ : ∃ y0 y1 y2, xs = [y0, y1, y2] := by
  match xs, hxl with
  | [a, b, c], _ => exact ⟨a, b, c, rfl⟩
 have f0 : DataW.trod enc Try.prog W 0 (fun _ => true) true n' 3 (([c0, c1, c2, c3, c4, c5].drop 0).take (Try.prog.cellsOf 3)) = [y0, y1, y2][0]? := hf 0 _ rfl
 have f1 : DataW.trod enc Try.prog W 0 (fun _ => true) true n' 3 (([c0, c1, c2, c3, c4, c5].drop 1).take (Try.prog.cellsOf 3)) = [y0, y1, y2][1]? := hf 1 _ rfl
 have f2 : DataW.trod enc Try.prog W 0 (fun _ => true) true n' 76 (([c0, c1, c2, c3, c4, c5].drop 2).take (Try.prog.cellsOf 76)) = [y0, y1, y2][2]? := hf 2 _ rfl
 rw [e2] at f0 f1
 rw [e3] at f2
 simp only [List.drop_zero, List.drop_succ_cons, List.take_succ_cons, List.take_zero, List.getElem?_cons_zero, List.getElem?_cons_succ] at f0 f1 f2
 obtain ⟨a, q0, r0, s0⟩ := DataW.trod_int Try.underlying3 f0
 obtain ⟨b, q1, r1, s1⟩ := DataW.trod_int Try.underlying3 f1
 obtain ⟨D2, p2⟩ := y2
 simp only [Prod.mk.injEq] at hx
 obtain ⟨x, hx1, hx2⟩ := key_parse f2 (fun m hm => hw m (by
  rw [hx.1]
  simp [DataW.weights, Try.underlying89, DataW.weightsEach, hm]))
 obtain rfl := (List.cons.inj q0).1
 obtain rfl := (List.cons.inj q1).1
 obtain ⟨k, n, s, r⟩ := x
 simp only [ixCells, List.cons.injEq, and_true] at hx1
 obtain ⟨rfl, rfl, rfl, rfl⟩ := hx1
 exact ⟨⟨a, b, ⟨k, n, s, r⟩⟩, rfl, wf_range16 s1, hx2⟩
def ActsIn (w : World) (v : Value) (l : List ActM) : Prop := Acts w v l ∧ ∀ x ∈ l, I64 x.i ∧ ixOk x.k
theorem acts_of_trod {H : Type} {enc : TypeId × Value → H} {W : World} {v : Value} {d : DataW H} {ps : List MemPlace} (h : DataW.Trod enc Try.prog W 0 (fun _ => true) true 86 v d ps)
  (hv : Value.okWide Try.prog W .any 0 86 v) (hw : ∀ n ∈ d.weights Try.prog 86, n ≤ 140737488351232) : ∃ l, ActsIn W v l := by
 obtain ⟨l, h1, h2, _⟩ := elems_of_trod (α := ActM) Try.underlying86 (S := 6) (B := 56) (by kernel_rfl) (by omega) (by kernel_rfl) actCells (fun x => I64 x.i ∧ ixOk x.k)
  (by obtain ⟨x, y, z, e⟩ := okWide_slice Try.underlying86 hv; exact ⟨x, y, z, e⟩) h hw (fun n cs D pl hd hw' => act_parse hd hw')
 exact ⟨l, h1, h2⟩
theorem Acts.ext {w w' : World} {v : Value} {l : List ActM} (h : Acts w v l) (hb : Below w.heap.size w w') : Acts w' v l := Elems.ext h hb
theorem Acts.len {w : World} {v : Value} {l : List ActM} (h : Acts w v l) : ∃ a c, v = .slice a l.length c ∧ l.length ≤ c ∧ c ≤ maxLen := by
 obtain ⟨a, c, h1, h2, h3, _⟩ := h
 exact ⟨a, c, h1, h2, h3⟩
theorem Acts.get {w : World} {a : Option Addr} {m c : Nat} {l : List ActM} (h : Acts w (.slice a m c) l) {i : Nat} {x : ActM} (hx : l[i]? = some x) : ∃ b off, a = some ⟨b, off, none⟩ ∧ w.cell? ⟨b, off + i * 6, none⟩ = some (.int .i64 x.op) ∧ w.cell? ⟨b, off + i * 6 + 1, none⟩ = some (.int .i64 x.i) ∧ w.cell? ⟨b, off + i * 6 + 2, none⟩ = some (.int .i64 x.k.k) ∧ w.cell? ⟨b, off + i * 6 + 3, none⟩ = some (.int .i64 x.k.n) ∧ w.cell? ⟨b, off + i * 6 + 4, none⟩ = some (.string x.k.s) ∧ w.cell? ⟨b, off + i * 6 + 5, none⟩ = some (.int .i64 x.k.ar) := by
 obtain ⟨a', c', e, h1, h2, h3⟩ := h
 cases e
 rcases h3 with rfl | ⟨b, off, rfl, hb, hc⟩
 ·simp at hx
 ·have c0 := hc i x hx 0 _ rfl
  have c1 := hc i x hx 1 _ rfl
  have c2 := hc i x hx 2 _ rfl
  have c3 := hc i x hx 3 _ rfl
  have c4 := hc i x hx 4 _ rfl
  have c5 := hc i x hx 5 _ rfl
  rw [Nat.add_zero] at c0
  rw [← Nat.add_assoc] at c1 c2 c3 c4 c5
  exact ⟨b, off, rfl, c0, c1, c2, c3, c4, c5⟩
structure PlS (W w : World) (F : List Nat) (p : Value) (ks : List (KeyM × Bool)) (rk rt : Value) (qk qt : Nat) (kl : List KeyM) (bs : List Bool) : Prop where
 ix : IsX w F p ks
 new : ∀ g ∈ F, W.heap.size ≤ g
 bel : Below W.heap.size W w
 rowk : w.ownsRow W.heap.size 76 4 rk qk (kl.flatMap ixCells)
 rowt : w.ownsRow W.heap.size 4 1 rt qt (bs.map Value.bool)
 fk : ∀ g, rk.ownBlock = some g → ¬ g ∈ F
 ft : ∀ g, rt.ownBlock = some g → ¬ g ∈ F
 ne : ∀ g, rk.ownBlock = some g → rt.ownBlock ≠ some g
def PlB (W w : World) (F : List Nat) (p : Value) (ks : List (KeyM × Bool)) (rk rt : Value) (qk qt : Nat) (kl : List KeyM) (bs : List Bool) (ab : Nat) (cs : List Value) : Prop :=
 PlS W w F p ks rk rt qk qt kl bs ∧ Box w ab cs ∧ ¬ ab ∈ F ∧ rk.ownBlock ≠ some ab ∧ rt.ownBlock ≠ some ab
section
variable {W w w' : World} {F F' : List Nat} {p rk rt rk' rt' : Value} {ks ks' : List (KeyM × Bool)} {qk qt qk' qt' ab : Nat} {kl kl' : List KeyM} {bs bs' : List Bool} {cs : List Value}
theorem PlS.ext (h : PlS W w F p ks rk rt qk qt kl bs) (hb : Below w.heap.size w w') : PlS W w' F p ks rk rt qk qt kl bs :=
 ⟨h.ix.ext hb, h.new, h.bel.trans (hb.mono h.bel.size), row_at h.rowk (fun g hg => hb.block g (row_in h.rowk hg).2), row_at h.rowt (fun g hg => hb.block g (row_in h.rowt hg).2), h.fk, h.ft, h.ne⟩
theorem PlB.ext (h : PlB W w F p ks rk rt qk qt kl bs ab cs) (hb : Below w.heap.size w w') : PlB W w' F p ks rk rt qk qt kl bs ab cs := ⟨h.1.ext hb, h.2.1.ext hb, h.2.2⟩
theorem PlS.box (h : PlS W w F p ks rk rt qk qt kl bs) (hb : Below w.heap.size w w') (hx : Box w' ab cs) (he : ab = w.heap.size) : PlB W w' F p ks rk rt qk qt kl bs ab cs :=
 ⟨h.ext hb, hx, fun hm => by have := h.ix.lt _ hm; omega, fun e => by have := (row_in h.rowk e).2; omega, fun e => by have := (row_in h.rowt e).2; omega⟩
theorem PlB.turn (hB : PlB W w F p ks rk rt qk qt kl bs ab cs) (hx : IsX w' F' p ks') (ht : Touch F w w') (hF : ∀ g ∈ F', g ∈ F ∨ w.heap.size ≤ g) : PlB W w' F' p ks' rk rt qk qt kl bs ab cs := by
 obtain ⟨h, hb, h1, h2⟩ := hB
 exact ⟨⟨hx, fun g hg => (hF g hg).elim (h.new g) (fun e => Nat.le_trans h.bel.size e), h.bel.trans (ht.below h.bel.size h.new),
  row_at h.rowk (fun g hg => ht.block g (row_in h.rowk hg).2 (h.fk g hg)), row_at h.rowt (fun g hg => ht.block g (row_in h.rowt hg).2 (h.ft g hg)),
  fun g hg hm => (hF g hm).elim (h.fk g hg) (fun e => by have := (row_in h.rowk hg).2; omega), fun g hg hm => (hF g hm).elim (h.ft g hg) (fun e => by have := (row_in h.rowt hg).2; omega), h.ne⟩,
  hb.block (ht.block ab hb.lt h1) (Nat.lt_of_lt_of_le hb.lt ht.size), fun hm => (hF ab hm).elim h1 (fun e => by have := hb.lt; omega), h2⟩
theorem PlB.addk (hB : PlB W w F p ks rk rt qk qt kl bs ab cs) (hr : w'.ownsRow W.heap.size 76 4 rk' qk' (kl'.flatMap ixCells)) (hg : w.grownBy w' rk.ownBlock) (hat : rk'.ownBlock = rk.ownBlock ∨ rk'.ownBlock = some w.heap.size) :
  PlB W w' F p ks rk' rt qk' qt kl' bs ab cs := by
 obtain ⟨h, hb, h1, h2, h3⟩ := hB
 exact ⟨⟨h.ix.keep (fun g hm => hg.block g (h.ix.lt g hm) (fun e => h.fk g e.symm hm)) hg.size, h.new, h.bel.grown hg h.bel.size (fun g e => (row_in h.rowk e).1), hr,
  row_at h.rowt (fun g e => hg.block g (row_in h.rowt e).2 (fun e' => h.ne g e'.symm e)),
  fun g e hm => hat.elim (fun e' => h.fk g (e' ▸ e) hm) (fun e' => by rw [e'] at e; injection e with e; have := h.ix.lt g hm; omega), h.ft,
  fun g e e2 => hat.elim (fun e' => h.ne g (e' ▸ e) e2) (fun e' => by rw [e'] at e; injection e with e; have := (row_in h.rowt e2).2; omega)⟩,
  hb.block (hg.block ab hb.lt (fun e => h2 e.symm)) (Nat.lt_of_lt_of_le hb.lt hg.size), h1, fun e => hat.elim (fun e' => h2 (e' ▸ e)) (fun e' => by rw [e'] at e; injection e with e; have := hb.lt; omega), h3⟩
theorem PlB.addt (hB : PlB W w F p ks rk rt qk qt kl bs ab cs) (hr : w'.ownsRow W.heap.size 4 1 rt' qt' (bs'.map Value.bool)) (hg : w.grownBy w' rt.ownBlock) (hat : rt'.ownBlock = rt.ownBlock ∨ rt'.ownBlock = some w.heap.size) :
  PlB W w' F p ks rk rt' qk qt' kl bs' ab cs := by
 obtain ⟨h, hb, h1, h2, h3⟩ := hB
 exact ⟨⟨h.ix.keep (fun g hm => hg.block g (h.ix.lt g hm) (fun e => h.ft g e.symm hm)) hg.size, h.new, h.bel.grown hg h.bel.size (fun g e => (row_in h.rowt e).1),
  row_at h.rowk (fun g e => hg.block g (row_in h.rowk e).2 (fun e' => h.ne g e e'.symm)), hr, h.fk,
  fun g e hm => hat.elim (fun e' => h.ft g (e' ▸ e) hm) (fun e' => by rw [e'] at e; injection e with e; have := h.ix.lt g hm; omega),
  fun g e e2 => hat.elim (fun e' => h.ne g e (e' ▸ e2)) (fun e' => by rw [e'] at e2; injection e2 with e2; have := (row_in h.rowk e).2; omega)⟩,
  hb.block (hg.block ab hb.lt (fun e => h3 e.symm)) (Nat.lt_of_lt_of_le hb.lt hg.size), h1, h2, fun e => hat.elim (fun e' => h3 (e' ▸ e)) (fun e' => by rw [e'] at e; injection e with e; have := hb.lt; omega)⟩
theorem PlB.store {g n c : Nat} (hB : PlB W w F p ks rk (.slice (some ⟨g, 0, none⟩) n c) qk n kl bs ab cs) (j : Nat) (x : Bool) : PlB W (w.setCell ⟨g, j, none⟩ (.bool x)) F p ks rk (.slice (some ⟨g, 0, none⟩) n c) qk n kl (bs.set j x) ab cs := by
 obtain ⟨h1, h2⟩ := hB.1.rowt.stored j (.bool x)
 exact hB.addt (by rw [List.map_set]; exact h1) h2 (Or.inl rfl)
theorem PlS.there {a : Option Addr} {n c : Nat} (h : PlS W w F p ks rk (.slice a n c) qk n kl bs) {i : Nat} {x : Bool} (hx : bs[i]? = some x) : ∃ g, a = some ⟨g, 0, none⟩ ∧ w.cell? ⟨g, i, none⟩ = some (.bool x) ∧ w.frozen? ⟨g, i, none⟩ = false := by
 have hi := (List.getElem?_eq_some_iff.1 hx).1
 have hl := h.rowt.1
 rw [List.length_map] at hl
 rcases h.rowt.2 with ⟨_, h0⟩ | ⟨g, cap, cur, e, _⟩
 ·omega
 ·injection e with e1 e2 e3
  subst e1
  refine ⟨g, rfl, ?_, h.rowt.frozenAt i⟩
  rw [h.rowt.cellAt i (by omega), List.getElem?_map, hx]
  rfl
theorem PlS.keys {n : Nat} (h : PlS W w F p ks rk rt n qt kl bs) (hn : kl.length = n) : Keys w rk kl := Elems.owned (cells := ixCells) (fun _ => rfl) (by rw [hn]; exact h.rowk)
end
structure TwoR (B : Nat) (w : World) (v1 : Value) (n1 : Nat) (l1 : List Int) (v2 : Value) (n2 : Nat) (l2 : List Int) : Prop where
 r1 : w.ownsRow B 3 1 v1 n1 (l1.flatMap numCells)
 r2 : w.ownsRow B 3 1 v2 n2 (l2.flatMap numCells)
 ne : ∀ g, v1.ownBlock = some g → v2.ownBlock ≠ some g
section
variable {B : Nat} {w w' : World} {v1 v2 v1' v2' : Value} {n1 n2 n1' n2' : Nat} {l1 l2 l1' l2' : List Int}
theorem TwoR.ext (h : TwoR B w v1 n1 l1 v2 n2 l2) (hb : Below w.heap.size w w') : TwoR B w' v1 n1 l1 v2 n2 l2 :=
 ⟨row_at h.r1 (fun g hg => hb.block g (row_in h.r1 hg).2), row_at h.r2 (fun g hg => hb.block g (row_in h.r2 hg).2), h.ne⟩
theorem TwoR.fst (h : TwoR B w v1 n1 l1 v2 n2 l2) (hr : w'.ownsRow B 3 1 v1' n1' (l1'.flatMap numCells)) (hg : w.grownBy w' v1.ownBlock) (hat : v1'.ownBlock = v1.ownBlock ∨ v1'.ownBlock = some w.heap.size) : TwoR B w' v1' n1' l1' v2 n2 l2 :=
 ⟨hr, row_at h.r2 (fun g e => hg.block g (row_in h.r2 e).2 (fun e' => h.ne g e'.symm e)),
  fun g e e2 => hat.elim (fun e' => h.ne g (e' ▸ e) e2) (fun e' => by rw [e'] at e; injection e with e; have := (row_in h.r2 e2).2; omega)⟩
theorem TwoR.snd (h : TwoR B w v1 n1 l1 v2 n2 l2) (hr : w'.ownsRow B 3 1 v2' n2' (l2'.flatMap numCells)) (hg : w.grownBy w' v2.ownBlock) (hat : v2'.ownBlock = v2.ownBlock ∨ v2'.ownBlock = some w.heap.size) : TwoR B w' v1 n1 l1 v2' n2' l2' :=
 ⟨row_at h.r1 (fun g e => hg.block g (row_in h.r1 e).2 (fun e' => h.ne g e e'.symm)), hr,
  fun g e e2 => hat.elim (fun e' => h.ne g e (e' ▸ e2)) (fun e' => by rw [e'] at e2; injection e2 with e2; have := (row_in h.r1 e).2; omega)⟩
end
theorem pick_next {K x : KeyM} {b : Bool} {ks : List (KeyM × Bool)} {i : Nat} (h : ks[i]? = some (plainK x, b)) : pickT K (ks.take (i + 1)) 0 = pickT K (ks.take i) 0 ++ (if (mayK x K && b) = true then [(i : Int)] else []) := by
 have hi := (List.getElem?_eq_some_iff.1 h).1
 rw [pickT_sel, pickT_sel, take_next h, selI_snoc, List.length_take, Nat.min_eq_left (by omega)]
 simp only [plain_may]
theorem infoKeyP : ∃ i, Try.prog.info? 76 = some i ∧ i.zero = some (.agg #[.int .i64 0, .int .i64 0, .string ⟨#[]⟩, .int .i64 0]) ∧ i.size = 4 ∧ i.bytes = 40 := by
 have h : (Try.prog.info? 76).map (fun i => (i.zero, i.size, i.bytes)) = some (some (.agg #[.int .i64 0, .int .i64 0, .string ⟨#[]⟩, .int .i64 0]), 4, 40) := by kernel_rfl
 cases hi : Try.prog.info? 76 with
 | none => rw [hi] at h; simp at h
 | some i => rw [hi] at h; simp only [Option.map_some, Option.some.injEq, Prod.mk.injEq] at h; exact ⟨i, rfl, h.1, h.2.1, h.2.2⟩
theorem infoBoolP : ∃ i, Try.prog.info? 4 = some i ∧ i.zero = some (.bool false) ∧ i.size = 1 ∧ i.bytes = 1 := by
 have h : (Try.prog.info? 4).map (fun i => (i.zero, i.size, i.bytes)) = some (some (.bool false), 1, 1) := by kernel_rfl
 cases hi : Try.prog.info? 4 with
 | none => rw [hi] at h; simp at h
 | some i => rw [hi] at h; simp only [Option.map_some, Option.some.injEq, Prod.mk.injEq] at h; exact ⟨i, rfl, h.1, h.2.1, h.2.2⟩
end Go.Proofs.Ytchbbaehdcmcfaa
