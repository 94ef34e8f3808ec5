import Derived.Test.YtjhoekhfikcanaaHfrak
import Derived.Test.YtjhoekhfikcanaaHfraa
import Derived.Test.YtjhoekhfikcanaaRows
set_option linter.unusedVariables false
set_option linter.unusedSimpArgs false
/- Stage 11's laws: BindKnown. -/
namespace Go.Proofs.Ytjhoekhfikcanaa
open Go.RowKit
set_option linter.unusedVariables false

set_option maxHeartbeats 16000000 in
set_option maxRecDepth 100000 in
theorem bindKnown_at (W : World) : Calls Try.prog 3 #[] W fun e w' => e = .returned (.bool true) ∧ Below W.heap.size W w' := by
  go_enter Try.func3, Try.ntmps3
  (go_wp2_with fail; go_fit (bawake_at _); rintro e w1 ⟨rfl, b1⟩)
  have B1 := Lib.hid b1
  clear b1
  (go_wp2_with fail; go_fit (both_at (V := w1) (Stays.refl w1) 70 (by omega)); rintro e w2 ⟨p, q, rfl, h2⟩)
  obtain ⟨bt, rfl⟩ : ∃ bt, p = .pointer (some ⟨bt, 0, none⟩) := by obtain ⟨_, _, h, _⟩ := h2; obtain ⟨bt, _, _, _, rfl, _⟩ := h.open; exact ⟨bt, rfl⟩
  obtain ⟨bq, rfl⟩ : ∃ bq, q = .pointer (some ⟨bq, 0, none⟩) := by obtain ⟨_, _, _, h, _⟩ := h2; obtain ⟨bt, _, _, _, _, _, _, rfl, _⟩ := h.open; exact ⟨bt, rfl⟩
  have HK := Lib.hid (KB_new h2 B1.out)
  clear h2
  have HB := Lib.hid (Below.refl w2.heap.size w2)
  (go_wp2_with fail; go_fit (int_at _ 1); rintro e w11 ⟨rfl, b⟩)
  replace HB := Lib.hid (Ext.trans' HB.out b)
  clear b
  have C := KB_set HK.out HB.out (int_tm _ 1 (i64n _ (by omega))) (n := 70) (i64n _ (by omega)) kf1 (S' := []) (by rfl)
  (go_wp2_with fail; go_fit (C); rintro e w12 ⟨rfl, hk⟩)
  replace HK := Lib.hid hk
  clear hk C HB
  have HB := Lib.hid (Below.refl w12.heap.size w12)
  (go_wp2_with fail; go_fit (var_at _ 70); rintro e w13 ⟨rfl, b⟩)
  replace HB := Lib.hid (Ext.trans' HB.out b)
  clear b
  have C := KB_set HK.out HB.out (var_tm _ 70 (i64n _ (by omega))) (n := 0) (i64n _ (by omega)) kf2 (S' := []) (by rfl)
  (go_wp2_with fail; go_fit (C); rintro e w14 ⟨rfl, hk⟩)
  replace HK := Lib.hid hk
  clear hk C HB
  have HB := Lib.hid (Below.refl w14.heap.size w14)
  have C := KB_set HK.out HB.out (leaf_tm _ (k := 9) (n := 0) (i64n _ (by omega)) (i64n _ (by omega)) big0) (n := 0) (i64n _ (by omega)) kf3 (S' := []) (by rfl)
  (go_wp2_with fail; go_fit (C); rintro e w15 ⟨rfl, hk⟩)
  replace HK := Lib.hid hk
  clear hk C HB
  have HB := Lib.hid (Below.refl w15.heap.size w15)
  (go_wp2_with fail; go_fit (var_at _ 0); rintro e w16 ⟨rfl, b⟩)
  replace HB := Lib.hid (Ext.trans' HB.out b)
  clear b
  have C := KB_set HK.out HB.out (var_tm _ 0 (i64n _ (by omega))) (n := 0) (i64n _ (by omega)) kf4 (S' := []) (by rfl)
  (go_wp2_with fail; go_fit (C); rintro e w17 ⟨rfl, hk⟩)
  replace HK := Lib.hid hk
  clear hk C HB
  have HB := Lib.hid (Below.refl w17.heap.size w17)
  (go_wp2_with fail; go_fit (var_at _ 1); rintro e w18 ⟨rfl, b⟩)
  replace HB := Lib.hid (Ext.trans' HB.out b)
  clear b
  have C := comp_one HB.out ⟨#[102]⟩ ⟨#[]⟩ (big1 _) (k := 0) (n := 1) (i64n _ (by omega)) (i64n _ (by omega)) big0
  (go_wp2_with fail; go_fit (C); rintro e w19 ⟨a, c, rfl, ht, b⟩)
  replace HB := Lib.hid b
  have HT := Lib.hid ht
  clear b ht C
  have C := KB_set HK.out HB.out (HT.out) (n := 0) (i64n _ (by omega)) kf5 (S' := kS1) (by rfl)
  (go_wp2_with fail; go_fit (C); rintro e w20 ⟨rfl, hk⟩)
  replace HK := Lib.hid hk
  clear hk C HB
  have HB := Lib.hid (Below.refl w20.heap.size w20)
  (go_wp2_with fail; go_fit (int_at _ 1); rintro e w21 ⟨rfl, b⟩)
  replace HB := Lib.hid (Ext.trans' HB.out b)
  clear b
  have C := KB_set HK.out HB.out (int_tm _ 1 (i64n _ (by omega))) (n := 0) (i64n _ (by omega)) kf6 (S' := kS1) (by rfl)
  (go_wp2_with fail; go_fit (C); rintro e w22 ⟨rfl, hk⟩)
  replace HK := Lib.hid hk
  clear hk C HB
  have HB := Lib.hid (Below.refl w22.heap.size w22)
  (go_wp2_with fail; go_fit (var_at _ 0); rintro e w23 ⟨rfl, b⟩)
  replace HB := Lib.hid (Ext.trans' HB.out b)
  clear b
  have C := comp_one HB.out ⟨#[103]⟩ ⟨#[]⟩ (big1 _) (k := 0) (n := 0) (i64n _ (by omega)) (i64n _ (by omega)) big0
  (go_wp2_with fail; go_fit (C); rintro e w24 ⟨a, c, rfl, ht, b⟩)
  replace HB := Lib.hid b
  have HT := Lib.hid ht
  clear b ht C
  have C := KB_set HK.out HB.out (HT.out) (n := 1) (i64n _ (by omega)) kf7 (S' := kS1) (by rfl)
  (go_wp2_with fail; go_fit (C); rintro e w25 ⟨rfl, hk⟩)
  replace HK := Lib.hid hk
  clear hk C HB
  have HB := Lib.hid (Below.refl w25.heap.size w25)
  (go_wp2_with fail; go_fit (var_at _ 2); rintro e w26 ⟨rfl, b⟩)
  replace HB := Lib.hid (Ext.trans' HB.out b)
  clear b
  have C := KB_set HK.out HB.out (var_tm _ 2 (i64n _ (by omega))) (n := 1) (i64n _ (by omega)) kf8 (S' := kS2) (by rfl)
  (go_wp2_with fail; go_fit (C); rintro e w27 ⟨rfl, hk⟩)
  replace HK := Lib.hid hk
  clear hk C HB
  have HB := Lib.hid (Below.refl w27.heap.size w27)
  (go_wp2_with fail; go_fit (var_at _ 0); rintro e w28 ⟨rfl, b⟩)
  replace HB := Lib.hid (Ext.trans' HB.out b)
  clear b
  have C := KB_whole HK.out HB.out (var_tm _ 0 (i64n _ (by omega))) kf9
  (go_wp2_with fail; go_fit (C); rintro e w29 ⟨k11, n11, s11, a11, m11, c11, rfl, ht, b⟩)
  obtain ⟨wb, eb, bb, zb, xb⟩ := box_new w29 #[.int .i64 k11, .int .i64 n11, .string s11, .slice a11 m11 c11] 31
  have hk := (HK.out.addt b ht).ext bb
  have HW := Lib.hid (show KB W wb _ 70 kS2 ((w29.heap.size, 0, .int .i64 k11) :: (w29.heap.size, 1, .int .i64 n11) :: (w29.heap.size, 2, .string s11) :: (w29.heap.size, 3, .slice a11 m11 c11) :: []) [((.mk 2 0 ⟨#[102]⟩ [varV 2]), .agg #[.int .i64 k11, .int .i64 n11, .string s11, .slice a11 m11 c11])] from (HK.out.addt b ht).four (Nat.le_refl _) bb xb)
  obtain ⟨g11, hg11⟩ : ∃ g, w29.heap.size = g := ⟨_, rfl⟩
  rw [hg11] at HW
  have HE := Lib.hid (And.intro eb hg11)
  clear HK hk C HB ht b bb zb xb eb hg11
  go_upto_region 11 with fail
  (try rw [HE.out.1])
  (try rw [HE.out.2])
  have HK := HW
  clear HW HE
  have HB := Lib.hid (Below.refl wb.heap.size wb)
  (go_wp2_with fail; go_fit (var_at _ 0); rintro e w30 ⟨rfl, b⟩)
  replace HB := Lib.hid (Ext.trans' HB.out b)
  clear b
  have C := KB_has HK.out HB.out (var_tm _ 0 (i64n _ (by omega))) (n := 2) (i64n _ (by omega)) (M := 100) (by omega) kf10
  (go_wp2_with fail; go_fit (C); rintro e w31 ⟨rfl, b⟩)
  replace HK := Lib.hid (HK.out.ext b)
  clear b C HB
  have HB := Lib.hid (Below.refl w31.heap.size w31)
  (go_wp2_with fail; go_fit (var_at _ 0); rintro e w32 ⟨rfl, b⟩)
  replace HB := Lib.hid (Ext.trans' HB.out b)
  clear b
  (go_wp2_with fail; go_fit (int_at _ 1); rintro e w33 ⟨rfl, b⟩)
  replace HB := Lib.hid (Ext.trans' HB.out b)
  clear b
  have C := comp_two HB.out ⟨#[112]⟩ ⟨#[]⟩ ⟨#[]⟩ (big1 _) (k := 0) (n := 0) (k' := 1) (n' := 1) (i64n _ (by omega)) (i64n _ (by omega)) big0 (i64n _ (by omega)) (i64n _ (by omega)) big0
  (go_wp2_with fail; go_fit (C); rintro e w34 ⟨a, c, rfl, ht, b⟩)
  replace HB := Lib.hid b
  have HT := Lib.hid ht
  clear b ht C
  have C := KB_has HK.out HB.out HT.out (n := 3) (i64n _ (by omega)) (M := 100) (by omega) kf11
  (go_wp2_with fail; go_fit (C); rintro e w35 ⟨rfl, b⟩)
  replace HK := Lib.hid (HK.out.ext b)
  clear b C HB HT
  have HB := Lib.hid (Below.refl w35.heap.size w35)
  (go_wp2_with fail; go_fit (var_at _ 0); rintro e w36 ⟨rfl, b⟩)
  replace HB := Lib.hid (Ext.trans' HB.out b)
  clear b
  (go_wp2_with fail; go_fit (int_at _ 1); rintro e w37 ⟨rfl, b⟩)
  replace HB := Lib.hid (Ext.trans' HB.out b)
  clear b
  have C := comp_two HB.out ⟨#[112]⟩ ⟨#[]⟩ ⟨#[]⟩ (big1 _) (k := 0) (n := 0) (k' := 1) (n' := 1) (i64n _ (by omega)) (i64n _ (by omega)) big0 (i64n _ (by omega)) (i64n _ (by omega)) big0
  (go_wp2_with fail; go_fit (C); rintro e w38 ⟨a, c, rfl, ht, b⟩)
  replace HB := Lib.hid b
  have HT := Lib.hid ht
  clear b ht C
  have C := KB_has HK.out HB.out HT.out (n := 3) (i64n _ (by omega)) (M := 2) (by omega) kf12
  (go_wp2_with fail; go_fit (C); rintro e w39 ⟨rfl, b⟩)
  replace HK := Lib.hid (HK.out.ext b)
  clear b C HB HT
  have HB := Lib.hid (Below.refl w39.heap.size w39)
  (go_wp2_with fail; go_fit (KB_no HK.out HB.out 3 (Or.inr (by decide))); rintro e w40 ⟨rfl, hE⟩)
  subst hE
  have C := KB_undo HK.out HB.out 1 1 rfl
  (go_wp2_with fail; go_fit (C); rintro e w41 ⟨rfl, hk⟩)
  replace HK := Lib.hid (show KB W _ _ 70 kS1 _ _ from hk)
  clear hk C HB
  have HB := Lib.hid (Below.refl w41.heap.size w41)
  (go_wp2_with fail; go_fit (var_at _ 1); rintro e w42 ⟨rfl, b⟩)
  replace HB := Lib.hid (Ext.trans' HB.out b)
  clear b
  have C := KB_free HK.out HB.out 1 (by omega) kf13 none 0
  (go_wp2_with fail; go_fit (C); rintro e w43 ⟨rfl, b⟩)
  obtain ⟨wc, ec, bc, zc, xc⟩ := box_new w43 #[.int .i64 0, .int .i64 1, .string ⟨#[]⟩, .slice none 0 0] 31
  have HW := Lib.hid ((HK.out.ext b).four (Nat.le_refl _) bc xc)
  obtain ⟨g21, hg21⟩ : ∃ g, w43.heap.size = g := ⟨_, rfl⟩
  rw [hg21] at HW
  have HE := Lib.hid (And.intro ec hg21)
  clear HK C HB b bc zc xc ec hg21
  go_upto_region 16 with fail
  (try rw [HE.out.1])
  (try rw [HE.out.2])
  have HK := HW
  clear HW HE
  go_wp2_with fail
  go_loopw [22, 23] (fun z _ wr => ∃ j : Nat, j ≤ 12 ∧ z = .int .i64 ((3 + j : Nat) : Int) ∧ Hid (KB W wr (.pointer (some ⟨bt, 0, none⟩)) 70 (kD j) [(g21, 0, .int .i64 0), (g21, 1, .int .i64 1), (g21, 2, .string ⟨#[]⟩), (g21, 3, .slice none 0 0), (g11, 0, .int .i64 k11), (g11, 1, .int .i64 n11), (g11, 2, .string s11), (g11, 3, .slice a11 m11 c11)] [((.mk 2 0 ⟨#[102]⟩ [varV 2]), .agg #[.int .i64 k11, .int .i64 n11, .string s11, .slice a11 m11 c11])])) (fun z _ _ => 15 - (intOf z).toNat)
  case atStart => exact ⟨0, by omega, rfl, HK⟩
  case round =>
    obtain ⟨j, hj, rfl, HP⟩ := hrel
    clear HK
    by_cases hj12 : j < 12
    · obtain ⟨i, hi⟩ : ∃ i : Nat, 3 + j = i := ⟨_, rfl⟩
      obtain ⟨i2, hi2⟩ : ∃ i : Nat, 4 + j = i := ⟨_, rfl⟩
      have hk14 := kf14 j hj12
      have HN := Lib.hid (And.intro hi hi2)
      rw [hi, hi2] at hk14
      rw [hi]
      have hi15 : (i : Int) < 15 := by omega
      have hi2s : (i : Int) + 1 = (i2 : Int) := by omega
      have hwi : IntKind.i64.wrap (i2 : Int) = (i2 : Int) := by rw [IntKind.wrap_i64]; omega
      have hI2 : I64 (i2 : Int) := by unfold I64; omega
      have hI1 : I64 (i : Int) := by unfold I64; omega
      have HK14 := Lib.hid hk14
      clear hi hi2 hk14
      (go_wp2_with fail; go_fit (var_at _ i2); rintro e wv ⟨rfl, bv⟩)
      obtain ⟨wx, ex, bx, zx, xx⟩ := box_new wv #[.int .i64 0, .int .i64 i2, .string ⟨#[]⟩, .slice none 0 0] 31
      have HX := Lib.hid (And.intro (Ext.trans' bv bx) xx)
      have HEX := Lib.hid ex
      obtain ⟨x0, x1, x2, x3, _⟩ := xx.four
      have C := comp_two HX.out.1 ⟨#[100]⟩ ⟨#[]⟩ ⟨#[]⟩ (big1 _) (k := 0) (n := i2) (k' := 0) (n' := i2) (i64n _ (by omega)) hI2 big0 (i64n _ (by omega)) hI2 big0
      clear bv bx zx xx ex
      go_upto_region 20 with fail
      (try rw [HEX.out])
      (go_wp2_with fail; go_fit (C); rintro e wy ⟨a, c, rfl, ht, by'⟩)
      have HY := Lib.hid (And.intro by' ht)
      have C := KB_set HP.out HY.out.1 HY.out.2 (n := (i : Int)) hI1 HK14.out (S' := ((i : Int), dblT i2) :: kD j) (by rfl)
      clear by' ht x0 x1 x2 x3
      (go_wp2_with fail; go_fit (C); rintro e wz ⟨rfl, hk⟩)
      have HZ := Lib.hid (show KB W wz _ 70 (kD (j + 1)) _ _ from by have h := hk; rw [← HN.out.1, ← HN.out.2] at h; exact h)
      have hE3 : (i : Int) + 1 = ((3 + (j + 1) : Nat) : Int) := by have := HN.out.1; omega
      have HE3 := Lib.hid hE3
      clear hk C hE3
      go_wp2
      go_roundw
      case rel => exact ⟨j + 1, by omega, (by have h1 := HE3.out; have h2 := HN.out; first | go_num | (congr 1; omega) | (rw [show ((3 + (j + 1) : Nat) : Int) = (i2 : Int) by omega]; go_num)), HZ⟩
      case measure => have := HN.out.1; simp [intOf]; omega
    · obtain rfl : j = 12 := by omega
      have HK := HP
      clear HP hj hj12
      have HB := Lib.hid (Below.refl wr.heap.size wr)
      (go_wp2_with fail; go_fit (var_at _ 3); rintro e w44 ⟨rfl, b⟩)
      replace HB := Lib.hid (Ext.trans' HB.out b)
      clear b
      obtain ⟨Y3, hY3⟩ : ∃ Y, wholeB 70 (kD 12) (varV 3) = (Y, 12) := ⟨_, Prod.ext rfl kf15⟩
      have C := KB_whole HK.out HB.out (var_tm _ 3 (i64n _ (by omega))) hY3
      (go_wp2_with fail; go_fit (C); rintro e w45 ⟨k24, n24, s24, a24, m24, c24, rfl, ht, b⟩)
      obtain ⟨wd, ed, bd, zd, xd⟩ := box_new w45 #[.int .i64 k24, .int .i64 n24, .string s24, .slice a24 m24 c24] 31
      replace HK := Lib.hid (HK.out.ext (Ext.trans' b bd))
      have HE := Lib.hid ed
      clear b bd zd xd ed ht C HB hY3
      go_upto_region 23 with fail
      (try rw [HE.out])
      have HB := Lib.hid (Below.refl wd.heap.size wd)
      (go_wp2_with fail; go_fit (var_at _ 12); rintro e w46 ⟨rfl, b⟩)
      replace HB := Lib.hid (Ext.trans' HB.out b)
      clear b
      obtain ⟨Y12, hY12⟩ : ∃ Y, wholeB 70 (kD 12) (varV 12) = (Y, 0) := ⟨_, Prod.ext rfl kf16⟩
      have C := KB_whole HK.out HB.out (var_tm _ 12 (i64n _ (by omega))) hY12
      (go_wp2_with fail; go_fit (C); rintro e w47 ⟨k26, n26, s26, a26, m26, c26, rfl, ht, b⟩)
      obtain ⟨we, ee, be, ze, xe⟩ := box_new w47 #[.int .i64 k26, .int .i64 n26, .string s26, .slice a26 m26 c26] 31
      replace HK := Lib.hid (HK.out.ext (Ext.trans' b be))
      have HE2 := Lib.hid ee
      clear b be ze xe ee ht C HB hY12
      go_upto_region 24 with fail
      (try rw [HE2.out])
      have z0 := HK.out.get (b := g11) (o := 0) (v := .int .i64 k11) (by simp)
      have z1 := HK.out.get (b := g11) (o := 1) (v := .int .i64 n11) (by simp)
      have z2 := HK.out.get (b := g11) (o := 2) (v := .string s11) (by simp)
      have z3 := HK.out.get (b := g11) (o := 3) (v := .slice a11 m11 c11) (by simp)
      have z4 := HK.out.get (b := g21) (o := 0) (v := .int .i64 0) (by simp)
      have z5 := HK.out.get (b := g21) (o := 1) (v := .int .i64 1) (by simp)
      have z6 := HK.out.get (b := g21) (o := 2) (v := .string ⟨#[]⟩) (by simp)
      have z7 := HK.out.get (b := g21) (o := 3) (v := .slice none 0 0) (by simp)
      have HT11 := Lib.hid (HK.out.tm (x := .mk 2 0 ⟨#[102]⟩ [varV 2]) (v := .agg #[.int .i64 k11, .int .i64 n11, .string s11, .slice a11 m11 c11]) (by simp))
      have HEND := Lib.hid HK.out.bel
      have HLN := Lib.hid (fun (wq : World) (hb : Below we.heap.size we wq) => KB_len HK.out hb)
      clear HK HE HE2 HT
      refine last_region HT11.out HLN.out ⟨z0, z1, z2, z3, z4, z5, z6, z7⟩ ?_
      intros
      rename_i wE hE
      go_wp2
      go_ret
      exact ⟨rfl, HEND.out.trans (hE.mono HEND.out.size)⟩
end Go.Proofs.Ytjhoekhfikcanaa
/- BindKnown: the calls of the document's own example answer as it says: for every input (there is none) the law answers true. No condition. -/
namespace Go.Proofs.Ytjhoekhfikcanaa
open Go.RowKit
namespace bindKnown
open Go.ChangeShapes Go.WideShapes Go.ChangeAt Go.RowKit
theorem own : ownKnob Try.prog.godebug = none := by kernel_rfl
set_option linter.unusedVariables false
set_option maxRecDepth 100000 in
theorem lifted (os : Os) (started : os.Started) (H : Type) (enc : TypeId × Value → H) :
    ReturnsInHanded {} Try.checked os 3 .any (Rows.bindKnownSpec.pre6 enc Try.prog Try.f3 Rows.bindKnownRow.domain false) (Rows.bindKnownSpec.post enc Try.prog Try.f3 false true false false) := by
  refine returnsInHanded_of_change_sized (C := Try.checked) own started (by kernel_rfl) Try.func3
    (ChangeSpec.witness6 (enc := enc) (C := Try.checked) false ⟨#[], #[], []⟩ 8 (by kernel_rfl) (by kernel_rfl) (by kernel_rfl) (by kernel_rfl)) ?_
  intro W base args ds gs before hval0 hW hcnd hsz0 _
  have hval : ∀ (j : Nat) t v, Try.f3.params[j]? = some t → args[j]? = some v → Value.okWide Try.prog W .any base t v := hval0
  have hW' := hW
  obtain ⟨p, q, hA0, hV, rfl, hfz, hnd⟩ := hW
  have hA : DataW.TrodAll enc Try.prog W 0 (fun _ => true) true Try.f3.params.toList args.toList ds p := hA0
  have hsz : (DataW.weightsEach Try.prog (Try.f3.params.toList ++ []) (ds ++ gs)).all (· ≤ reachBytes) = true := hsz0
  rw [Try.params3] at hA hval hsz
  obtain ⟨rfl, rfl, rfl⟩ := trodAll_none hA
  obtain ⟨rfl, rfl⟩ := trodVars_none hV
  clear hA0 hval0 hsz0


  refine (bindKnown_at W ).mono fun e W' ⟨he, bel⟩ => ?_
  subst he
  exact ⟨_, rfl, _, _, _, [], _, [], hW', trodAll_mk1 (shut_bool Try.underlying4 _), rfl, rfl, bel.frame _, fun h => by cases h⟩
theorem proved : Rows.BindKnownSaid :=
  OpenClaim.holds_of_wide 3 Try.f3 rfl rfl rfl rfl rfl rfl rfl ⟨rfl, rfl, rfl, rfl, rfl⟩ rfl rfl rfl rfl rfl (by kernel_rfl) Try.func3 (by kernel_rfl)
    (of_decide_eq_true (by kernel_rfl)) (by unfold Func.isWrapper; first | (rw [if_pos (by decide +kernel)]; kernel_rfl) | (rw [if_neg (by decide +kernel)]; exact ⟨rfl, rfl⟩))
    (fun os started H enc _ => lifted os started H enc)
#print axioms proved
end bindKnown

end Go.Proofs.Ytjhoekhfikcanaa
