import Derived.Test.YtchbbaehdcmcfaaHsozz
import Derived.Test.YtchbbaehdcmcfaaHsoaw
import Derived.Test.YtchbbaehdcmcfaaHsoay
import Derived.Test.YtchbbaehdcmcfaaHsoaz
import Derived.Test.YtchbbaehdcmcfaaHsoar
import Derived.Test.YtchbbaehdcmcfaaHsoaf
import Derived.Test.YtchbbaehdcmcfaaHsoae
import Derived.Deep.QuietTactic
import Derived.Test.YtchbbaehdcmcfaaHsoaq
import Derived.Test.YtchbbaehdcmcfaaHsoba
import Derived.Test.YtchbbaehdcmcfaaHsobb
import Derived.Test.YtchbbaehdcmcfaaHsoad
set_option linter.unusedVariables false
set_option linter.unusedSimpArgs false
/- CodeMatch: walked. -/
namespace Go.Proofs.Ytchbbaehdcmcfaa
open Go.RowKit
set_option linter.unusedVariables false
def CallR (s : ByteArray) (args : List Tm) (m : Nat) (w6 wx : World) : Prop := ∃ a c, Box wx w6.heap.size [.int .i64 2, .int .i64 0, .string s, .slice a m c] ∧ TmV wx (.mk 2 0 s args) (.agg #[.int .i64 2, .int .i64 0, .string s, .slice a m c]) ∧ Below w6.heap.size w6 wx
set_option maxHeartbeats 16000000 in
set_option maxRecDepth 100000 in
theorem codeMatch_at {W : World} {vx va : Value} {t : Tm} {args : List Tm} (hx : TmV W t vx) (hva : Tms W va args) : Calls Try.prog 5 #[vx, va] W fun e w' => IsBool W true e w' := by
 have HV := Lib.hid (fun (wq : World) (hb : Below W.heap.size W wq) => TmV.ext hb _ _ hx)
 have HA := Lib.hid hva
 have DX := Lib.hid (fun (wq : World) (hb : Below W.heap.size W wq) => deep15_at _ t (Nat.le_refl _) 20 (by unfold I64; omega) wq _ (TmV.ext hb _ _ hx))
 obtain ⟨k, n, s, ts⟩ := t
 obtain ⟨u, rfl, hss, hkk, hnn, hts⟩ := tmV_iff.1 hx
 obtain ⟨a, c, rfl, ha1, ha2, ha3⟩ := hts.len
 obtain ⟨pa, pc, rfl, hp1, hp2, hp3⟩ := hva.len
 unfold maxLen at ha2 hp2
 unfold BIG at ha3 hp3
 obtain ⟨m, hm⟩ : ∃ m, ts.length = m := ⟨_, rfl⟩
 obtain ⟨pm, hpm⟩ : ∃ m, args.length = m := ⟨_, rfl⟩
 have HM := Lib.hid (And.intro hm (And.intro hpm hss))
 rw [hm] at HV DX ha1 ha3 ⊢
 rw [hpm] at HA hp1 hp3 ⊢
 obtain ⟨w1, e1, B1, z1, X1⟩ := box_new W #[.int .i64 k, .int .i64 n, .string s, .slice a m c] 31
 have HE := Lib.hid e1
 have HB1 := Lib.hid (And.intro B1 X1)
 clear B1 z1 e1 X1 hx hva hss hkk hnn hts hm hpm
 go_enter Try.func5, Try.ntmps5
 go_upto_region 1 with fail
 (try rw [HE.out])
 (go_wp2_with fail; go_fit (awake15_at _); rintro e w2 ⟨rfl, b2⟩)
 have HB2 := Lib.hid (Ext.trans' HB1.out.1 b2)
 have HX2 := Lib.hid (HB1.out.2.ext b2)
 clear b2
 obtain ⟨x0, x1, x2, x3, _⟩ := HX2.out.four
 have C := DX.out w2 HB2.out
 cases hdx : deepT (.mk k n s ts) 20
 rotate_left
 ·rw [hdx] at C
  clear hdx
  (go_wp2_with fail; go_fit (C); rintro e w3 ⟨rfl, b3⟩)
  have HB3 := Lib.hid (Ext.trans' HB2.out b3)
  clear b3 C
  go_wp2
  go_ret
  exact ⟨rfl, HB3.out⟩
 rw [hdx] at C
 clear hdx
 (go_wp2_with fail; go_fit (C); rintro e w3 ⟨rfl, b3⟩)
 have HB3 := Lib.hid (Ext.trans' HB2.out b3)
 have HX3 := Lib.hid (HX2.out.ext b3)
 clear b3 C x0 x1 x2 x3
 obtain ⟨x0, x1, x2, x3, _⟩ := HX3.out.four
 by_cases hp8 : 8 < pm
 ·go_wp2
  go_ret
  exact ⟨rfl, HB3.out⟩
 have C := Good_at (.mk k n s ts) w3 _ (HV.out w3 HB3.out)
 cases hg : goodT (.mk k n s ts)
 ·rw [hg] at C
  clear hg
  (go_wp2_with fail; go_fit (C); rintro e w4 ⟨rfl, b4⟩)
  have HB4 := Lib.hid (Ext.trans' HB3.out b4)
  clear b4 C
  go_wp2
  go_ret
  exact ⟨rfl, HB4.out⟩
 rw [hg] at C
 (go_wp2_with fail; go_fit (C); rintro e w4 ⟨rfl, b4⟩)
 have HB4 := Lib.hid (Ext.trans' HB3.out b4)
 have HX4 := Lib.hid (HX3.out.ext b4)
 have HG := Lib.hid hg
 clear b4 C x0 x1 x2 x3 hg
 obtain ⟨x0, x1, x2, x3, _⟩ := HX4.out.four
 by_cases hk2 : k = 2
 rotate_left
 ·have hk2' : (k == 2) = false := by simpa using hk2
  go_wp2
  go_ret
  exact ⟨rfl, HB4.out⟩
 subst hk2
 by_cases hmp : m = pm
 rotate_left
 ·have hmp2 : ((m : Int) == (pm : Int)) = false := by simp; omega
  go_wp2
  go_ret
  exact ⟨rfl, HB4.out⟩
 subst hmp
 have hgp := good_parts HG.out
 have C := size_at (.mk 2 n s ts) w4 _ (HV.out w4 HB4.out)
 obtain ⟨Z, hZ⟩ : ∃ Z : Nat, sizeN (.mk 2 n s ts) = Z := ⟨_, rfl⟩
 rw [hZ] at C hgp
 rw [show min Z 2001 = Z by omega] at C
 have hZ2 := hgp.1
 clear hgp
 by_cases hZ1 : 100 < Z
 ·clear hZ
  (go_wp2_with fail; go_fit (C); rintro e w5 ⟨rfl, b5⟩)
  have HB5 := Lib.hid (Ext.trans' HB4.out b5)
  clear b5 C
  go_wp2
  go_ret
  exact ⟨rfl, HB5.out⟩
 have HZ := Lib.hid (show sizeN (.mk 2 n s ts) ≤ 100 by omega)
 clear hZ
 (go_wp2_with fail; go_fit (C); rintro e w5 ⟨rfl, b5⟩)
 have HB5 := Lib.hid (Ext.trans' HB4.out b5)
 have HX5 := Lib.hid (HX4.out.ext b5)
 clear b5 C x0 x1 x2 x3
 obtain ⟨x0, x1, x2, x3, _⟩ := HX5.out.four
 go_upto_region 5 with fail
 clear hZ1 hZ2 hp8
 have HDA := Lib.hid (fun (y : Tm) (wq : World) (v : Value) (hv : TmV wq y v) => deep15_at _ y (Nat.le_refl _) 20 (by unfold I64; omega) wq _ hv)
 go_wp2_with fail
 go_loopw [5] (fun v wr => ∃ i : Nat, i ≤ m ∧ v = .int .i64 i ∧ Hid (Below w5.heap.size w5 wr)) (fun v _ => m - (RowKit.intOf v).toNat)
 case atStart => exact ⟨0, Nat.zero_le _, rfl, Lib.hid (Below.refl _ _)⟩
 case round =>
  obtain ⟨i, hi, rfl, HJ⟩ := hrel
  by_cases him : i < m
  ·obtain ⟨y, hy⟩ : ∃ y, args[i]? = some y := ⟨_, List.getElem?_eq_getElem (by rw [HM.out.2.1]; exact him)⟩
   have HBR := Lib.hid (Ext.trans' HB5.out HJ.out)
   obtain ⟨b, off, k', n', s', u', rfl, hbb, _, _, _, c0, c1, c2, c3, _, ht⟩ := (HA.out.ext HBR.out).get hy
   have C := HDA.out y wr _ ht
   clear hy ht
   cases hdy : deepT y 20
   rotate_left
   ·rw [hdy] at C
    clear hdy
    (go_wp2_with fail; go_fit (C); rintro e w6 ⟨rfl, b6⟩)
    have HB6 := Lib.hid (Ext.trans' HBR.out b6)
    clear b6 C
    go_wp2
    go_ret
    exact ⟨rfl, HB6.out⟩
   ·rw [hdy] at C
    clear hdy
    (go_wp2_with fail; go_fit (C); rintro e w6 ⟨rfl, b6⟩)
    have HJ6 := Lib.hid (Ext.trans' HJ.out b6)
    clear b6 C
    go_wp2
    go_roundw
    case rel => exact ⟨i + 1, by omega, by go_num, HJ6⟩
    case measure => simp [RowKit.intOf]; omega
  ·have him2 : m = i := by omega
   subst him2
   have HBR := Lib.hid (Ext.trans' HB5.out HJ.out)
   have HXR := Lib.hid (HX5.out.ext HJ.out)
   obtain ⟨x0, x1, x2, x3, _⟩ := HXR.out.four
   have C := comp_at s HM.out.2.2 (HA.out.ext HBR.out)
   rw [HM.out.2.1] at C
   (go_wp2_with fail; go_fit (C); rintro e w6 ⟨a6, c6, rfl, ht6, b6⟩)
   obtain ⟨w7, e7, b7, z7, X7⟩ := box_new w6 #[.int .i64 2, .int .i64 0, .string s, .slice a6 m c6] 31
   have HT7 := Lib.hid (show CallR s args m w6 w7 from ⟨a6, c6, X7, TmV.ext b7 _ _ ht6, b7⟩)
   have HB6 := Lib.hid (Ext.trans' HBR.out b6)
   have HX7 := Lib.hid (HXR.out.ext (Ext.trans' b6 b7))
   have HX6 := Lib.hid (HXR.out.ext b6)
   obtain ⟨pb, hpb⟩ : ∃ pb, w6.heap.size = pb := ⟨_, rfl⟩
   have HPB := Lib.hid hpb
   clear C ht6 b6 b7 z7 X7 x0 x1 x2 x3
   go_upto_region 11 with fail
   (try rw [e7])
   (try rw [hpb])
   clear e7 hpb
   obtain ⟨x0, x1, x2, x3, _⟩ := HX7.out.four
   go_upto_if 88 with fail
   go_cut [] from 86 to 91 (fun wx => Hid (CallR s args m w6 wx))
   case first =>
    by_cases hm0 : m = 0
    ·subst hm0
     have hn : args = [] := List.length_eq_zero_iff.1 HM.out.2.1
     (go_wp2_with fail; go_fit (atom_at _ s); rintro e w8 ⟨rfl, b8⟩)
     obtain ⟨a', c', X, _, hb7⟩ := HT7.out
     have hX8 := X.ext b8
     rw [HPB.out] at hX8
     have HX9 := Lib.hid ((((hX8.set (k := 0) (u := .int .i64 2) (by simp)).set (k := 1) (u := .int .i64 0) (by simp)).set (k := 2) (u := .string s) (by simp)).set (k := 3) (u := .slice none 0 0) (by simp))
     have HB8 := Lib.hid (Ext.trans' hb7 b8)
     obtain ⟨y0, y1, y2, y3, yf⟩ := hX8.four
     clear X hX8 hb7 b8 x0 x1 x2 x3
     go_wp2
     go_meet
     refine Lib.hid ⟨none, 0, by rw [HPB.out]; exact HX9.out, by rw [hn]; exact leaf_tm _ (by unfold I64; omega) i64_0 HM.out.2.2, Below.set4 (b := pb) HB8.out (by have := HPB.out; omega) _ _ _ _⟩
    ·have hm1 : ((m : Int) == 0) = false := by simp; omega
     go_wp2
     go_meet
     exact HT7
   case rest =>
    obtain ⟨a7, c7, X, ht, hb⟩ := hcut.out
    rw [HPB.out] at X
    have HBX := Lib.hid (Ext.trans' HB6.out hb)
    have HTC := Lib.hid ht
    have HXX := Lib.hid X
    have HXL := Lib.hid (show Box wc W.heap.size [.int .i64 2, .int .i64 n, .string s, .slice a m c] from HX6.out.ext hb)
    clear X ht hb x0 x1 x2 x3 hcut
    obtain ⟨y0, y1, y2, y3, _⟩ := HXX.out.four
    have C := Good_at (.mk 2 0 s args) wc _ HTC.out
    cases hgc : goodT (.mk 2 0 s args)
    ·rw [hgc] at C
     clear hgc
     (go_wp2_with fail; go_fit (C); rintro e w8 ⟨rfl, b8⟩)
     have HB8 := Lib.hid (Ext.trans' HBX.out b8)
     clear b8 C
     go_wp2
     go_ret
     exact ⟨rfl, HB8.out⟩
    rw [hgc] at C
    (go_wp2_with fail; go_fit (C); rintro e w8 ⟨rfl, b8⟩)
    have HB8 := Lib.hid (Ext.trans' HBX.out b8)
    have HX8 := Lib.hid (And.intro (HXL.out.ext b8) (HXX.out.ext b8))
    have HT8 := Lib.hid (TmV.ext b8 _ _ HTC.out)
    have hgp := good_parts hgc
    have HGC := Lib.hid hgc
    clear b8 C y0 y1 y2 y3 hgc
    obtain ⟨y0, y1, y2, y3, _⟩ := HX8.out.2.four
    have C := size_at (.mk 2 0 s args) w8 _ HT8.out
    obtain ⟨Y, hY⟩ : ∃ Y : Nat, sizeN (.mk 2 0 s args) = Y := ⟨_, rfl⟩
    rw [hY] at C hgp
    rw [show min Y 2001 = Y by omega] at C
    have hY2 := hgp.1
    clear hgp
    by_cases hY1 : 100 < Y
    ·clear hY
     (go_wp2_with fail; go_fit (C); rintro e w9 ⟨rfl, b9⟩)
     have HB9 := Lib.hid (Ext.trans' HB8.out b9)
     clear b9 C
     go_wp2
     go_ret
     exact ⟨rfl, HB9.out⟩
    have HY := Lib.hid (show sizeN (.mk 2 0 s args) ≤ 100 by omega)
    clear hY
    (go_wp2_with fail; go_fit (C); rintro e w9 ⟨rfl, b9⟩)
    have HB9 := Lib.hid (Ext.trans' HB8.out b9)
    have HX9 := Lib.hid (And.intro (HX8.out.1.ext b9) (HX8.out.2.ext b9))
    have HT9 := Lib.hid (TmV.ext b9 _ _ HT8.out)
    clear b9 C y0 y1 y2 y3
    obtain ⟨x0, x1, x2, x3, _⟩ := HX9.out.1.four
    have C := headS_at (HV.out w9 HB9.out)
    unfold HeadS at C
    rw [show headCE (.mk 2 n s ts) = (headC (.mk 2 n s ts), 0) from if_pos ⟨HG.out, rfl⟩] at C
    go_upto_region 15 with fail
    clear hY1 hY2
    (go_wp2_with fail; go_fit (C); rintro e w10 ⟨v10, rfl, hc10, b10⟩)
    have hcV0 := hc10.stay (Stays.unhide _ _)
    obtain ⟨ca, cm, ck, rfl, _⟩ := id hcV0
    obtain ⟨w11, e11, b11, z11, X11⟩ := box_new w10 #[.int .i64 (headC (.mk 2 n s ts)).ar, .int .i64 (headC (.mk 2 n s ts)).sl, .int .i64 (headC (.mk 2 n s ts)).rg, .slice ca cm ck] 25
    have HCV := Lib.hid (hcV0.ext b11)
    obtain ⟨q1, hq1⟩ : ∃ q1, (headC (.mk 2 n s ts)).ar = q1 := ⟨_, rfl⟩
    obtain ⟨q2, hq2⟩ : ∃ q2, (headC (.mk 2 n s ts)).sl = q2 := ⟨_, rfl⟩
    obtain ⟨q3, hq3⟩ : ∃ q3, (headC (.mk 2 n s ts)).rg = q3 := ⟨_, rfl⟩
    obtain ⟨cb, hcb⟩ : ∃ cb, w10.heap.size = cb := ⟨_, rfl⟩
    rw [hq1, hq2, hq3] at HCV e11 X11 ⊢
    rw [hcb] at X11
    have HQQ := Lib.hid hq2
    have HB11 := Lib.hid (Ext.trans' HB9.out (Ext.trans' b10 b11))
    have HX11 := Lib.hid (And.intro (HX9.out.1.ext (Ext.trans' b10 b11)) (And.intro (HX9.out.2.ext (Ext.trans' b10 b11)) X11))
    have HT11 := Lib.hid (TmV.ext (Ext.trans' b10 b11) _ _ HT9.out)
    clear hq1 hq2 hq3 hc10 hcV0 b10 b11 X11 z11 C x0 x1 x2 x3
    go_upto_region 16 with fail
    (try rw [e11])
    (try rw [hcb])
    clear e11 hcb
    (go_wp2_with fail; go_fit (New_at (V := w11) (Stays.refl w11)); rintro e w12 ⟨p, F0, rfl, h1, b12, hf1⟩)
    obtain ⟨w13, e13⟩ : ∃ w13, w12.alloc (.cells #[.slice none 0 0, .slice none 0 0, .slice none 0 0] 62) = w13 := ⟨_, rfl⟩
    have hr2 := IsR.new ((Stays.refl w11).later b12) e13
    have hb2 : Below w12.heap.size w12 w13 := by rw [← e13]; exact bel1' _ _
    obtain ⟨q, hq⟩ : ∃ q : Value, .pointer (some ⟨w12.heap.size, 0, none⟩) = q := ⟨_, rfl⟩
    rw [hq] at hr2
    have H2 := Lib.hid (show BothI w11 w11 p q 0 w13 from ⟨F0, [w12.heap.size], h1.ext hb2, hr2, hf1, fun k hk => by simp at hk; have := b12.size; omega, fun k hk hm => by simp at hm; have := h1.lt k hk; omega, Ext.trans' b12 hb2⟩)
    clear h1 hr2 b12 hb2 hf1
    have HE13 := Lib.hid e13
    have HQ13 := Lib.hid hq
    clear e13 hq
    go_upto_region 17 with fail
    rw [HE13.out, HQ13.out]
    clear HE13 HQ13
    go_wp2_with fail
    go_loopw [11] (fun z wr => ∃ j : Nat, j ≤ 8 ∧ z = .int .i64 j ∧ Hid (BothI w11 w11 p q j wr)) (fun z _ => 8 - (RowKit.intOf z).toNat)
    case atStart => exact ⟨0, Nat.zero_le _, rfl, H2⟩
    case round =>
     obtain ⟨j, hj, rfl, HP⟩ := hrel
     by_cases hjn : j < 8
     ·obtain ⟨F, F2, h1, h2, h3, h4, h5, h6⟩ := HP.out
      have C1 := Fresh_at h1 (by omega)
      have HP2 := Lib.hid (And.intro h2 (And.intro h3 (And.intro h4 (And.intro h5 h6))))
      have HSV := Lib.hid h1.see
      have HSZ := Lib.hid h2.lt
      clear h1 h2 h3 h4 h5 h6 HP
      (go_wp2_with fail; go_fit (C1); rintro e w14 ⟨F', rfl, h1, t1, hin⟩)
      obtain ⟨h2, h3, h4, h5, h6⟩ := HP2.out
      have h2' := h2.touch t1 h5 HSV.out.2
      have C2 := RFresh_at h2' (by omega)
      have hF' : ∀ k ∈ F', w11.heap.size ≤ k := fun k hk => (hin k hk).elim (h3 k) (fun h => by have := h6.size; omega)
      have hd' : ∀ k ∈ F', ¬ k ∈ F2 := fun k hk hm => (hin k hk).elim (fun h => h5 k h hm) (fun h => by have := HSZ.out k hm; omega)
      have H5 := Lib.hid (show IsB w11 F' w14 p (j + 1) [] ∧ (∀ k ∈ F', w11.heap.size ≤ k) ∧ (∀ k ∈ F', ¬ k ∈ F2) ∧ (∀ k ∈ F2, w11.heap.size ≤ k) ∧ Below w11.heap.size w11 w14 from ⟨h1, hF', hd', h4, h6.trans (t1.below h6.size h3)⟩)
      have HV2 := Lib.hid h2'.see
      clear h1 t1 hin h2 h3 h4 h5 h6 h2' hF' hd'
      (go_wp2_with fail; go_fit (C2); rintro e w15 ⟨F2', rfl, h2, t2, hin2⟩)
      obtain ⟨h1, hF', hd', h4, h6⟩ := H5.out
      have HN := Lib.hid (show BothI w11 w11 p q (j + 1) w15 from ⟨F', F2', h1.touch t2 (fun k hk hm => hd' k hm hk) HV2.out.2, h2, hF', fun k hk => (hin2 k hk).elim (h4 k) (fun h => by have := h6.size; omega), fun k hk hm => (hin2 k hm).elim (hd' k hk) (fun h => by have := h1.lt k hk; omega), h6.trans (t2.below h6.size h4)⟩)
      clear h1 hF' hd' h4 h6 h2 t2 hin2
      go_wp2
      go_roundw
      case rel => exact ⟨j + 1, by omega, by go_num, HN⟩
      case measure => simp [RowKit.intOf]; omega
     ·have hj8 : j = 8 := by omega
      have HP8 := Lib.hid (show BothI w11 w11 p q 8 wr from by rw [← hj8]; exact HP.out)
      have hjx : ¬ (j : Int) < 8 := by omega
      clear hj8 HP
      obtain ⟨F, F2, i1, i2, i3, i4, i5, i6⟩ := HP8.out
      have HBR8 := Lib.hid (Ext.trans' HB11.out i6)
      have HXR8 := Lib.hid (And.intro (HX11.out.1.ext i6) (And.intro (HX11.out.2.1.ext i6) (HX11.out.2.2.ext i6)))
      have HI8 := Lib.hid (And.intro i1 (And.intro i2 (And.intro i3 (And.intro i4 (And.intro i5 i6)))))
      have C := own15_at (.mk 2 0 s args) (fun _ => false) wr _ (fun _ _ => rfl) (TmV.ext i6 _ _ HT11.out)
      clear i1 i2 i3 i4 i5 i6 H2 HP8
      (try clear x0 x1 x2 x3)
      (try clear y0 y1 y2 y3)
      obtain ⟨y0, y1, y2, y3, _⟩ := HXR8.out.2.1.four
      (go_wp2_with fail; go_fit (C); rintro e w16 ⟨vo, rfl, ho, b16⟩)
      have C := RKnown_at (HI8.out.2.1.ext b16) ho.bare
      have HB16 := Lib.hid b16
      clear ho b16
      cases hfc : fitsB 8 (.mk 2 0 s args)
      ·rw [hfc] at C
       (go_wp2_with fail; go_fit (C); rintro e w17 ⟨rfl, b17⟩)
       have HB17 := Lib.hid (Ext.trans' HB16.out b17)
       have hall : args.all (fitsB 8) = false := by
        cases hal : args.all (fitsB 8) with
        | false => rfl
        | true =>
         exfalso
         have h9 : fitsB 8 (.mk 2 0 s args) = true := fitsB_true.2 ⟨HGC.out, fun q hq => by
          rw [occ_not (by decide)] at hq
          obtain ⟨x, hx, hq⟩ := mem_occL.1 hq
          exact (fitsB_true.1 (List.all_eq_true.1 hal x hx)).2 q hq⟩
         rw [h9] at hfc
         cases hfc
       have C := matchNot_at (HI8.out.1.ext HB17.out) HG.out rfl HCV.out (HA.out.ext HB11.out) (Or.inr ⟨by rw [HM.out.2.1]; exact HM.out.1.symm, hall⟩)
       obtain ⟨z0, z1, z2, z3, _⟩ := (HXR8.out.2.2.ext HB17.out).four
       clear b17 hall hfc
       (try clear y0 y1 y2 y3)
       (go_wp2_with fail; go_fit (C); rintro e w18 ⟨rfl, b18⟩)
       have HB18 := Lib.hid (Ext.trans' HBR8.out (Ext.trans' HB17.out b18))
       clear b18 C
       go_wp2
       go_ret
       exact ⟨rfl, HB18.out⟩
      rw [hfc] at C
      (go_wp2_with fail; go_fit (C); rintro e w17 ⟨rfl, b17⟩)
      have HB17 := Lib.hid (Ext.trans' HB16.out b17)
      have HFC := Lib.hid hfc
      have HX17 := Lib.hid (And.intro (HXR8.out.1.ext HB17.out) (And.intro (HXR8.out.2.1.ext HB17.out) (HXR8.out.2.2.ext HB17.out)))
      clear b17 hfc C
      (try clear y0 y1 y2 y3)
      obtain ⟨x0, x1, x2, x3, _⟩ := HX17.out.1.four
      have C := own15_at (.mk 2 n s ts) (fun _ => false) w17 _ (fun _ _ => rfl) (HV.out w17 (Ext.trans' HBR8.out HB17.out))
      (go_wp2_with fail; go_fit (C); rintro e w18 ⟨vh, rfl, hh, b18⟩)
      have C := From_at (.mk 2 n s ts) 8 (by omega) (by omega) w18 _ hh.bare
      rw [show fromB 8 (.mk 2 n s ts) = (renT 8 (.mk 2 n s ts), 8 + ((varsT (.mk 2 n s ts) []).length : Int), 0) from by unfold fromB; rw [HG.out]; rfl] at C
      obtain ⟨K, hK⟩ : ∃ K, (varsT (.mk 2 n s ts) []).length = K := ⟨_, rfl⟩
      have hK2 : K ≤ 2000 := by rw [← hK]; exact vars_le HG.out
      rw [hK] at C
      have HK := Lib.hid hK
      have HB18 := Lib.hid (Ext.trans' HB17.out b18)
      clear hh b18 hK x0 x1 x2 x3
      (go_wp2_with fail; go_fit (C); rintro e w19 ⟨vr, rfl, hr, b19⟩)
      obtain ⟨k5, n5, s5, a5, m5, c5, rfl, f1, f2, f3, f4⟩ := four_of hr
      have HR19 := Lib.hid hr
      have HB19 := Lib.hid (Ext.trans' HB18.out b19)
      obtain ⟨w20, e20, b20, z20, X20⟩ := box_new w19 #[.int .i64 k5, .int .i64 n5, .string s5, .slice a5 m5 c5] 54
      obtain ⟨rb, hrb⟩ : ∃ rb, w19.heap.size = rb := ⟨_, rfl⟩
      rw [hrb] at X20
      have HX20 := Lib.hid X20
      have HB20 := Lib.hid (Ext.trans' HB19.out b20)
      have HT20 := Lib.hid (TmV.ext b20 _ _ hr.bare)
      have hP0 : PairB w11 w11 wr F F2 p q 8 [] 8 [] := HI8.out
      have hlt18 : ∀ k ∈ F ++ F2, k < w18.heap.size := fun k hk => by
       have := HB18.out.size
       rcases List.mem_append.1 hk with e | e
       ·have := hP0.1.lt k e; omega
       ·have := hP0.2.1.lt k e; omega
      have HRV := Lib.hid (show TmV (seenB F F2 w20) (renT 8 (.mk 2 n s ts)) _ from TmV.later b20 (TmV.away (F := F ++ F2) hlt18 HR19.out))
      have HP20 := Lib.hid (hP0.ext HB20.out).rebase
      have HNR := Lib.hid (fun (j : Nat) (v : Value) (hv : w20.cell? ⟨rb, j, none⟩ = some v) => (hP0.ext HB19.out).newer (w' := w20) (b := rb) (by omega) hv)
      clear hP0 hlt18
      clear f1 f2 f3 f4 hr b19 b20 z20 X20 C
      go_upto_region 26 with fail
      (try rw [e20])
      (try rw [hrb])
      clear e20 hrb
      obtain ⟨V, hVe⟩ : ∃ V, seenB F F2 w20 = V := ⟨_, rfl⟩
      have HVE := Lib.hid hVe
      rw [hVe] at HP20 HRV HNR
      clear hVe
      have HCL := Lib.hid (fun (wq : World) (hb : Stays V wq) => (show (wq.cell? ⟨rb, 0, none⟩ = some (.int .i64 k5) ∧ wq.cell? ⟨rb, 1, none⟩ = some (.int .i64 n5) ∧ wq.cell? ⟨rb, 2, none⟩ = some (.string s5) ∧ wq.cell? ⟨rb, 3, none⟩ = some (.slice a5 m5 c5)) ∧ (wq.cell? ⟨pb, 0, none⟩ = some (.int .i64 2) ∧ wq.cell? ⟨pb, 1, none⟩ = some (.int .i64 0) ∧ wq.cell? ⟨pb, 2, none⟩ = some (.string s) ∧ wq.cell? ⟨pb, 3, none⟩ = some (.slice a7 m c7)) from by
       obtain ⟨p0, p1, p2, p3, _⟩ := HX20.out.four
       obtain ⟨o0, o1, o2, o3, _⟩ := HX11.out.2.1.four
       have ho := HP20.out.1.see.1
       have hO : Stays w11 V := by rw [← HVE.out]; exact (show PairB w11 w11 w20 F F2 p q 8 [] 8 [] from (show PairB w11 w11 wr F F2 p q 8 [] 8 [] from HI8.out).ext HB20.out).old
       exact ⟨⟨hb.2 _ _ (HNR.out _ _ p0), hb.2 _ _ (HNR.out _ _ p1), hb.2 _ _ (HNR.out _ _ p2), hb.2 _ _ (HNR.out _ _ p3)⟩, hb.2 _ _ (hO.2 _ _ o0), hb.2 _ _ (hO.2 _ _ o1), hb.2 _ _ (hO.2 _ _ o2), hb.2 _ _ (hO.2 _ _ o3)⟩))
      go_wp2_with fail
      go_loopw [18] (fun z wr => ∃ j : Nat, 8 ≤ j ∧ j ≤ 8 + K ∧ z = .int .i64 j ∧ Hid (∃ F3, PairB w11 V wr F F3 p q 8 [] j [])) (fun z _ => 8 + K - (RowKit.intOf z).toNat)
      case atStart => exact ⟨8, Nat.le_refl _, by omega, rfl, Lib.hid ⟨F2, HP20.out⟩⟩
      case round =>
       obtain ⟨j, hj8, hj, rfl, HP⟩ := hrel
       by_cases hjK : j < 8 + K
       ·obtain ⟨F3, hp⟩ := HP.out
        have C := RFresh_at hp.2.1 (by omega)
        have HPP := Lib.hid hp
        clear hp HP
        have hjt : (j : Int) < 8 + (K : Int) := by omega
        (go_wp2_with fail; go_fit (C); rintro e w21 ⟨F4, rfl, h1, t1, hin⟩)
        have HN := Lib.hid (show ∃ F3, PairB w11 V w21 F F3 p q 8 [] (j + 1) [] from ⟨F4, HPP.out.right h1 t1 hin⟩)
        clear h1 t1 hin
        go_wp2
        go_roundw
        case rel => exact ⟨j + 1, by omega, by omega, by go_num, HN⟩
        case measure => simp [RowKit.intOf]; omega
       ·have hj9 : j = 8 + K := by omega
        have HPZ := Lib.hid (show ∃ F3, PairB w11 V wr F F3 p q 8 [] (8 + K) [] from by rw [← hj9]; exact HP.out)
        have hjt : ¬ (j : Int) < 8 + (K : Int) := by omega
        clear hj9 HP
        obtain ⟨F3, hp⟩ := HPZ.out
        have HPP := Lib.hid hp
        have OC := Lib.hid (fun (wq : World) (hb : Below wr.heap.size wr wq) => own15_at (.mk 2 0 s args) (awayB (F ++ F3)) wq _ (fun k hk => (hp.ext hb).oldD k hk) (TmV.stay (Stays.trans (show Stays w11 V from by rw [← HVE.out]; exact (show PairB w11 w11 w20 F F2 p q 8 [] 8 [] from (show PairB w11 w11 _ F F2 p q 8 [] 8 [] from HI8.out).ext HB20.out).old) (hp.ext hb).1.see.1) _ _ HT11.out))
        have hst := hp.1.see.1
        clear hp
        have BC0 := Lib.hid (fun (wq : World) (hb : Below wr.heap.size wr wq) (v : Value) (hv : TmV (seenB F F3 wq) (.mk 2 0 s args) v) => RBoth_at (HPP.out.ext hb).rebase.2.1 (show Sync [] [] from trivial) (TmV.stay (HPP.out.ext hb).stays _ _ HRV.out) hv)
        obtain ⟨bo, hbo⟩ : ∃ bo, bothB (8 + K) [] (renT 8 (.mk 2 n s ts)) (.mk 2 0 s args) = bo := ⟨_, rfl⟩
        rw [hbo] at BC0
        have HBO := Lib.hid hbo
        obtain ⟨bk, bc, be, bs⟩ := bo
        clear hbo
        go_upto_region 30 with fail
        refine wp_region_held_drew (S := fun wq => ((wq.cell? ⟨rb, 0, none⟩ = some (.int .i64 k5) ∧ wq.cell? ⟨rb, 1, none⟩ = some (.int .i64 n5) ∧ wq.cell? ⟨rb, 2, none⟩ = some (.string s5) ∧ wq.cell? ⟨rb, 3, none⟩ = some (.slice a5 m5 c5)) ∧ (wq.cell? ⟨pb, 0, none⟩ = some (.int .i64 2) ∧ wq.cell? ⟨pb, 1, none⟩ = some (.int .i64 0) ∧ wq.cell? ⟨pb, 2, none⟩ = some (.string s) ∧ wq.cell? ⟨pb, 3, none⟩ = some (.slice a7 m c7)))) (by kernel_rfl) (HCL.out _ hst) (fun hHeld => ?_)
        first | (refine held_t (i := 0) hHeld ?_; constructor; constructor; intro wq hq; focus ((try dsimp only at hq); go_simp; first | done | with_reducible rfl | fail)) | refine held_s (i := 0) hHeld ?_ | fail
        first | (refine held_t (i := 1) hHeld ?_; constructor; constructor; intro wq hq; focus ((try dsimp only at hq); go_simp; first | done | with_reducible rfl | fail)) | refine held_s (i := 1) hHeld ?_ | fail
        first | (refine held_t (i := 2) hHeld ?_; constructor; constructor; intro wq hq; focus ((try dsimp only at hq); go_simp; first | done | with_reducible rfl | fail)) | refine held_s (i := 2) hHeld ?_ | fail
        try simp only [Act.put, lay4]
        refine held_c 3 fun K hK => ?_
        go_simp
        (go_at_call 29; refine (OC.out _ ((Below.refl _ _).drew)).mono ?_; rintro e w30 ⟨vo2, rfl, ho2, b30⟩; have HB30 := Lib.hid (Ext.trans' (Below.refl wr.heap.size wr).drew b30); have HO2 := Lib.hid ho2; clear ho2 b30)
        refine hK.out _ _ (HCL.out _ (HPP.out.ext HB30.out).1.see.1) (fun hHeld => ?_)
        clear hK K
        try simp only [Act.put, lay4]
        refine held_c 4 fun K hK => ?_
        go_simp
        (go_at_call 35; refine (BC0.out _ HB30.out _ HO2.out).mono ?_; rintro e w31 ⟨F5, R5, rfl, i31, s31, t31, n31⟩; have HP31 := Lib.hid ((HPP.out.ext HB30.out).rebase.right i31 t31 n31); have HS31 := Lib.hid (show Sync R5 bs from s31); clear i31 s31 t31 n31)
        refine hK.out _ _ (HCL.out _ (Stays.trans (HPP.out.ext HB30.out).stays HP31.out.1.see.1)) (fun hHeld => ?_)
        clear hK K
        try simp only [Act.put, lay4]
        first | (refine held_t (i := 5) hHeld ?_; constructor; constructor; intro wq hq; focus ((try dsimp only at hq); go_simp; first | done | with_reducible rfl | fail)) | refine held_s (i := 5) hHeld ?_ | fail
        first | (refine held_t (i := 6) hHeld ?_; constructor; constructor; intro wq hq; focus ((try dsimp only at hq); go_simp; first | done | with_reducible rfl | fail)) | refine held_s (i := 6) hHeld ?_ | fail
        try simp only [Act.put, lay4]
        first | (refine held_t (i := 7) hHeld ?_; constructor; constructor; intro wq hq; focus ((try dsimp only at hq); go_simp; first | done | with_reducible rfl | fail)) | refine held_s (i := 7) hHeld ?_ | fail
        first | (refine held_t (i := 8) hHeld ?_; constructor; constructor; intro wq hq; focus ((try dsimp only at hq); go_simp; first | done | with_reducible rfl | fail)) | refine held_s (i := 8) hHeld ?_ | fail
        first | (refine held_t (i := 9) hHeld ?_; constructor; constructor; intro wq hq; focus ((try dsimp only at hq); go_simp; first | done | with_reducible rfl | fail)) | refine held_s (i := 9) hHeld ?_ | fail
        first | (refine held_t (i := 10) hHeld ?_; constructor; constructor; intro wq hq; focus ((try dsimp only at hq); go_simp; first | done | with_reducible rfl | fail)) | refine held_s (i := 10) hHeld ?_ | fail
        first | (refine held_t (i := 11) hHeld ?_; constructor; constructor; intro wq hq; focus ((try dsimp only at hq); go_simp; first | done | with_reducible rfl | fail)) | refine held_s (i := 11) hHeld ?_ | fail
        try simp only [Act.put, lay4]
        refine wpAnyH_done (by kernel_rfl) ?_ _
        have HB31 := Lib.hid (show Below W.heap.size W w31 from Ext.trans' HB11.out HP31.out.bel)
        have HO31 := Lib.hid HP31.out.old
        have HALL := Lib.hid (show args.all (fitsB 8) = true from List.all_eq_true.2 fun x hx => fitsB_true.2 ⟨good_arg HGC.out (t := .mk 2 0 s args) hx, fun q hq => (fitsB_true.1 HFC.out).2 q (by rw [occ_not (by decide)]; exact mem_occL.2 ⟨x, hx, hq⟩)⟩)
        have CM := matchM_at (E := True) (J := fun _ _ _ _ _ => True) HP31.out.rebase.1 (show Sync [] [] from trivial) HG.out rfl (HCV.out.stay HO31.out) ((HA.out.ext HB11.out).stay HO31.out) (by rw [HM.out.2.1]; exact HM.out.1.symm) HALL.out (by omega) (fun h => absurd trivial h)
        have HZ31 := Lib.hid (fun (j : Nat) (u : Value) (h : w11.cell? ⟨cb, j, none⟩ = some u) => (Stays.unhide _ _).2 _ _ (HO31.out.2 _ _ h))
        obtain ⟨z0, z1, z2, z3, _⟩ := HX11.out.2.2.four
        replace z0 := HZ31.out _ _ z0
        replace z1 := HZ31.out _ _ z1
        replace z2 := HZ31.out _ _ z2
        replace z3 := HZ31.out _ _ z3
        clear hHeld hst
        (go_wp2_with fail; go_fit (CM); rintro e w32 ⟨V1, F1, R1, N1, v1, i1, t1, n1, hN1, hor⟩)
        have hbel := HP31.out.bel
        have HB32 := Lib.hid (show Below W.heap.size W w32 from Ext.trans' HB11.out (hbel.trans (t1.below hbel.size HP31.out.2.2.1)))
        have HC32 := Lib.hid (show Below w11.heap.size w11 w32 from hbel.trans (t1.below hbel.size HP31.out.2.2.1))
        have HF1 := Lib.hid (show ∀ q ∈ F1, w11.heap.size ≤ q from fun q hq => (n1 q hq).elim (HP31.out.2.2.1 q) (fun e => Nat.le_trans hbel.size e))
        have HI32 := Lib.hid i1
        have HR32 := Lib.hid (HP31.out.2.1.touch t1 (fun k hk hm => HP31.out.2.2.2.2.1 k hk hm) HP31.out.1.see.2)
        clear hbel i1 t1 n1 v1 hN1 CM z0 z1 z2 z3
        have hsp := both_split _ _ _ HBO.out
        rcases hor with ⟨v, S, L, rfl, hT, hs, hY⟩ | ⟨er, rfl, hs, hor⟩
        rotate_left
        ·by_cases hbe : be = 0
         ·subst hbe
          rcases hor with ⟨rfl, hno⟩ | ⟨rfl, _⟩
          ·obtain ⟨_, r, hr, hcost, hok, _⟩ := hsp.resolve_left (fun h => h rfl)
           have hML := (match_law (t := .mk 2 n s ts) HG.out rfl (args_in8 HFC.out) (good_parts HGC.out).2.2 hr hcost).2 hno
           obtain rfl : bk = false := hok.trans hML
           have hl0 : R1.length = 0 := hs.len
           have C := Mark_at HI32.out
           rw [hl0] at C
           clear hok hML hcost hr hno hl0 hs hsp
           (go_wp2_with fail; go_fit (C); rintro e w33 ⟨rfl, rfl⟩)
           go_wp2
           go_ret
           exact ⟨rfl, HB32.out⟩
          ·clear hs hsp
           go_wp2
           go_ret
           exact ⟨rfl, HB32.out⟩
         ·have hbe2 : (be == 0) = false := by simpa using hbe
          clear hs hsp
          rcases hor with ⟨rfl, hno⟩ | ⟨rfl, _⟩
          ·clear hno
           go_wp2
           go_ret
           exact ⟨rfl, HB32.out⟩
          ·go_wp2
           go_ret
           exact ⟨rfl, HB32.out⟩
        by_cases hbe : be = 0
        rotate_left
        ·have hbe2 : (be == 0) = false := by simpa using hbe
         clear hs hsp hT hY
         go_wp2
         go_ret
         exact ⟨rfl, HB32.out⟩
        subst hbe
        obtain ⟨_, r, hr, hcost, hok, hset⟩ := hsp.resolve_left (fun h => h rfl)
        have hML := (match_law (t := .mk 2 n s ts) HG.out rfl (args_in8 HFC.out) (good_parts HGC.out).2.2 hr hcost).1 _ _ _ hY
        obtain rfl : bk = true := hok.trans hML.1
        obtain rfl : bs = r.set := hset hML.1
        have HML := Lib.hid hML.2
        obtain ⟨la, lc, rfl, hl1, hl2, hl3⟩ := hT.len
        unfold maxLen at hl2
        unfold BIG at hl3
        have hLK : L.length = K := by rw [hY.len]; exact HK.out
        obtain rfl : q2 = (K : Int) := by
         have h1 := (head_nums (t := .mk 2 n s ts) rfl).2.1
         rw [HQQ.out, HK.out] at h1
         exact h1
        rw [hLK] at hl1 hl3 hT ⊢
        have HLK := Lib.hid hLK
        have HT32 := Lib.hid hT
        have HS32 := Lib.hid hs
        have HRS := Lib.hid HS31.out
        have hzc := cell_later (HC32.out) (HX11.out.2.2.four.2.1)
        clear hok hset hr hcost hML hsp hT hs hY hLK
        go_upto_region 42 with fail
        have HTA := Lib.hid ((HA.out.ext HB11.out).stay (IsB.old (V := w11) (p := p) (N := N1) (R := R1) HF1.out HC32.out))
        have HN2 := Lib.hid (show m ≤ 8 ∧ K ≤ 2000 from ⟨by omega, hK2⟩)
        obtain ⟨i0, hi0, hz0, hs0, hb0⟩ := info_parts infoTermR
        go_wp2_with fail
        go_loopw [25, 26, 27] (fun vx vy z wr => ∃ (i xc yc : Nat) (xa ya : Option Addr) (ps qs : List TmP), i ≤ m ∧ vx = .slice xa i xc ∧ vy = .slice ya i yc ∧ z = .int .i64 i ∧ Hid (ps.map (·.1) = (args.take i).map (subT (fullB S)) ∧ qs.map (·.1) = (args.take i).map (subT (fullB r.set))) ∧ Hid (TwoRows w32.heap.size 54 wr (.slice xa i xc) (.slice ya i yc) ps qs ∧ Below w32.heap.size w32 wr)) (fun _ _ z _ => m - (RowKit.intOf z).toNat)
        case atStart => exact ⟨0, 0, 0, none, none, [], [], Nat.zero_le _, rfl, rfl, rfl, Lib.hid ⟨rfl, rfl⟩, Lib.hid ⟨TwoRows.none _ _ _, Below.refl _ _⟩⟩
        case round =>
         obtain ⟨i, xc, yc, xa, ya, ps, qs, hi, rfl, rfl, rfl, HPQ, HW⟩ := hrel
         by_cases him : i < m
         ·obtain ⟨y, hy⟩ : ∃ y, args[i]? = some y := ⟨_, List.getElem?_eq_getElem (by rw [HM.out.2.1]; exact him)⟩
          have HPL := Lib.hid (show ps.length = i ∧ qs.length = i from by
           have hl : (args.take i).length = i := by rw [List.length_take, HM.out.2.1]; omega
           have h1 := congrArg List.length HPQ.out.1
           have h2 := congrArg List.length HPQ.out.2
           rw [List.length_map, List.length_map, hl] at h1 h2
           exact ⟨h1, h2⟩)
          have HTY := Lib.hid (take_next hy)
          obtain ⟨b, off, k', n', s', u', rfl, hbb, _, _, _, c0, c1, c2, c3, _, ht⟩ := HTA.out.get hy
          have hun := Stays.unhide (awayB F1) w32
          have HTy := Lib.hid ht
          have HTZ := Lib.hid (fun (wq : World) (hb : Below w32.heap.size w32 wq) => (TmV.ext hb _ _ (TmV.stay hun _ _ ht)))
          have HE := Lib.hid (fun (wq : World) (hb : Below w32.heap.size w32 wq) => And.intro (cell_later hb (hun.2 _ _ c0)) (And.intro (cell_later hb (hun.2 _ _ c1)) (And.intro (cell_later hb (hun.2 _ _ c2)) (cell_later hb (hun.2 _ _ c3)))))
          clear c0 c1 c2 c3 hun ht hy hbb
          obtain ⟨c0, c1, c2, c3⟩ := HE.out wr HW.out.2
          have C := Whole_at (HI32.out.rebase.ext HW.out.2) HTy.out
          obtain ⟨⟨T1, E1⟩, hw1⟩ : ∃ q, wholeB N1 R1 y = q := ⟨_, rfl⟩
          have HT1 := Lib.hid (show E1 = 0 → T1 = subT (fullB S) y from fun h => by have := whole_none15 (N := N1) (x := y) HS32.out (by rw [hw1]; exact h); rw [hw1] at this; exact this)
          rw [hw1] at C
          clear hw1
          dsimp only at C
          (go_wp2_with fail; go_fit (C); rintro e w41 ⟨r1, rfl, hr1, b41⟩)
          obtain ⟨k6, n6, s6, a6, m6, c6, rfl, f1, f2, f3, f4⟩ := four_of hr1
          have HR1 := Lib.hid hr1
          clear f1 f2 f3 f4 hr1 C c0 c1 c2 c3
          obtain ⟨w42, e42, b42, z42, X42⟩ := box_new w41 #[.int .i64 k6, .int .i64 n6, .string s6, .slice a6 m6 c6] 31
          obtain ⟨tb, htb⟩ : ∃ tb, w41.heap.size = tb := ⟨_, rfl⟩
          have HZ42 := Lib.hid (show wr.heap.size ≤ tb from by rw [← htb]; exact b41.size)
          rw [htb] at X42
          have HX42 := Lib.hid X42
          have HR42 := Lib.hid (TmV.later b42 HR1.out)
          have HB42 := Lib.hid (Ext.trans' b41 b42)
          clear X42 z42 b42 b41
          go_upto_region 45 with fail
          (try rw [e42])
          (try rw [htb])
          clear e42 htb
          have HB42' := Lib.hid (HW.out.2.trans (HB42.out.mono HW.out.2.size))
          obtain ⟨c0, c1, c2, c3⟩ := HE.out w42 HB42'.out
          have C := own15_at y (awayB F5) w42 _ (HR32.out.ext HB42'.out).oldD (HTZ.out w42 HB42'.out)
          (go_wp2_with fail; go_fit (C); rintro e w43 ⟨vo, rfl, ho, b43⟩)
          have HB43 := Lib.hid (HB42'.out.trans (b43.mono HB42'.out.size))
          have C := RWhole_at (HR32.out.ext HB43.out).rebase ho
          obtain ⟨⟨T2, E2⟩, hw2⟩ : ∃ q, wholeB (8 + K) R5 y = q := ⟨_, rfl⟩
          have HT2 := Lib.hid (show E2 = 0 → T2 = subT (fullB r.set) y from fun h => by have := whole_none15 (N := 8 + K) (x := y) HRS.out (by rw [hw2]; exact h); rw [hw2] at this; exact this)
          rw [hw2] at C
          dsimp only at C
          have HBq := Lib.hid b43
          clear hw2 ho b43 c0 c1 c2 c3
          (go_wp2_with fail; go_fit (C); rintro e w44 ⟨r2, rfl, hr2, b44⟩)
          obtain ⟨k7, n7, s7, a7', m7, c7', rfl, ek, en, es, ep⟩ := four_of hr2
          have HEPu := Lib.hid ep
          have HEKu := Lib.hid (And.intro ek (And.intro en es))
          have HR2 := Lib.hid hr2
          clear ek en es ep hr2 C
          obtain ⟨w46, e46, b46, z46, X46⟩ := box_new w44 #[.int .i64 k7, .int .i64 n7, .string s7, .slice a7' m7 c7'] 54
          obtain ⟨ub, hub⟩ : ∃ ub, w44.heap.size = ub := ⟨_, rfl⟩
          have hzu : wr.heap.size ≤ ub := by rw [← hub]; exact Nat.le_trans (Nat.le_trans HB42.out.size HBq.out.size) b44.size
          rw [hub] at X46
          have hb46 := Ext.trans' (Ext.trans' HBq.out b44) b46
          have HRg := Lib.hid (Rg.start HW.out.1 HW.out.2 (Ext.trans' HB42.out hb46) HZ42.out hzu (HX42.out.ext hb46) X46 (TmV.later hb46 HR42.out) (TmV.stay (Stays.less fun k hk => by
           have hk' : w43.heap.size ≤ k := by simpa using hk
           have := HB42.out.size
           have := HBq.out.size
           simp
           omega) _ _ (TmV.later b46 HR2.out)))
          clear X46 z46 b46 b44 hb46 hzu
          go_upto_region 46 with fail
          (try rw [e46])
          (try rw [hub])
          clear e46 hub
          have HB46 := Lib.hid (Ext.trans' HB32.out HRg.out.bel)
          by_cases hE1 : E1 = 0
          rotate_left
          ·have hE1' : (E1 == 0) = false := by simpa using hE1
           go_wp2
           go_ret
           exact ⟨rfl, HB46.out⟩
          by_cases hE2 : E2 = 0
          rotate_left
          ·have hE2' : (E2 == 0) = false := by simpa using hE2
           subst hE1
           go_wp2
           go_ret
           exact ⟨rfl, HB46.out⟩
          have hT1 := HT1.out hE1
          have hT2 := HT2.out hE2
          subst hE1 hE2
          have HT12 := Lib.hid (And.intro hT1 hT2)
          clear hT1 hT2
          have hi8 : i ≤ 8 := by have := HN2.out.1; omega
          go_upto_region 48 with fail
          refine wp_region_held_drew (S := fun wq => (wq.cell? ⟨tb, 0, none⟩ = some ((.int .i64 k6)) ∧ wq.cell? ⟨tb, 1, none⟩ = some ((.int .i64 n6)) ∧ wq.cell? ⟨tb, 2, none⟩ = some ((.string s6)) ∧ wq.cell? ⟨tb, 3, none⟩ = some ((.slice a6 m6 c6))) ∧ (wq.cell? ⟨ub, 0, none⟩ = some (.int .i64 k7) ∧ wq.cell? ⟨ub, 1, none⟩ = some (.int .i64 n7) ∧ wq.cell? ⟨ub, 2, none⟩ = some (.string s7) ∧ wq.cell? ⟨ub, 3, none⟩ = some (.slice a7' m7 c7'))) (by kernel_rfl) ((HRg.out.ext (Below.refl _ _).drew).1.held) (fun hHeld => ?_)
          have HRg0 := Lib.hid (HRg.out.ext (Below.refl _ _).drew).1
          obtain ⟨wd, ewd⟩ : ∃ wd, w46.drew = wd := ⟨_, rfl⟩
          rw [ewd] at hHeld HRg0 ⊢
          clear ewd
          first | (refine held_t (i := 0) hHeld ?_; constructor; constructor; intro wq hq; focus ((try dsimp only at hq); go_simp; first | done | with_reducible rfl | fail)) | refine held_s (i := 0) hHeld ?_ | fail
          first | (refine held_t (i := 1) hHeld ?_; constructor; constructor; intro wq hq; focus ((try dsimp only at hq); go_simp; first | done | with_reducible rfl | fail)) | refine held_s (i := 1) hHeld ?_ | fail
          first | (refine held_t (i := 5) hHeld ?_; constructor; constructor; intro wq hq; focus ((try dsimp only at hq); go_simp; first | done | with_reducible rfl | fail)) | refine held_s (i := 5) hHeld ?_ | fail
          first | (refine held_t (i := 6) hHeld ?_; constructor; constructor; intro wq hq; focus ((try dsimp only at hq); go_simp; first | done | with_reducible rfl | fail)) | refine held_s (i := 6) hHeld ?_ | fail
          try simp only [Act.put, lay4]
          refine wpAnyH_ready (rs := [2, 7]) (by kernel_rfl) (by simp) ?_
          refine AllReadyH.cons (by simp only [ops3]; rfl) (fun K hK => ?_) (AllReadyH.cons (by simp only [ops3]; rfl) (fun K hK => ?_) AllReadyH.nil)
          ·go_simp
           go_at_call 29; refine (own15_at T1 (twoB (.slice xa i xc) (.slice ya i yc)) wd _ HRg0.out.two.old (TmV.stay (Stays.unhide _ _) _ _ HRg0.out.tT)).mono ?_; rintro e wn1 ⟨vo, rfl, hvo, hbo1⟩
           obtain ⟨ko, no, so, ao, mo, co, rfl, ek, en, es, ep⟩ := four_of hvo
           have HEP := Lib.hid ep; have HEK := Lib.hid (And.intro ek (And.intro en es)); have HEX1 := Lib.hid (HRg0.out.ext hbo1)
           have HVO1 := Lib.hid hvo
           have HRg1 := Lib.hid HEX1.out.1
           clear ek en es ep hvo hbo1 HEX1
           refine hK.out _ _ (HRg1.out.held) (fun hHeld => ?_)
           clear hK K
           try simp only [Act.put, lay4]
           refine wpAnyH_ready (rs := [3, 7]) (by kernel_rfl) (by simp) ?_
           refine AllReadyH.cons (by simp only [ops3]; rfl) (fun K hK => ?_) (AllReadyH.cons (by simp only [ops3]; rfl) (fun K hK => ?_) AllReadyH.nil)
           ·go_simp
            have HEX2 := Lib.hid (HRg1.out.ext (bel1' wn1 (.cells #[.int .i64 ko, .int .i64 no, .string so, .slice ao mo co] 54)))
            have HSN2 := Lib.hid (Src.new HRg1.out.two.old (.int .i64 ko) (.int .i64 no) (.string so) (.slice ao mo co) 54)
            have HVO2 := Lib.hid (TmV.stay HEX2.out.2 _ _ HVO1.out)
            have HRg2 := Lib.hid HEX2.out.1
            refine hK.out _ _ (HRg2.out.held) (fun hHeld => ?_)
            clear hK K
            try simp only [Act.put, lay4]
            obtain ⟨ab2, hab2⟩ : ∃ ab, wn1.heap.size = ab := ⟨_, rfl⟩
            rw [hab2] at HSN2 ⊢
            obtain ⟨wn2, ewn2⟩ : ∃ wn, (wn1.alloc (.cells #[.int .i64 ko, .int .i64 no, .string so, .slice ao mo co] 54)) = wn := ⟨_, rfl⟩
            rw [ewn2] at hHeld HRg2 HSN2 HVO2 ⊢
            clear ewn2 hab2 HEX2
            refine wpAnyH_ready (rs := [4, 7]) (by kernel_rfl) (by simp) ?_
            refine AllReadyH.cons (by simp only [ops3]; rfl) (fun K hK => ?_) (AllReadyH.cons (by simp only [ops3]; rfl) (fun K hK => ?_) AllReadyH.nil)
            ·refine step_append_k (by rfl) _ _ _ (by rfl) w32.heap.size 54 i0 (.agg #[.int .i64 0, .int .i64 0, .string ⟨#[]⟩, .slice none 0 0]) 4 56 Try.underlying52 hi0 hz0 hs0 (by decide) hb0 rfl (.slice xa i xc) i (ps.flatMap pCells) (by rfl) (by have h := HRg2.out.two.rx; unfold RowP at h; rw [HPL.out.1] at h; exact h) (some ⟨ab2, 0, none⟩) 1 1 [.int .i64 ko, .int .i64 no, .string so, .slice ao mo co] (by rfl) (by rfl) (Or.inr ⟨_, rfl, HSN2.out.cells⟩) (by simp [Value.oneCell']) (by unfold maxLen; omega) (by omega) HRg2.out.bel.size (i + 1) (ps.flatMap pCells ++ [.int .i64 ko, .int .i64 no, .string so, .slice ao mo co]) rfl rfl ?_
             intro na3 nc3 wn3 hown3 hgrow3 hat3
             have hpc3 : pCells (T1, .slice ao mo co) = [.int .i64 ko, .int .i64 no, .string so, .slice ao mo co] := by unfold pCells; rw [← HEK.out.1, ← HEK.out.2.1, ← HEK.out.2.2]
             have HEX3 := Lib.hid (HRg2.out.left hgrow3 hat3 (p := (T1, .slice ao mo co)) (by rw [HPL.out.1, hpc3]; exact hown3) (by rw [← HEP.out]; exact HVO2.out))
             have HRg3 := Lib.hid HEX3.out.1
             clear hpc3 hown3 hgrow3 hat3 HEX3
             refine hK.out _ _ (HRg3.out.held) (fun hHeld => ?_)
             clear hK K
             try simp only [Act.put, lay4]
             refine held_c 7 fun K hK => ?_
             go_simp
             have HEX4 := Lib.hid (HRg3.out.ext (bel1' wn3 (.cells #[.int .i64 k7, .int .i64 n7, .string s7, .slice a7' m7 c7'] 54)))
             have HSN4 := Lib.hid (Src.new HRg3.out.two.old (.int .i64 k7) (.int .i64 n7) (.string s7) (.slice a7' m7 c7') 54)
             have HRg4 := Lib.hid HEX4.out.1
             refine hK.out _ _ (HRg4.out.held) (fun hHeld => ?_)
             clear hK K
             try simp only [Act.put, lay4]
             obtain ⟨ab4, hab4⟩ : ∃ ab, wn3.heap.size = ab := ⟨_, rfl⟩
             rw [hab4] at HSN4 ⊢
             obtain ⟨wn4, ewn4⟩ : ∃ wn, (wn3.alloc (.cells #[.int .i64 k7, .int .i64 n7, .string s7, .slice a7' m7 c7'] 54)) = wn := ⟨_, rfl⟩
             rw [ewn4] at hHeld HRg4 HSN4 ⊢
             clear ewn4 hab4 HEX4
             refine held_c 8 fun K hK => ?_
             refine step_append_k (by rfl) _ _ _ (by rfl) w32.heap.size 54 i0 (.agg #[.int .i64 0, .int .i64 0, .string ⟨#[]⟩, .slice none 0 0]) 4 56 Try.underlying52 hi0 hz0 hs0 (by decide) hb0 rfl (.slice ya i yc) i (qs.flatMap pCells) (by rfl) (by have h := HRg4.out.two.ry; unfold RowP at h; rw [HPL.out.2] at h; exact h) (some ⟨ab4, 0, none⟩) 1 1 [.int .i64 k7, .int .i64 n7, .string s7, .slice a7' m7 c7'] (by rfl) (by rfl) (Or.inr ⟨_, rfl, HSN4.out.cells⟩) (by simp [Value.oneCell']) (by unfold maxLen; omega) (by omega) HRg4.out.bel.size (i + 1) (qs.flatMap pCells ++ [.int .i64 k7, .int .i64 n7, .string s7, .slice a7' m7 c7']) rfl rfl ?_
             intro na5 nc5 wn5 hown5 hgrow5 hat5
             have hpc5 : pCells (T2, (Value.slice a7' m7 c7')) = [.int .i64 k7, .int .i64 n7, .string s7, .slice a7' m7 c7'] := by unfold pCells; rw [← HEKu.out.1, ← HEKu.out.2.1, ← HEKu.out.2.2]
             have HEX5 := Lib.hid (HRg4.out.right hgrow5 hat5 (p := (T2, (Value.slice a7' m7 c7'))) (by rw [HPL.out.2, hpc5]; exact hown5) (by rw [← HEPu.out]; exact HRg4.out.tU))
             have HRg5 := Lib.hid HEX5.out.1
             clear hpc5 hown5 hgrow5 hat5 HEX5
             refine hK.out _ _ (HRg5.out.held) (fun hHeld => ?_)
             clear hK K
             try simp only [Act.put, lay4]
             first | (refine held_t (i := 9) hHeld ?_; constructor; constructor; intro wq hq; focus ((try dsimp only at hq); go_simp; first | done | with_reducible rfl | fail)) | refine held_s (i := 9) hHeld ?_ | fail
             first | (refine held_t (i := 10) hHeld ?_; constructor; constructor; intro wq hq; focus ((try dsimp only at hq); go_simp; first | done | with_reducible rfl | fail)) | refine held_s (i := 10) hHeld ?_ | fail
             try simp only [Act.put, lay4]
             refine wpAnyH_done (by kernel_rfl) ?_ _
             have HLF := Lib.hid (And.intro HRg5.out.two HRg5.out.bel)
             have HPF := Lib.hid (show (ps ++ [(T1, Value.slice ao mo co)]).map (·.1) = ps.map (·.1) ++ [T1] ∧ (qs ++ [(T2, (Value.slice a7' m7 c7'))]).map (·.1) = qs.map (·.1) ++ [T2] from ⟨by simp, by simp⟩)
             clear hHeld
             have HPQ2 := Lib.hid (show (ps ++ [(T1, Value.slice ao mo co)]).map (·.1) = (args.take (i + 1)).map (subT (fullB S)) ∧ (qs ++ [(T2, Value.slice a7' m7 c7')]).map (·.1) = (args.take (i + 1)).map (subT (fullB r.set)) from by
              rw [HPF.out.1, HPF.out.2, HPQ.out.1, HPQ.out.2, HT12.out.1, HT12.out.2, HTY.out, List.map_append, List.map_append]
              exact ⟨rfl, rfl⟩)
             go_wp2
             go_roundw
             case rel => exact ⟨i + 1, nc3, nc5, na3, na5, _, _, him, by go_num, by go_num, by go_num, HPQ2, HLF⟩
             case measure => simp [RowKit.intOf]; omega
            ·go_simp
             have HEX6 := Lib.hid (HRg2.out.ext (bel1' wn2 (.cells #[.int .i64 k7, .int .i64 n7, .string s7, .slice a7' m7 c7'] 54)))
             have HSN6 := Lib.hid (Src.new HRg2.out.two.old (.int .i64 k7) (.int .i64 n7) (.string s7) (.slice a7' m7 c7') 54)
             have HVO6 := Lib.hid (TmV.stay HEX6.out.2 _ _ HVO2.out)
             have HSX6 := Lib.hid (HSN2.out.stay HEX6.out.2)
             have HRg6 := Lib.hid HEX6.out.1
             refine hK.out _ _ (HRg6.out.held) (fun hHeld => ?_)
             clear hK K
             try simp only [Act.put, lay4]
             obtain ⟨ab6, hab6⟩ : ∃ ab, wn2.heap.size = ab := ⟨_, rfl⟩
             rw [hab6] at HSN6 ⊢
             obtain ⟨wn6, ewn6⟩ : ∃ wn, (wn2.alloc (.cells #[.int .i64 k7, .int .i64 n7, .string s7, .slice a7' m7 c7'] 54)) = wn := ⟨_, rfl⟩
             rw [ewn6] at hHeld HRg6 HSN6 HVO6 HSX6 ⊢
             clear ewn6 hab6 HEX6
             refine held_c 4 fun K hK => ?_
             refine step_append_k (by rfl) _ _ _ (by rfl) w32.heap.size 54 i0 (.agg #[.int .i64 0, .int .i64 0, .string ⟨#[]⟩, .slice none 0 0]) 4 56 Try.underlying52 hi0 hz0 hs0 (by decide) hb0 rfl (.slice xa i xc) i (ps.flatMap pCells) (by rfl) (by have h := HRg6.out.two.rx; unfold RowP at h; rw [HPL.out.1] at h; exact h) (some ⟨ab2, 0, none⟩) 1 1 [.int .i64 ko, .int .i64 no, .string so, .slice ao mo co] (by rfl) (by rfl) (Or.inr ⟨_, rfl, HSX6.out.cells⟩) (by simp [Value.oneCell']) (by unfold maxLen; omega) (by omega) HRg6.out.bel.size (i + 1) (ps.flatMap pCells ++ [.int .i64 ko, .int .i64 no, .string so, .slice ao mo co]) rfl rfl ?_
             intro na7 nc7 wn7 hown7 hgrow7 hat7
             have hpc7 : pCells (T1, .slice ao mo co) = [.int .i64 ko, .int .i64 no, .string so, .slice ao mo co] := by unfold pCells; rw [← HEK.out.1, ← HEK.out.2.1, ← HEK.out.2.2]
             have HEX7 := Lib.hid (HRg6.out.left hgrow7 hat7 (p := (T1, .slice ao mo co)) (by rw [HPL.out.1, hpc7]; exact hown7) (by rw [← HEP.out]; exact HVO6.out))
             have HSY7 := Lib.hid (HSN6.out.stay HEX7.out.2)
             have HRg7 := Lib.hid HEX7.out.1
             clear hpc7 hown7 hgrow7 hat7 HEX7
             refine hK.out _ _ (HRg7.out.held) (fun hHeld => ?_)
             clear hK K
             try simp only [Act.put, lay4]
             refine held_c 8 fun K hK => ?_
             refine step_append_k (by rfl) _ _ _ (by rfl) w32.heap.size 54 i0 (.agg #[.int .i64 0, .int .i64 0, .string ⟨#[]⟩, .slice none 0 0]) 4 56 Try.underlying52 hi0 hz0 hs0 (by decide) hb0 rfl (.slice ya i yc) i (qs.flatMap pCells) (by rfl) (by have h := HRg7.out.two.ry; unfold RowP at h; rw [HPL.out.2] at h; exact h) (some ⟨ab6, 0, none⟩) 1 1 [.int .i64 k7, .int .i64 n7, .string s7, .slice a7' m7 c7'] (by rfl) (by rfl) (Or.inr ⟨_, rfl, HSY7.out.cells⟩) (by simp [Value.oneCell']) (by unfold maxLen; omega) (by omega) HRg7.out.bel.size (i + 1) (qs.flatMap pCells ++ [.int .i64 k7, .int .i64 n7, .string s7, .slice a7' m7 c7']) rfl rfl ?_
             intro na8 nc8 wn8 hown8 hgrow8 hat8
             have hpc8 : pCells (T2, (Value.slice a7' m7 c7')) = [.int .i64 k7, .int .i64 n7, .string s7, .slice a7' m7 c7'] := by unfold pCells; rw [← HEKu.out.1, ← HEKu.out.2.1, ← HEKu.out.2.2]
             have HEX8 := Lib.hid (HRg7.out.right hgrow8 hat8 (p := (T2, (Value.slice a7' m7 c7'))) (by rw [HPL.out.2, hpc8]; exact hown8) (by rw [← HEPu.out]; exact HRg7.out.tU))
             have HRg8 := Lib.hid HEX8.out.1
             clear hpc8 hown8 hgrow8 hat8 HEX8
             refine hK.out _ _ (HRg8.out.held) (fun hHeld => ?_)
             clear hK K
             try simp only [Act.put, lay4]
             first | (refine held_t (i := 9) hHeld ?_; constructor; constructor; intro wq hq; focus ((try dsimp only at hq); go_simp; first | done | with_reducible rfl | fail)) | refine held_s (i := 9) hHeld ?_ | fail
             first | (refine held_t (i := 10) hHeld ?_; constructor; constructor; intro wq hq; focus ((try dsimp only at hq); go_simp; first | done | with_reducible rfl | fail)) | refine held_s (i := 10) hHeld ?_ | fail
             try simp only [Act.put, lay4]
             refine wpAnyH_done (by kernel_rfl) ?_ _
             have HLF := Lib.hid (And.intro HRg8.out.two HRg8.out.bel)
             have HPF := Lib.hid (show (ps ++ [(T1, Value.slice ao mo co)]).map (·.1) = ps.map (·.1) ++ [T1] ∧ (qs ++ [(T2, (Value.slice a7' m7 c7'))]).map (·.1) = qs.map (·.1) ++ [T2] from ⟨by simp, by simp⟩)
             clear hHeld
             have HPQ2 := Lib.hid (show (ps ++ [(T1, Value.slice ao mo co)]).map (·.1) = (args.take (i + 1)).map (subT (fullB S)) ∧ (qs ++ [(T2, Value.slice a7' m7 c7')]).map (·.1) = (args.take (i + 1)).map (subT (fullB r.set)) from by
              rw [HPF.out.1, HPF.out.2, HPQ.out.1, HPQ.out.2, HT12.out.1, HT12.out.2, HTY.out, List.map_append, List.map_append]
              exact ⟨rfl, rfl⟩)
             go_wp2
             go_roundw
             case rel => exact ⟨i + 1, nc7, nc8, na7, na8, _, _, him, by go_num, by go_num, by go_num, HPQ2, HLF⟩
             case measure => simp [RowKit.intOf]; omega
           ·go_simp
            have HEX9 := Lib.hid (HRg1.out.ext (bel1' wn1 (.cells #[.int .i64 k7, .int .i64 n7, .string s7, .slice a7' m7 c7'] 54)))
            have HSN9 := Lib.hid (Src.new HRg1.out.two.old (.int .i64 k7) (.int .i64 n7) (.string s7) (.slice a7' m7 c7') 54)
            have HVO9 := Lib.hid (TmV.stay HEX9.out.2 _ _ HVO1.out)
            have HRg9 := Lib.hid HEX9.out.1
            refine hK.out _ _ (HRg9.out.held) (fun hHeld => ?_)
            clear hK K
            try simp only [Act.put, lay4]
            obtain ⟨ab9, hab9⟩ : ∃ ab, wn1.heap.size = ab := ⟨_, rfl⟩
            rw [hab9] at HSN9 ⊢
            obtain ⟨wn9, ewn9⟩ : ∃ wn, (wn1.alloc (.cells #[.int .i64 k7, .int .i64 n7, .string s7, .slice a7' m7 c7'] 54)) = wn := ⟨_, rfl⟩
            rw [ewn9] at hHeld HRg9 HSN9 HVO9 ⊢
            clear ewn9 hab9 HEX9
            refine held_c 3 fun K hK => ?_
            go_simp
            have HEX10 := Lib.hid (HRg9.out.ext (bel1' wn9 (.cells #[.int .i64 ko, .int .i64 no, .string so, .slice ao mo co] 54)))
            have HSN10 := Lib.hid (Src.new HRg9.out.two.old (.int .i64 ko) (.int .i64 no) (.string so) (.slice ao mo co) 54)
            have HVO10 := Lib.hid (TmV.stay HEX10.out.2 _ _ HVO9.out)
            have HSY10 := Lib.hid (HSN9.out.stay HEX10.out.2)
            have HRg10 := Lib.hid HEX10.out.1
            refine hK.out _ _ (HRg10.out.held) (fun hHeld => ?_)
            clear hK K
            try simp only [Act.put, lay4]
            obtain ⟨ab10, hab10⟩ : ∃ ab, wn9.heap.size = ab := ⟨_, rfl⟩
            rw [hab10] at HSN10 ⊢
            obtain ⟨wn10, ewn10⟩ : ∃ wn, (wn9.alloc (.cells #[.int .i64 ko, .int .i64 no, .string so, .slice ao mo co] 54)) = wn := ⟨_, rfl⟩
            rw [ewn10] at hHeld HRg10 HSN10 HVO10 HSY10 ⊢
            clear ewn10 hab10 HEX10
            refine held_c 4 fun K hK => ?_
            refine step_append_k (by rfl) _ _ _ (by rfl) w32.heap.size 54 i0 (.agg #[.int .i64 0, .int .i64 0, .string ⟨#[]⟩, .slice none 0 0]) 4 56 Try.underlying52 hi0 hz0 hs0 (by decide) hb0 rfl (.slice xa i xc) i (ps.flatMap pCells) (by rfl) (by have h := HRg10.out.two.rx; unfold RowP at h; rw [HPL.out.1] at h; exact h) (some ⟨ab10, 0, none⟩) 1 1 [.int .i64 ko, .int .i64 no, .string so, .slice ao mo co] (by rfl) (by rfl) (Or.inr ⟨_, rfl, HSN10.out.cells⟩) (by simp [Value.oneCell']) (by unfold maxLen; omega) (by omega) HRg10.out.bel.size (i + 1) (ps.flatMap pCells ++ [.int .i64 ko, .int .i64 no, .string so, .slice ao mo co]) rfl rfl ?_
            intro na11 nc11 wn11 hown11 hgrow11 hat11
            have hpc11 : pCells (T1, .slice ao mo co) = [.int .i64 ko, .int .i64 no, .string so, .slice ao mo co] := by unfold pCells; rw [← HEK.out.1, ← HEK.out.2.1, ← HEK.out.2.2]
            have HEX11 := Lib.hid (HRg10.out.left hgrow11 hat11 (p := (T1, .slice ao mo co)) (by rw [HPL.out.1, hpc11]; exact hown11) (by rw [← HEP.out]; exact HVO10.out))
            have HSY11 := Lib.hid (HSY10.out.stay HEX11.out.2)
            have HRg11 := Lib.hid HEX11.out.1
            clear hpc11 hown11 hgrow11 hat11 HEX11
            refine hK.out _ _ (HRg11.out.held) (fun hHeld => ?_)
            clear hK K
            try simp only [Act.put, lay4]
            refine held_c 8 fun K hK => ?_
            refine step_append_k (by rfl) _ _ _ (by rfl) w32.heap.size 54 i0 (.agg #[.int .i64 0, .int .i64 0, .string ⟨#[]⟩, .slice none 0 0]) 4 56 Try.underlying52 hi0 hz0 hs0 (by decide) hb0 rfl (.slice ya i yc) i (qs.flatMap pCells) (by rfl) (by have h := HRg11.out.two.ry; unfold RowP at h; rw [HPL.out.2] at h; exact h) (some ⟨ab9, 0, none⟩) 1 1 [.int .i64 k7, .int .i64 n7, .string s7, .slice a7' m7 c7'] (by rfl) (by rfl) (Or.inr ⟨_, rfl, HSY11.out.cells⟩) (by simp [Value.oneCell']) (by unfold maxLen; omega) (by omega) HRg11.out.bel.size (i + 1) (qs.flatMap pCells ++ [.int .i64 k7, .int .i64 n7, .string s7, .slice a7' m7 c7']) rfl rfl ?_
            intro na12 nc12 wn12 hown12 hgrow12 hat12
            have hpc12 : pCells (T2, (Value.slice a7' m7 c7')) = [.int .i64 k7, .int .i64 n7, .string s7, .slice a7' m7 c7'] := by unfold pCells; rw [← HEKu.out.1, ← HEKu.out.2.1, ← HEKu.out.2.2]
            have HEX12 := Lib.hid (HRg11.out.right hgrow12 hat12 (p := (T2, (Value.slice a7' m7 c7'))) (by rw [HPL.out.2, hpc12]; exact hown12) (by rw [← HEPu.out]; exact HRg11.out.tU))
            have HRg12 := Lib.hid HEX12.out.1
            clear hpc12 hown12 hgrow12 hat12 HEX12
            refine hK.out _ _ (HRg12.out.held) (fun hHeld => ?_)
            clear hK K
            try simp only [Act.put, lay4]
            first | (refine held_t (i := 9) hHeld ?_; constructor; constructor; intro wq hq; focus ((try dsimp only at hq); go_simp; first | done | with_reducible rfl | fail)) | refine held_s (i := 9) hHeld ?_ | fail
            first | (refine held_t (i := 10) hHeld ?_; constructor; constructor; intro wq hq; focus ((try dsimp only at hq); go_simp; first | done | with_reducible rfl | fail)) | refine held_s (i := 10) hHeld ?_ | fail
            try simp only [Act.put, lay4]
            refine wpAnyH_done (by kernel_rfl) ?_ _
            have HLF := Lib.hid (And.intro HRg12.out.two HRg12.out.bel)
            have HPF := Lib.hid (show (ps ++ [(T1, Value.slice ao mo co)]).map (·.1) = ps.map (·.1) ++ [T1] ∧ (qs ++ [(T2, (Value.slice a7' m7 c7'))]).map (·.1) = qs.map (·.1) ++ [T2] from ⟨by simp, by simp⟩)
            clear hHeld
            have HPQ2 := Lib.hid (show (ps ++ [(T1, Value.slice ao mo co)]).map (·.1) = (args.take (i + 1)).map (subT (fullB S)) ∧ (qs ++ [(T2, Value.slice a7' m7 c7')]).map (·.1) = (args.take (i + 1)).map (subT (fullB r.set)) from by
             rw [HPF.out.1, HPF.out.2, HPQ.out.1, HPQ.out.2, HT12.out.1, HT12.out.2, HTY.out, List.map_append, List.map_append]
             exact ⟨rfl, rfl⟩)
            go_wp2
            go_roundw
            case rel => exact ⟨i + 1, nc11, nc12, na11, na12, _, _, him, by go_num, by go_num, by go_num, HPQ2, HLF⟩
            case measure => simp [RowKit.intOf]; omega
          ·go_simp
           have HEX13 := Lib.hid (HRg0.out.ext (bel1' wd (.cells #[.int .i64 k7, .int .i64 n7, .string s7, .slice a7' m7 c7'] 54)))
           have HSN13 := Lib.hid (Src.new HRg0.out.two.old (.int .i64 k7) (.int .i64 n7) (.string s7) (.slice a7' m7 c7') 54)
           have HRg13 := Lib.hid HEX13.out.1
           refine hK.out _ _ (HRg13.out.held) (fun hHeld => ?_)
           clear hK K
           try simp only [Act.put, lay4]
           obtain ⟨ab13, hab13⟩ : ∃ ab, wd.heap.size = ab := ⟨_, rfl⟩
           rw [hab13] at HSN13 ⊢
           obtain ⟨wn13, ewn13⟩ : ∃ wn, (wd.alloc (.cells #[.int .i64 k7, .int .i64 n7, .string s7, .slice a7' m7 c7'] 54)) = wn := ⟨_, rfl⟩
           rw [ewn13] at hHeld HRg13 HSN13 ⊢
           clear ewn13 hab13 HEX13
           refine held_c 2 fun K hK => ?_
           go_simp
           go_at_call 29; refine (own15_at T1 (twoB (.slice xa i xc) (.slice ya i yc)) wn13 _ HRg13.out.two.old (TmV.stay (Stays.unhide _ _) _ _ HRg13.out.tT)).mono ?_; rintro e wn14 ⟨vo, rfl, hvo, hbo14⟩
           obtain ⟨ko, no, so, ao, mo, co, rfl, ek, en, es, ep⟩ := four_of hvo
           have HEP := Lib.hid ep; have HEK := Lib.hid (And.intro ek (And.intro en es)); have HEX14 := Lib.hid (HRg13.out.ext hbo14)
           have HSY14 := Lib.hid (HSN13.out.stay HEX14.out.2)
           have HVO14 := Lib.hid hvo
           have HRg14 := Lib.hid HEX14.out.1
           clear ek en es ep hvo hbo14 HEX14
           refine hK.out _ _ (HRg14.out.held) (fun hHeld => ?_)
           clear hK K
           try simp only [Act.put, lay4]
           refine held_c 3 fun K hK => ?_
           go_simp
           have HEX15 := Lib.hid (HRg14.out.ext (bel1' wn14 (.cells #[.int .i64 ko, .int .i64 no, .string so, .slice ao mo co] 54)))
           have HSN15 := Lib.hid (Src.new HRg14.out.two.old (.int .i64 ko) (.int .i64 no) (.string so) (.slice ao mo co) 54)
           have HVO15 := Lib.hid (TmV.stay HEX15.out.2 _ _ HVO14.out)
           have HSY15 := Lib.hid (HSY14.out.stay HEX15.out.2)
           have HRg15 := Lib.hid HEX15.out.1
           refine hK.out _ _ (HRg15.out.held) (fun hHeld => ?_)
           clear hK K
           try simp only [Act.put, lay4]
           obtain ⟨ab15, hab15⟩ : ∃ ab, wn14.heap.size = ab := ⟨_, rfl⟩
           rw [hab15] at HSN15 ⊢
           obtain ⟨wn15, ewn15⟩ : ∃ wn, (wn14.alloc (.cells #[.int .i64 ko, .int .i64 no, .string so, .slice ao mo co] 54)) = wn := ⟨_, rfl⟩
           rw [ewn15] at hHeld HRg15 HSN15 HVO15 HSY15 ⊢
           clear ewn15 hab15 HEX15
           refine held_c 4 fun K hK => ?_
           refine step_append_k (by rfl) _ _ _ (by rfl) w32.heap.size 54 i0 (.agg #[.int .i64 0, .int .i64 0, .string ⟨#[]⟩, .slice none 0 0]) 4 56 Try.underlying52 hi0 hz0 hs0 (by decide) hb0 rfl (.slice xa i xc) i (ps.flatMap pCells) (by rfl) (by have h := HRg15.out.two.rx; unfold RowP at h; rw [HPL.out.1] at h; exact h) (some ⟨ab15, 0, none⟩) 1 1 [.int .i64 ko, .int .i64 no, .string so, .slice ao mo co] (by rfl) (by rfl) (Or.inr ⟨_, rfl, HSN15.out.cells⟩) (by simp [Value.oneCell']) (by unfold maxLen; omega) (by omega) HRg15.out.bel.size (i + 1) (ps.flatMap pCells ++ [.int .i64 ko, .int .i64 no, .string so, .slice ao mo co]) rfl rfl ?_
           intro na16 nc16 wn16 hown16 hgrow16 hat16
           have hpc16 : pCells (T1, .slice ao mo co) = [.int .i64 ko, .int .i64 no, .string so, .slice ao mo co] := by unfold pCells; rw [← HEK.out.1, ← HEK.out.2.1, ← HEK.out.2.2]
           have HEX16 := Lib.hid (HRg15.out.left hgrow16 hat16 (p := (T1, .slice ao mo co)) (by rw [HPL.out.1, hpc16]; exact hown16) (by rw [← HEP.out]; exact HVO15.out))
           have HSY16 := Lib.hid (HSY15.out.stay HEX16.out.2)
           have HRg16 := Lib.hid HEX16.out.1
           clear hpc16 hown16 hgrow16 hat16 HEX16
           refine hK.out _ _ (HRg16.out.held) (fun hHeld => ?_)
           clear hK K
           try simp only [Act.put, lay4]
           refine held_c 8 fun K hK => ?_
           refine step_append_k (by rfl) _ _ _ (by rfl) w32.heap.size 54 i0 (.agg #[.int .i64 0, .int .i64 0, .string ⟨#[]⟩, .slice none 0 0]) 4 56 Try.underlying52 hi0 hz0 hs0 (by decide) hb0 rfl (.slice ya i yc) i (qs.flatMap pCells) (by rfl) (by have h := HRg16.out.two.ry; unfold RowP at h; rw [HPL.out.2] at h; exact h) (some ⟨ab13, 0, none⟩) 1 1 [.int .i64 k7, .int .i64 n7, .string s7, .slice a7' m7 c7'] (by rfl) (by rfl) (Or.inr ⟨_, rfl, HSY16.out.cells⟩) (by simp [Value.oneCell']) (by unfold maxLen; omega) (by omega) HRg16.out.bel.size (i + 1) (qs.flatMap pCells ++ [.int .i64 k7, .int .i64 n7, .string s7, .slice a7' m7 c7']) rfl rfl ?_
           intro na17 nc17 wn17 hown17 hgrow17 hat17
           have hpc17 : pCells (T2, (Value.slice a7' m7 c7')) = [.int .i64 k7, .int .i64 n7, .string s7, .slice a7' m7 c7'] := by unfold pCells; rw [← HEKu.out.1, ← HEKu.out.2.1, ← HEKu.out.2.2]
           have HEX17 := Lib.hid (HRg16.out.right hgrow17 hat17 (p := (T2, (Value.slice a7' m7 c7'))) (by rw [HPL.out.2, hpc17]; exact hown17) (by rw [← HEPu.out]; exact HRg16.out.tU))
           have HRg17 := Lib.hid HEX17.out.1
           clear hpc17 hown17 hgrow17 hat17 HEX17
           refine hK.out _ _ (HRg17.out.held) (fun hHeld => ?_)
           clear hK K
           try simp only [Act.put, lay4]
           first | (refine held_t (i := 9) hHeld ?_; constructor; constructor; intro wq hq; focus ((try dsimp only at hq); go_simp; first | done | with_reducible rfl | fail)) | refine held_s (i := 9) hHeld ?_ | fail
           first | (refine held_t (i := 10) hHeld ?_; constructor; constructor; intro wq hq; focus ((try dsimp only at hq); go_simp; first | done | with_reducible rfl | fail)) | refine held_s (i := 10) hHeld ?_ | fail
           try simp only [Act.put, lay4]
           refine wpAnyH_done (by kernel_rfl) ?_ _
           have HLF := Lib.hid (And.intro HRg17.out.two HRg17.out.bel)
           have HPF := Lib.hid (show (ps ++ [(T1, Value.slice ao mo co)]).map (·.1) = ps.map (·.1) ++ [T1] ∧ (qs ++ [(T2, (Value.slice a7' m7 c7'))]).map (·.1) = qs.map (·.1) ++ [T2] from ⟨by simp, by simp⟩)
           clear hHeld
           have HPQ2 := Lib.hid (show (ps ++ [(T1, Value.slice ao mo co)]).map (·.1) = (args.take (i + 1)).map (subT (fullB S)) ∧ (qs ++ [(T2, Value.slice a7' m7 c7')]).map (·.1) = (args.take (i + 1)).map (subT (fullB r.set)) from by
            rw [HPF.out.1, HPF.out.2, HPQ.out.1, HPQ.out.2, HT12.out.1, HT12.out.2, HTY.out, List.map_append, List.map_append]
            exact ⟨rfl, rfl⟩)
           go_wp2
           go_roundw
           case rel => exact ⟨i + 1, nc16, nc17, na16, na17, _, _, him, by go_num, by go_num, by go_num, HPQ2, HLF⟩
           case measure => simp [RowKit.intOf]; omega
         ·have him2 : m = i := by omega
          subst him2
          have hmx : ¬ (m : Int) < m := by omega
          have HP1 := Lib.hid (show ps.map (·.1) = args.map (subT (fullB S)) ∧ qs.map (·.1) = args.map (subT (fullB r.set)) from by
           have h := HPQ.out
           rw [List.take_of_length_le (by rw [HM.out.2.1]; exact Nat.le_refl _)] at h
           exact h)
          have HW1 := Lib.hid HW.out
          clear HPQ HW
          go_upto_region 50 with fail
          go_wp2_with fail
          go_loopw [25, 26, 32] (fun vx vy z wr => ∃ (i z2 xc yc : Nat) (xa ya : Option Addr) (ps qs : List TmP), i ≤ K ∧ vx = .slice xa z2 xc ∧ vy = .slice ya z2 yc ∧ z = .int .i64 i ∧ Hid (z2 = m + i) ∧ Hid (ps.map (·.1) = args.map (subT (fullB S)) ++ (L.take i).map (subT (fullB S)) ∧ qs.map (·.1) = args.map (subT (fullB r.set)) ++ (List.range i).map (fun (k : Nat) => fullB r.set (8 + (k : Int)))) ∧ Hid (TwoRows w32.heap.size 54 wr (.slice xa z2 xc) (.slice ya z2 yc) ps qs ∧ Below w32.heap.size w32 wr)) (fun _ _ z _ => K - (RowKit.intOf z).toNat)
          case atStart => exact ⟨0, m, xc, yc, xa, ya, ps, qs, Nat.zero_le _, rfl, rfl, rfl, Lib.hid rfl, Lib.hid ⟨HP1.out.1.trans (List.append_nil _).symm, HP1.out.2.trans (List.append_nil _).symm⟩, HW1⟩
          case round =>
           obtain ⟨i, z2, xc, yc, xa, ya, ps, qs, hi, rfl, rfl, rfl, HZ2, HPQ, HW⟩ := hrel
           by_cases him : i < K
           ·obtain ⟨y, hy⟩ : ∃ y, L[i]? = some y := ⟨_, List.getElem?_eq_getElem (by rw [HLK.out]; exact him)⟩
            have HPL := Lib.hid (show ps.length = z2 ∧ qs.length = z2 from by
             have hl : (L.take i).length = i := by rw [List.length_take, HLK.out]; omega
             have h1 := congrArg List.length HPQ.out.1
             have h2 := congrArg List.length HPQ.out.2
             rw [List.length_map, List.length_append, List.length_map, List.length_map, hl, HM.out.2.1] at h1
             rw [List.length_map, List.length_append, List.length_map, List.length_map, List.length_range, HM.out.2.1] at h2
             have := HZ2.out
             omega)
            have HTY := Lib.hid (take_next hy)
            obtain ⟨b, off, k', n', s', u', rfl, hbb, _, _, _, c0, c1, c2, c3, _, ht⟩ := HT32.out.get hy
            have hun := Stays.unhide (awayB F1) w32
            have HTy := Lib.hid ht
            have HE := Lib.hid (fun (wq : World) (hb : Below w32.heap.size w32 wq) => And.intro (cell_later hb (hun.2 _ _ c0)) (And.intro (cell_later hb (hun.2 _ _ c1)) (And.intro (cell_later hb (hun.2 _ _ c2)) (cell_later hb (hun.2 _ _ c3)))))
            clear c0 c1 c2 c3 hun ht hy hbb
            obtain ⟨c0, c1, c2, c3⟩ := HE.out wr HW.out.2
            have C := Whole_at (HI32.out.rebase.ext HW.out.2) HTy.out
            obtain ⟨⟨T1, E1⟩, hw1⟩ : ∃ q, wholeB N1 R1 y = q := ⟨_, rfl⟩
            have HT1 := Lib.hid (show E1 = 0 → T1 = subT (fullB S) y from fun h => by have := whole_none15 (N := N1) (x := y) HS32.out (by rw [hw1]; exact h); rw [hw1] at this; exact this)
            rw [hw1] at C
            clear hw1
            dsimp only at C
            (go_wp2_with fail; go_fit (C); rintro e w41 ⟨r1, rfl, hr1, b41⟩)
            obtain ⟨k6, n6, s6, a6, m6, c6, rfl, f1, f2, f3, f4⟩ := four_of hr1
            have HR1 := Lib.hid hr1
            clear f1 f2 f3 f4 hr1 C c0 c1 c2 c3
            obtain ⟨w42, e42, b42, z42, X42⟩ := box_new w41 #[.int .i64 k6, .int .i64 n6, .string s6, .slice a6 m6 c6] 31
            obtain ⟨tb, htb⟩ : ∃ tb, w41.heap.size = tb := ⟨_, rfl⟩
            have HZ42 := Lib.hid (show wr.heap.size ≤ tb from by rw [← htb]; exact b41.size)
            rw [htb] at X42
            have HX42 := Lib.hid X42
            have HR42 := Lib.hid (TmV.later b42 HR1.out)
            have HB42 := Lib.hid (Ext.trans' b41 b42)
            clear X42 z42 b42 b41
            go_upto_region 53 with fail
            (try rw [e42])
            (try rw [htb])
            clear e42 htb
            have HB42' := Lib.hid (HW.out.2.trans (HB42.out.mono HW.out.2.size))
            have hk2 := HN2.out.2
            have hwr8 : IntKind.i64.wrap ((8 : Int) + (i : Int)) = 8 + (i : Int) := by rw [IntKind.wrap_i64]; omega
            have C := RWhole_at (HR32.out.ext HB42'.out).rebase (x := varV (8 + (i : Int))) (leaf_tm (hide (awayB F5) w42) i64_0 (by unfold I64; omega) (by unfold BIG; decide))
            obtain ⟨⟨T2, E2⟩, hw2⟩ : ∃ q, wholeB (8 + K) R5 (varV (8 + (i : Int))) = q := ⟨_, rfl⟩
            have HT2 := Lib.hid (show E2 = 0 → T2 = fullB r.set (8 + (i : Int)) from fun h => by
             have := whole_none15 (N := 8 + K) (x := varV (8 + (i : Int))) HRS.out (by rw [hw2]; exact h)
             rw [hw2, sub_varV] at this
             exact this)
            rw [hw2] at C
            dsimp only at C
            clear hw2
            (go_wp2_with fail; go_fit (C); rintro e w44 ⟨r2, rfl, hr2, b44⟩)
            obtain ⟨k7, n7, s7, a7', m7, c7', rfl, ek, en, es, ep⟩ := four_of hr2
            have HEPu := Lib.hid ep
            have HEKu := Lib.hid (And.intro ek (And.intro en es))
            have HR2 := Lib.hid hr2
            clear ek en es ep hr2 C
            obtain ⟨w46, e46, b46, z46, X46⟩ := box_new w44 #[.int .i64 k7, .int .i64 n7, .string s7, .slice a7' m7 c7'] 54
            obtain ⟨ub, hub⟩ : ∃ ub, w44.heap.size = ub := ⟨_, rfl⟩
            have hzu : wr.heap.size ≤ ub := by rw [← hub]; exact Nat.le_trans HB42.out.size b44.size
            rw [hub] at X46
            have hb46 := Ext.trans' b44 b46
            have HRg := Lib.hid (Rg.start HW.out.1 HW.out.2 (Ext.trans' HB42.out hb46) HZ42.out hzu (HX42.out.ext hb46) X46 (TmV.later hb46 HR42.out) (TmV.stay (Stays.less fun k hk => by
             have hk' : w42.heap.size ≤ k := by simpa using hk
             have := HB42.out.size
             simp
             omega) _ _ (TmV.later b46 HR2.out)))
            clear X46 z46 b46 b44 hb46 hzu
            go_upto_region 54 with fail
            (try rw [e46])
            (try rw [hub])
            clear e46 hub
            have HB46 := Lib.hid (Ext.trans' HB32.out HRg.out.bel)
            by_cases hE1 : E1 = 0
            rotate_left
            ·have hE1' : (E1 == 0) = false := by simpa using hE1
             go_wp2
             go_ret
             exact ⟨rfl, HB46.out⟩
            by_cases hE2 : E2 = 0
            rotate_left
            ·have hE2' : (E2 == 0) = false := by simpa using hE2
             subst hE1
             go_wp2
             go_ret
             exact ⟨rfl, HB46.out⟩
            have hT1 := HT1.out hE1
            have hT2 := HT2.out hE2
            subst hE1 hE2
            have HT12 := Lib.hid (And.intro hT1 hT2)
            clear hT1 hT2
            have hi8 : z2 ≤ 3000 := by have := HN2.out.1; have := HN2.out.2; have := HZ2.out; omega
            go_upto_region 56 with fail
            refine wp_region_held_drew (S := fun wq => (wq.cell? ⟨tb, 0, none⟩ = some ((.int .i64 k6)) ∧ wq.cell? ⟨tb, 1, none⟩ = some ((.int .i64 n6)) ∧ wq.cell? ⟨tb, 2, none⟩ = some ((.string s6)) ∧ wq.cell? ⟨tb, 3, none⟩ = some ((.slice a6 m6 c6))) ∧ (wq.cell? ⟨ub, 0, none⟩ = some (.int .i64 k7) ∧ wq.cell? ⟨ub, 1, none⟩ = some (.int .i64 n7) ∧ wq.cell? ⟨ub, 2, none⟩ = some (.string s7) ∧ wq.cell? ⟨ub, 3, none⟩ = some (.slice a7' m7 c7'))) (by kernel_rfl) ((HRg.out.ext (Below.refl _ _).drew).1.held) (fun hHeld => ?_)
            have HRg0 := Lib.hid (HRg.out.ext (Below.refl _ _).drew).1
            obtain ⟨wd, ewd⟩ : ∃ wd, w46.drew = wd := ⟨_, rfl⟩
            rw [ewd] at hHeld HRg0 ⊢
            clear ewd
            first | (refine held_t (i := 0) hHeld ?_; constructor; constructor; intro wq hq; focus ((try dsimp only at hq); go_simp; first | done | with_reducible rfl | fail)) | refine held_s (i := 0) hHeld ?_ | fail
            first | (refine held_t (i := 1) hHeld ?_; constructor; constructor; intro wq hq; focus ((try dsimp only at hq); go_simp; first | done | with_reducible rfl | fail)) | refine held_s (i := 1) hHeld ?_ | fail
            first | (refine held_t (i := 5) hHeld ?_; constructor; constructor; intro wq hq; focus ((try dsimp only at hq); go_simp; first | done | with_reducible rfl | fail)) | refine held_s (i := 5) hHeld ?_ | fail
            first | (refine held_t (i := 6) hHeld ?_; constructor; constructor; intro wq hq; focus ((try dsimp only at hq); go_simp; first | done | with_reducible rfl | fail)) | refine held_s (i := 6) hHeld ?_ | fail
            try simp only [Act.put, lay4]
            refine wpAnyH_ready (rs := [2, 7]) (by kernel_rfl) (by simp) ?_
            refine AllReadyH.cons (by simp only [ops3]; rfl) (fun K hK => ?_) (AllReadyH.cons (by simp only [ops3]; rfl) (fun K hK => ?_) AllReadyH.nil)
            ·go_simp
             go_at_call 29; refine (own15_at T1 (twoB (.slice xa z2 xc) (.slice ya z2 yc)) wd _ HRg0.out.two.old (TmV.stay (Stays.unhide _ _) _ _ HRg0.out.tT)).mono ?_; rintro e wn1 ⟨vo, rfl, hvo, hbo1⟩
             obtain ⟨ko, no, so, ao, mo, co, rfl, ek, en, es, ep⟩ := four_of hvo
             have HEP := Lib.hid ep; have HEK := Lib.hid (And.intro ek (And.intro en es)); have HEX1 := Lib.hid (HRg0.out.ext hbo1)
             have HVO1 := Lib.hid hvo
             have HRg1 := Lib.hid HEX1.out.1
             clear ek en es ep hvo hbo1 HEX1
             refine hK.out _ _ (HRg1.out.held) (fun hHeld => ?_)
             clear hK K
             try simp only [Act.put, lay4]
             refine wpAnyH_ready (rs := [3, 7]) (by kernel_rfl) (by simp) ?_
             refine AllReadyH.cons (by simp only [ops3]; rfl) (fun K hK => ?_) (AllReadyH.cons (by simp only [ops3]; rfl) (fun K hK => ?_) AllReadyH.nil)
             ·go_simp
              have HEX2 := Lib.hid (HRg1.out.ext (bel1' wn1 (.cells #[.int .i64 ko, .int .i64 no, .string so, .slice ao mo co] 54)))
              have HSN2 := Lib.hid (Src.new HRg1.out.two.old (.int .i64 ko) (.int .i64 no) (.string so) (.slice ao mo co) 54)
              have HVO2 := Lib.hid (TmV.stay HEX2.out.2 _ _ HVO1.out)
              have HRg2 := Lib.hid HEX2.out.1
              refine hK.out _ _ (HRg2.out.held) (fun hHeld => ?_)
              clear hK K
              try simp only [Act.put, lay4]
              obtain ⟨ab2, hab2⟩ : ∃ ab, wn1.heap.size = ab := ⟨_, rfl⟩
              rw [hab2] at HSN2 ⊢
              obtain ⟨wn2, ewn2⟩ : ∃ wn, (wn1.alloc (.cells #[.int .i64 ko, .int .i64 no, .string so, .slice ao mo co] 54)) = wn := ⟨_, rfl⟩
              rw [ewn2] at hHeld HRg2 HSN2 HVO2 ⊢
              clear ewn2 hab2 HEX2
              refine wpAnyH_ready (rs := [4, 7]) (by kernel_rfl) (by simp) ?_
              refine AllReadyH.cons (by simp only [ops3]; rfl) (fun K hK => ?_) (AllReadyH.cons (by simp only [ops3]; rfl) (fun K hK => ?_) AllReadyH.nil)
              ·refine step_append_k (by rfl) _ _ _ (by rfl) w32.heap.size 54 i0 (.agg #[.int .i64 0, .int .i64 0, .string ⟨#[]⟩, .slice none 0 0]) 4 56 Try.underlying52 hi0 hz0 hs0 (by decide) hb0 rfl (.slice xa z2 xc) z2 (ps.flatMap pCells) (by rfl) (by have h := HRg2.out.two.rx; unfold RowP at h; rw [HPL.out.1] at h; exact h) (some ⟨ab2, 0, none⟩) 1 1 [.int .i64 ko, .int .i64 no, .string so, .slice ao mo co] (by rfl) (by rfl) (Or.inr ⟨_, rfl, HSN2.out.cells⟩) (by simp [Value.oneCell']) (by unfold maxLen; omega) (by omega) HRg2.out.bel.size (z2 + 1) (ps.flatMap pCells ++ [.int .i64 ko, .int .i64 no, .string so, .slice ao mo co]) rfl rfl ?_
               intro na3 nc3 wn3 hown3 hgrow3 hat3
               have hpc3 : pCells (T1, .slice ao mo co) = [.int .i64 ko, .int .i64 no, .string so, .slice ao mo co] := by unfold pCells; rw [← HEK.out.1, ← HEK.out.2.1, ← HEK.out.2.2]
               have HEX3 := Lib.hid (HRg2.out.left hgrow3 hat3 (p := (T1, .slice ao mo co)) (by rw [HPL.out.1, hpc3]; exact hown3) (by rw [← HEP.out]; exact HVO2.out))
               have HRg3 := Lib.hid HEX3.out.1
               clear hpc3 hown3 hgrow3 hat3 HEX3
               refine hK.out _ _ (HRg3.out.held) (fun hHeld => ?_)
               clear hK K
               try simp only [Act.put, lay4]
               refine held_c 7 fun K hK => ?_
               go_simp
               have HEX4 := Lib.hid (HRg3.out.ext (bel1' wn3 (.cells #[.int .i64 k7, .int .i64 n7, .string s7, .slice a7' m7 c7'] 54)))
               have HSN4 := Lib.hid (Src.new HRg3.out.two.old (.int .i64 k7) (.int .i64 n7) (.string s7) (.slice a7' m7 c7') 54)
               have HRg4 := Lib.hid HEX4.out.1
               refine hK.out _ _ (HRg4.out.held) (fun hHeld => ?_)
               clear hK K
               try simp only [Act.put, lay4]
               obtain ⟨ab4, hab4⟩ : ∃ ab, wn3.heap.size = ab := ⟨_, rfl⟩
               rw [hab4] at HSN4 ⊢
               obtain ⟨wn4, ewn4⟩ : ∃ wn, (wn3.alloc (.cells #[.int .i64 k7, .int .i64 n7, .string s7, .slice a7' m7 c7'] 54)) = wn := ⟨_, rfl⟩
               rw [ewn4] at hHeld HRg4 HSN4 ⊢
               clear ewn4 hab4 HEX4
               refine held_c 8 fun K hK => ?_
               refine step_append_k (by rfl) _ _ _ (by rfl) w32.heap.size 54 i0 (.agg #[.int .i64 0, .int .i64 0, .string ⟨#[]⟩, .slice none 0 0]) 4 56 Try.underlying52 hi0 hz0 hs0 (by decide) hb0 rfl (.slice ya z2 yc) z2 (qs.flatMap pCells) (by rfl) (by have h := HRg4.out.two.ry; unfold RowP at h; rw [HPL.out.2] at h; exact h) (some ⟨ab4, 0, none⟩) 1 1 [.int .i64 k7, .int .i64 n7, .string s7, .slice a7' m7 c7'] (by rfl) (by rfl) (Or.inr ⟨_, rfl, HSN4.out.cells⟩) (by simp [Value.oneCell']) (by unfold maxLen; omega) (by omega) HRg4.out.bel.size (z2 + 1) (qs.flatMap pCells ++ [.int .i64 k7, .int .i64 n7, .string s7, .slice a7' m7 c7']) rfl rfl ?_
               intro na5 nc5 wn5 hown5 hgrow5 hat5
               have hpc5 : pCells (T2, (Value.slice a7' m7 c7')) = [.int .i64 k7, .int .i64 n7, .string s7, .slice a7' m7 c7'] := by unfold pCells; rw [← HEKu.out.1, ← HEKu.out.2.1, ← HEKu.out.2.2]
               have HEX5 := Lib.hid (HRg4.out.right hgrow5 hat5 (p := (T2, (Value.slice a7' m7 c7'))) (by rw [HPL.out.2, hpc5]; exact hown5) (by rw [← HEPu.out]; exact HRg4.out.tU))
               have HRg5 := Lib.hid HEX5.out.1
               clear hpc5 hown5 hgrow5 hat5 HEX5
               refine hK.out _ _ (HRg5.out.held) (fun hHeld => ?_)
               clear hK K
               try simp only [Act.put, lay4]
               first | (refine held_t (i := 9) hHeld ?_; constructor; constructor; intro wq hq; focus ((try dsimp only at hq); go_simp; first | done | with_reducible rfl | fail)) | refine held_s (i := 9) hHeld ?_ | fail
               first | (refine held_t (i := 10) hHeld ?_; constructor; constructor; intro wq hq; focus ((try dsimp only at hq); go_simp; first | done | with_reducible rfl | fail)) | refine held_s (i := 10) hHeld ?_ | fail
               try simp only [Act.put, lay4]
               refine wpAnyH_done (by kernel_rfl) ?_ _
               have HLF := Lib.hid (And.intro HRg5.out.two HRg5.out.bel)
               have HPF := Lib.hid (show (ps ++ [(T1, Value.slice ao mo co)]).map (·.1) = ps.map (·.1) ++ [T1] ∧ (qs ++ [(T2, (Value.slice a7' m7 c7'))]).map (·.1) = qs.map (·.1) ++ [T2] from ⟨by simp, by simp⟩)
               clear hHeld
               have HPQ2 := Lib.hid (show (ps ++ [(T1, Value.slice ao mo co)]).map (·.1) = args.map (subT (fullB S)) ++ (L.take (i + 1)).map (subT (fullB S)) ∧ (qs ++ [(T2, Value.slice a7' m7 c7')]).map (·.1) = args.map (subT (fullB r.set)) ++ (List.range (i + 1)).map (fun (k : Nat) => fullB r.set (8 + (k : Int))) from by
                rw [HPF.out.1, HPF.out.2, HPQ.out.1, HPQ.out.2, HT12.out.1, HT12.out.2, HTY.out, List.range_succ, List.map_append (l₁ := L.take i), List.map_append (l₁ := List.range i), List.append_assoc, List.append_assoc]
                exact ⟨rfl, rfl⟩)
               have HZ3 := Lib.hid (show z2 + 1 = m + (i + 1) from by have := HZ2.out; omega)
               go_wp2
               go_roundw
               case rel => exact ⟨i + 1, z2 + 1, nc3, nc5, na3, na5, _, _, him, by go_num, by go_num, by go_num, HZ3, HPQ2, HLF⟩
               case measure => simp [RowKit.intOf]; omega
              ·go_simp
               have HEX6 := Lib.hid (HRg2.out.ext (bel1' wn2 (.cells #[.int .i64 k7, .int .i64 n7, .string s7, .slice a7' m7 c7'] 54)))
               have HSN6 := Lib.hid (Src.new HRg2.out.two.old (.int .i64 k7) (.int .i64 n7) (.string s7) (.slice a7' m7 c7') 54)
               have HVO6 := Lib.hid (TmV.stay HEX6.out.2 _ _ HVO2.out)
               have HSX6 := Lib.hid (HSN2.out.stay HEX6.out.2)
               have HRg6 := Lib.hid HEX6.out.1
               refine hK.out _ _ (HRg6.out.held) (fun hHeld => ?_)
               clear hK K
               try simp only [Act.put, lay4]
               obtain ⟨ab6, hab6⟩ : ∃ ab, wn2.heap.size = ab := ⟨_, rfl⟩
               rw [hab6] at HSN6 ⊢
               obtain ⟨wn6, ewn6⟩ : ∃ wn, (wn2.alloc (.cells #[.int .i64 k7, .int .i64 n7, .string s7, .slice a7' m7 c7'] 54)) = wn := ⟨_, rfl⟩
               rw [ewn6] at hHeld HRg6 HSN6 HVO6 HSX6 ⊢
               clear ewn6 hab6 HEX6
               refine held_c 4 fun K hK => ?_
               refine step_append_k (by rfl) _ _ _ (by rfl) w32.heap.size 54 i0 (.agg #[.int .i64 0, .int .i64 0, .string ⟨#[]⟩, .slice none 0 0]) 4 56 Try.underlying52 hi0 hz0 hs0 (by decide) hb0 rfl (.slice xa z2 xc) z2 (ps.flatMap pCells) (by rfl) (by have h := HRg6.out.two.rx; unfold RowP at h; rw [HPL.out.1] at h; exact h) (some ⟨ab2, 0, none⟩) 1 1 [.int .i64 ko, .int .i64 no, .string so, .slice ao mo co] (by rfl) (by rfl) (Or.inr ⟨_, rfl, HSX6.out.cells⟩) (by simp [Value.oneCell']) (by unfold maxLen; omega) (by omega) HRg6.out.bel.size (z2 + 1) (ps.flatMap pCells ++ [.int .i64 ko, .int .i64 no, .string so, .slice ao mo co]) rfl rfl ?_
               intro na7 nc7 wn7 hown7 hgrow7 hat7
               have hpc7 : pCells (T1, .slice ao mo co) = [.int .i64 ko, .int .i64 no, .string so, .slice ao mo co] := by unfold pCells; rw [← HEK.out.1, ← HEK.out.2.1, ← HEK.out.2.2]
               have HEX7 := Lib.hid (HRg6.out.left hgrow7 hat7 (p := (T1, .slice ao mo co)) (by rw [HPL.out.1, hpc7]; exact hown7) (by rw [← HEP.out]; exact HVO6.out))
               have HSY7 := Lib.hid (HSN6.out.stay HEX7.out.2)
               have HRg7 := Lib.hid HEX7.out.1
               clear hpc7 hown7 hgrow7 hat7 HEX7
               refine hK.out _ _ (HRg7.out.held) (fun hHeld => ?_)
               clear hK K
               try simp only [Act.put, lay4]
               refine held_c 8 fun K hK => ?_
               refine step_append_k (by rfl) _ _ _ (by rfl) w32.heap.size 54 i0 (.agg #[.int .i64 0, .int .i64 0, .string ⟨#[]⟩, .slice none 0 0]) 4 56 Try.underlying52 hi0 hz0 hs0 (by decide) hb0 rfl (.slice ya z2 yc) z2 (qs.flatMap pCells) (by rfl) (by have h := HRg7.out.two.ry; unfold RowP at h; rw [HPL.out.2] at h; exact h) (some ⟨ab6, 0, none⟩) 1 1 [.int .i64 k7, .int .i64 n7, .string s7, .slice a7' m7 c7'] (by rfl) (by rfl) (Or.inr ⟨_, rfl, HSY7.out.cells⟩) (by simp [Value.oneCell']) (by unfold maxLen; omega) (by omega) HRg7.out.bel.size (z2 + 1) (qs.flatMap pCells ++ [.int .i64 k7, .int .i64 n7, .string s7, .slice a7' m7 c7']) rfl rfl ?_
               intro na8 nc8 wn8 hown8 hgrow8 hat8
               have hpc8 : pCells (T2, (Value.slice a7' m7 c7')) = [.int .i64 k7, .int .i64 n7, .string s7, .slice a7' m7 c7'] := by unfold pCells; rw [← HEKu.out.1, ← HEKu.out.2.1, ← HEKu.out.2.2]
               have HEX8 := Lib.hid (HRg7.out.right hgrow8 hat8 (p := (T2, (Value.slice a7' m7 c7'))) (by rw [HPL.out.2, hpc8]; exact hown8) (by rw [← HEPu.out]; exact HRg7.out.tU))
               have HRg8 := Lib.hid HEX8.out.1
               clear hpc8 hown8 hgrow8 hat8 HEX8
               refine hK.out _ _ (HRg8.out.held) (fun hHeld => ?_)
               clear hK K
               try simp only [Act.put, lay4]
               first | (refine held_t (i := 9) hHeld ?_; constructor; constructor; intro wq hq; focus ((try dsimp only at hq); go_simp; first | done | with_reducible rfl | fail)) | refine held_s (i := 9) hHeld ?_ | fail
               first | (refine held_t (i := 10) hHeld ?_; constructor; constructor; intro wq hq; focus ((try dsimp only at hq); go_simp; first | done | with_reducible rfl | fail)) | refine held_s (i := 10) hHeld ?_ | fail
               try simp only [Act.put, lay4]
               refine wpAnyH_done (by kernel_rfl) ?_ _
               have HLF := Lib.hid (And.intro HRg8.out.two HRg8.out.bel)
               have HPF := Lib.hid (show (ps ++ [(T1, Value.slice ao mo co)]).map (·.1) = ps.map (·.1) ++ [T1] ∧ (qs ++ [(T2, (Value.slice a7' m7 c7'))]).map (·.1) = qs.map (·.1) ++ [T2] from ⟨by simp, by simp⟩)
               clear hHeld
               have HPQ2 := Lib.hid (show (ps ++ [(T1, Value.slice ao mo co)]).map (·.1) = args.map (subT (fullB S)) ++ (L.take (i + 1)).map (subT (fullB S)) ∧ (qs ++ [(T2, Value.slice a7' m7 c7')]).map (·.1) = args.map (subT (fullB r.set)) ++ (List.range (i + 1)).map (fun (k : Nat) => fullB r.set (8 + (k : Int))) from by
                rw [HPF.out.1, HPF.out.2, HPQ.out.1, HPQ.out.2, HT12.out.1, HT12.out.2, HTY.out, List.range_succ, List.map_append (l₁ := L.take i), List.map_append (l₁ := List.range i), List.append_assoc, List.append_assoc]
                exact ⟨rfl, rfl⟩)
               have HZ3 := Lib.hid (show z2 + 1 = m + (i + 1) from by have := HZ2.out; omega)
               go_wp2
               go_roundw
               case rel => exact ⟨i + 1, z2 + 1, nc7, nc8, na7, na8, _, _, him, by go_num, by go_num, by go_num, HZ3, HPQ2, HLF⟩
               case measure => simp [RowKit.intOf]; omega
             ·go_simp
              have HEX9 := Lib.hid (HRg1.out.ext (bel1' wn1 (.cells #[.int .i64 k7, .int .i64 n7, .string s7, .slice a7' m7 c7'] 54)))
              have HSN9 := Lib.hid (Src.new HRg1.out.two.old (.int .i64 k7) (.int .i64 n7) (.string s7) (.slice a7' m7 c7') 54)
              have HVO9 := Lib.hid (TmV.stay HEX9.out.2 _ _ HVO1.out)
              have HRg9 := Lib.hid HEX9.out.1
              refine hK.out _ _ (HRg9.out.held) (fun hHeld => ?_)
              clear hK K
              try simp only [Act.put, lay4]
              obtain ⟨ab9, hab9⟩ : ∃ ab, wn1.heap.size = ab := ⟨_, rfl⟩
              rw [hab9] at HSN9 ⊢
              obtain ⟨wn9, ewn9⟩ : ∃ wn, (wn1.alloc (.cells #[.int .i64 k7, .int .i64 n7, .string s7, .slice a7' m7 c7'] 54)) = wn := ⟨_, rfl⟩
              rw [ewn9] at hHeld HRg9 HSN9 HVO9 ⊢
              clear ewn9 hab9 HEX9
              refine held_c 3 fun K hK => ?_
              go_simp
              have HEX10 := Lib.hid (HRg9.out.ext (bel1' wn9 (.cells #[.int .i64 ko, .int .i64 no, .string so, .slice ao mo co] 54)))
              have HSN10 := Lib.hid (Src.new HRg9.out.two.old (.int .i64 ko) (.int .i64 no) (.string so) (.slice ao mo co) 54)
              have HVO10 := Lib.hid (TmV.stay HEX10.out.2 _ _ HVO9.out)
              have HSY10 := Lib.hid (HSN9.out.stay HEX10.out.2)
              have HRg10 := Lib.hid HEX10.out.1
              refine hK.out _ _ (HRg10.out.held) (fun hHeld => ?_)
              clear hK K
              try simp only [Act.put, lay4]
              obtain ⟨ab10, hab10⟩ : ∃ ab, wn9.heap.size = ab := ⟨_, rfl⟩
              rw [hab10] at HSN10 ⊢
              obtain ⟨wn10, ewn10⟩ : ∃ wn, (wn9.alloc (.cells #[.int .i64 ko, .int .i64 no, .string so, .slice ao mo co] 54)) = wn := ⟨_, rfl⟩
              rw [ewn10] at hHeld HRg10 HSN10 HVO10 HSY10 ⊢
              clear ewn10 hab10 HEX10
              refine held_c 4 fun K hK => ?_
              refine step_append_k (by rfl) _ _ _ (by rfl) w32.heap.size 54 i0 (.agg #[.int .i64 0, .int .i64 0, .string ⟨#[]⟩, .slice none 0 0]) 4 56 Try.underlying52 hi0 hz0 hs0 (by decide) hb0 rfl (.slice xa z2 xc) z2 (ps.flatMap pCells) (by rfl) (by have h := HRg10.out.two.rx; unfold RowP at h; rw [HPL.out.1] at h; exact h) (some ⟨ab10, 0, none⟩) 1 1 [.int .i64 ko, .int .i64 no, .string so, .slice ao mo co] (by rfl) (by rfl) (Or.inr ⟨_, rfl, HSN10.out.cells⟩) (by simp [Value.oneCell']) (by unfold maxLen; omega) (by omega) HRg10.out.bel.size (z2 + 1) (ps.flatMap pCells ++ [.int .i64 ko, .int .i64 no, .string so, .slice ao mo co]) rfl rfl ?_
              intro na11 nc11 wn11 hown11 hgrow11 hat11
              have hpc11 : pCells (T1, .slice ao mo co) = [.int .i64 ko, .int .i64 no, .string so, .slice ao mo co] := by unfold pCells; rw [← HEK.out.1, ← HEK.out.2.1, ← HEK.out.2.2]
              have HEX11 := Lib.hid (HRg10.out.left hgrow11 hat11 (p := (T1, .slice ao mo co)) (by rw [HPL.out.1, hpc11]; exact hown11) (by rw [← HEP.out]; exact HVO10.out))
              have HSY11 := Lib.hid (HSY10.out.stay HEX11.out.2)
              have HRg11 := Lib.hid HEX11.out.1
              clear hpc11 hown11 hgrow11 hat11 HEX11
              refine hK.out _ _ (HRg11.out.held) (fun hHeld => ?_)
              clear hK K
              try simp only [Act.put, lay4]
              refine held_c 8 fun K hK => ?_
              refine step_append_k (by rfl) _ _ _ (by rfl) w32.heap.size 54 i0 (.agg #[.int .i64 0, .int .i64 0, .string ⟨#[]⟩, .slice none 0 0]) 4 56 Try.underlying52 hi0 hz0 hs0 (by decide) hb0 rfl (.slice ya z2 yc) z2 (qs.flatMap pCells) (by rfl) (by have h := HRg11.out.two.ry; unfold RowP at h; rw [HPL.out.2] at h; exact h) (some ⟨ab9, 0, none⟩) 1 1 [.int .i64 k7, .int .i64 n7, .string s7, .slice a7' m7 c7'] (by rfl) (by rfl) (Or.inr ⟨_, rfl, HSY11.out.cells⟩) (by simp [Value.oneCell']) (by unfold maxLen; omega) (by omega) HRg11.out.bel.size (z2 + 1) (qs.flatMap pCells ++ [.int .i64 k7, .int .i64 n7, .string s7, .slice a7' m7 c7']) rfl rfl ?_
              intro na12 nc12 wn12 hown12 hgrow12 hat12
              have hpc12 : pCells (T2, (Value.slice a7' m7 c7')) = [.int .i64 k7, .int .i64 n7, .string s7, .slice a7' m7 c7'] := by unfold pCells; rw [← HEKu.out.1, ← HEKu.out.2.1, ← HEKu.out.2.2]
              have HEX12 := Lib.hid (HRg11.out.right hgrow12 hat12 (p := (T2, (Value.slice a7' m7 c7'))) (by rw [HPL.out.2, hpc12]; exact hown12) (by rw [← HEPu.out]; exact HRg11.out.tU))
              have HRg12 := Lib.hid HEX12.out.1
              clear hpc12 hown12 hgrow12 hat12 HEX12
              refine hK.out _ _ (HRg12.out.held) (fun hHeld => ?_)
              clear hK K
              try simp only [Act.put, lay4]
              first | (refine held_t (i := 9) hHeld ?_; constructor; constructor; intro wq hq; focus ((try dsimp only at hq); go_simp; first | done | with_reducible rfl | fail)) | refine held_s (i := 9) hHeld ?_ | fail
              first | (refine held_t (i := 10) hHeld ?_; constructor; constructor; intro wq hq; focus ((try dsimp only at hq); go_simp; first | done | with_reducible rfl | fail)) | refine held_s (i := 10) hHeld ?_ | fail
              try simp only [Act.put, lay4]
              refine wpAnyH_done (by kernel_rfl) ?_ _
              have HLF := Lib.hid (And.intro HRg12.out.two HRg12.out.bel)
              have HPF := Lib.hid (show (ps ++ [(T1, Value.slice ao mo co)]).map (·.1) = ps.map (·.1) ++ [T1] ∧ (qs ++ [(T2, (Value.slice a7' m7 c7'))]).map (·.1) = qs.map (·.1) ++ [T2] from ⟨by simp, by simp⟩)
              clear hHeld
              have HPQ2 := Lib.hid (show (ps ++ [(T1, Value.slice ao mo co)]).map (·.1) = args.map (subT (fullB S)) ++ (L.take (i + 1)).map (subT (fullB S)) ∧ (qs ++ [(T2, Value.slice a7' m7 c7')]).map (·.1) = args.map (subT (fullB r.set)) ++ (List.range (i + 1)).map (fun (k : Nat) => fullB r.set (8 + (k : Int))) from by
               rw [HPF.out.1, HPF.out.2, HPQ.out.1, HPQ.out.2, HT12.out.1, HT12.out.2, HTY.out, List.range_succ, List.map_append (l₁ := L.take i), List.map_append (l₁ := List.range i), List.append_assoc, List.append_assoc]
               exact ⟨rfl, rfl⟩)
              have HZ3 := Lib.hid (show z2 + 1 = m + (i + 1) from by have := HZ2.out; omega)
              go_wp2
              go_roundw
              case rel => exact ⟨i + 1, z2 + 1, nc11, nc12, na11, na12, _, _, him, by go_num, by go_num, by go_num, HZ3, HPQ2, HLF⟩
              case measure => simp [RowKit.intOf]; omega
            ·go_simp
             have HEX13 := Lib.hid (HRg0.out.ext (bel1' wd (.cells #[.int .i64 k7, .int .i64 n7, .string s7, .slice a7' m7 c7'] 54)))
             have HSN13 := Lib.hid (Src.new HRg0.out.two.old (.int .i64 k7) (.int .i64 n7) (.string s7) (.slice a7' m7 c7') 54)
             have HRg13 := Lib.hid HEX13.out.1
             refine hK.out _ _ (HRg13.out.held) (fun hHeld => ?_)
             clear hK K
             try simp only [Act.put, lay4]
             obtain ⟨ab13, hab13⟩ : ∃ ab, wd.heap.size = ab := ⟨_, rfl⟩
             rw [hab13] at HSN13 ⊢
             obtain ⟨wn13, ewn13⟩ : ∃ wn, (wd.alloc (.cells #[.int .i64 k7, .int .i64 n7, .string s7, .slice a7' m7 c7'] 54)) = wn := ⟨_, rfl⟩
             rw [ewn13] at hHeld HRg13 HSN13 ⊢
             clear ewn13 hab13 HEX13
             refine held_c 2 fun K hK => ?_
             go_simp
             go_at_call 29; refine (own15_at T1 (twoB (.slice xa z2 xc) (.slice ya z2 yc)) wn13 _ HRg13.out.two.old (TmV.stay (Stays.unhide _ _) _ _ HRg13.out.tT)).mono ?_; rintro e wn14 ⟨vo, rfl, hvo, hbo14⟩
             obtain ⟨ko, no, so, ao, mo, co, rfl, ek, en, es, ep⟩ := four_of hvo
             have HEP := Lib.hid ep; have HEK := Lib.hid (And.intro ek (And.intro en es)); have HEX14 := Lib.hid (HRg13.out.ext hbo14)
             have HSY14 := Lib.hid (HSN13.out.stay HEX14.out.2)
             have HVO14 := Lib.hid hvo
             have HRg14 := Lib.hid HEX14.out.1
             clear ek en es ep hvo hbo14 HEX14
             refine hK.out _ _ (HRg14.out.held) (fun hHeld => ?_)
             clear hK K
             try simp only [Act.put, lay4]
             refine held_c 3 fun K hK => ?_
             go_simp
             have HEX15 := Lib.hid (HRg14.out.ext (bel1' wn14 (.cells #[.int .i64 ko, .int .i64 no, .string so, .slice ao mo co] 54)))
             have HSN15 := Lib.hid (Src.new HRg14.out.two.old (.int .i64 ko) (.int .i64 no) (.string so) (.slice ao mo co) 54)
             have HVO15 := Lib.hid (TmV.stay HEX15.out.2 _ _ HVO14.out)
             have HSY15 := Lib.hid (HSY14.out.stay HEX15.out.2)
             have HRg15 := Lib.hid HEX15.out.1
             refine hK.out _ _ (HRg15.out.held) (fun hHeld => ?_)
             clear hK K
             try simp only [Act.put, lay4]
             obtain ⟨ab15, hab15⟩ : ∃ ab, wn14.heap.size = ab := ⟨_, rfl⟩
             rw [hab15] at HSN15 ⊢
             obtain ⟨wn15, ewn15⟩ : ∃ wn, (wn14.alloc (.cells #[.int .i64 ko, .int .i64 no, .string so, .slice ao mo co] 54)) = wn := ⟨_, rfl⟩
             rw [ewn15] at hHeld HRg15 HSN15 HVO15 HSY15 ⊢
             clear ewn15 hab15 HEX15
             refine held_c 4 fun K hK => ?_
             refine step_append_k (by rfl) _ _ _ (by rfl) w32.heap.size 54 i0 (.agg #[.int .i64 0, .int .i64 0, .string ⟨#[]⟩, .slice none 0 0]) 4 56 Try.underlying52 hi0 hz0 hs0 (by decide) hb0 rfl (.slice xa z2 xc) z2 (ps.flatMap pCells) (by rfl) (by have h := HRg15.out.two.rx; unfold RowP at h; rw [HPL.out.1] at h; exact h) (some ⟨ab15, 0, none⟩) 1 1 [.int .i64 ko, .int .i64 no, .string so, .slice ao mo co] (by rfl) (by rfl) (Or.inr ⟨_, rfl, HSN15.out.cells⟩) (by simp [Value.oneCell']) (by unfold maxLen; omega) (by omega) HRg15.out.bel.size (z2 + 1) (ps.flatMap pCells ++ [.int .i64 ko, .int .i64 no, .string so, .slice ao mo co]) rfl rfl ?_
             intro na16 nc16 wn16 hown16 hgrow16 hat16
             have hpc16 : pCells (T1, .slice ao mo co) = [.int .i64 ko, .int .i64 no, .string so, .slice ao mo co] := by unfold pCells; rw [← HEK.out.1, ← HEK.out.2.1, ← HEK.out.2.2]
             have HEX16 := Lib.hid (HRg15.out.left hgrow16 hat16 (p := (T1, .slice ao mo co)) (by rw [HPL.out.1, hpc16]; exact hown16) (by rw [← HEP.out]; exact HVO15.out))
             have HSY16 := Lib.hid (HSY15.out.stay HEX16.out.2)
             have HRg16 := Lib.hid HEX16.out.1
             clear hpc16 hown16 hgrow16 hat16 HEX16
             refine hK.out _ _ (HRg16.out.held) (fun hHeld => ?_)
             clear hK K
             try simp only [Act.put, lay4]
             refine held_c 8 fun K hK => ?_
             refine step_append_k (by rfl) _ _ _ (by rfl) w32.heap.size 54 i0 (.agg #[.int .i64 0, .int .i64 0, .string ⟨#[]⟩, .slice none 0 0]) 4 56 Try.underlying52 hi0 hz0 hs0 (by decide) hb0 rfl (.slice ya z2 yc) z2 (qs.flatMap pCells) (by rfl) (by have h := HRg16.out.two.ry; unfold RowP at h; rw [HPL.out.2] at h; exact h) (some ⟨ab13, 0, none⟩) 1 1 [.int .i64 k7, .int .i64 n7, .string s7, .slice a7' m7 c7'] (by rfl) (by rfl) (Or.inr ⟨_, rfl, HSY16.out.cells⟩) (by simp [Value.oneCell']) (by unfold maxLen; omega) (by omega) HRg16.out.bel.size (z2 + 1) (qs.flatMap pCells ++ [.int .i64 k7, .int .i64 n7, .string s7, .slice a7' m7 c7']) rfl rfl ?_
             intro na17 nc17 wn17 hown17 hgrow17 hat17
             have hpc17 : pCells (T2, (Value.slice a7' m7 c7')) = [.int .i64 k7, .int .i64 n7, .string s7, .slice a7' m7 c7'] := by unfold pCells; rw [← HEKu.out.1, ← HEKu.out.2.1, ← HEKu.out.2.2]
             have HEX17 := Lib.hid (HRg16.out.right hgrow17 hat17 (p := (T2, (Value.slice a7' m7 c7'))) (by rw [HPL.out.2, hpc17]; exact hown17) (by rw [← HEPu.out]; exact HRg16.out.tU))
             have HRg17 := Lib.hid HEX17.out.1
             clear hpc17 hown17 hgrow17 hat17 HEX17
             refine hK.out _ _ (HRg17.out.held) (fun hHeld => ?_)
             clear hK K
             try simp only [Act.put, lay4]
             first | (refine held_t (i := 9) hHeld ?_; constructor; constructor; intro wq hq; focus ((try dsimp only at hq); go_simp; first | done | with_reducible rfl | fail)) | refine held_s (i := 9) hHeld ?_ | fail
             first | (refine held_t (i := 10) hHeld ?_; constructor; constructor; intro wq hq; focus ((try dsimp only at hq); go_simp; first | done | with_reducible rfl | fail)) | refine held_s (i := 10) hHeld ?_ | fail
             try simp only [Act.put, lay4]
             refine wpAnyH_done (by kernel_rfl) ?_ _
             have HLF := Lib.hid (And.intro HRg17.out.two HRg17.out.bel)
             have HPF := Lib.hid (show (ps ++ [(T1, Value.slice ao mo co)]).map (·.1) = ps.map (·.1) ++ [T1] ∧ (qs ++ [(T2, (Value.slice a7' m7 c7'))]).map (·.1) = qs.map (·.1) ++ [T2] from ⟨by simp, by simp⟩)
             clear hHeld
             have HPQ2 := Lib.hid (show (ps ++ [(T1, Value.slice ao mo co)]).map (·.1) = args.map (subT (fullB S)) ++ (L.take (i + 1)).map (subT (fullB S)) ∧ (qs ++ [(T2, Value.slice a7' m7 c7')]).map (·.1) = args.map (subT (fullB r.set)) ++ (List.range (i + 1)).map (fun (k : Nat) => fullB r.set (8 + (k : Int))) from by
              rw [HPF.out.1, HPF.out.2, HPQ.out.1, HPQ.out.2, HT12.out.1, HT12.out.2, HTY.out, List.range_succ, List.map_append (l₁ := L.take i), List.map_append (l₁ := List.range i), List.append_assoc, List.append_assoc]
              exact ⟨rfl, rfl⟩)
             have HZ3 := Lib.hid (show z2 + 1 = m + (i + 1) from by have := HZ2.out; omega)
             go_wp2
             go_roundw
             case rel => exact ⟨i + 1, z2 + 1, nc16, nc17, na16, na17, _, _, him, by go_num, by go_num, by go_num, HZ3, HPQ2, HLF⟩
             case measure => simp [RowKit.intOf]; omega
           ·have hiK : K = i := by omega
            subst hiK
            have hkx : ¬ (K : Int) < K := by omega
            have HPK := Lib.hid (show ps.map (·.1) = args.map (subT (fullB S)) ++ L.map (subT (fullB S)) ∧ qs.map (·.1) = args.map (subT (fullB r.set)) ++ (List.range K).map (fun (k : Nat) => fullB r.set (8 + (k : Int))) from by
             have h := HPQ.out
             rw [List.take_of_length_le (by rw [HLK.out]; exact Nat.le_refl _)] at h
             exact h)
            have hlen : ps.length = z2 ∧ qs.length = z2 := by
             have h1 := congrArg List.length HPK.out.1
             have h2 := congrArg List.length HPK.out.2
             rw [List.length_map, List.length_append, List.length_map, List.length_map, HLK.out, HM.out.2.1] at h1
             rw [List.length_map, List.length_append, List.length_map, List.length_map, List.length_range, HM.out.2.1] at h2
             have := HZ2.out
             omega
            have hz3 : z2 ≤ 3000 := by have := HN2.out.1; have := HN2.out.2; have := HZ2.out; omega
            obtain ⟨hx, hy⟩ := HW.out.1.out (by rw [hlen.1]; unfold BIG; omega) (by rw [hlen.2]; unfold BIG; omega)
            rw [HPK.out.1] at hx
            rw [HPK.out.2] at hy
            have HML2 := Lib.hid HML.out
            obtain ⟨LX, hLX⟩ : ∃ l, args.map (subT (fullB S)) ++ L.map (subT (fullB S)) = l := ⟨_, rfl⟩
            obtain ⟨LY, hLY⟩ : ∃ l, args.map (subT (fullB r.set)) ++ (List.range K).map (fun (k : Nat) => fullB r.set (8 + (k : Int))) = l := ⟨_, rfl⟩
            have HAL := Lib.hid (show goodT (listT LX nilT) = true → alikeQ (listT LX nilT) (listT LY nilT) = true from by
             have h := HML.out
             rw [HK.out, hLX, hLY] at h
             exact h)
            rw [hLX] at hx
            rw [hLY] at hy
            have HX := Lib.hid hx
            have HY := Lib.hid hy
            have HBW := Lib.hid (HB32.out.trans (HW.out.2.mono HB32.out.size))
            have hno : ∀ (wq : World), Stays wq (hide noM wq) := fun wq => ⟨by rw [hide_size]; exact Nat.le_refl _, fun a v hv => by rw [hide_cell _ _ _ rfl]; exact hv⟩
            have HNO := Lib.hid hno
            clear hx hy hLX hLY hlen hz3 hno
            (go_wp2_with fail; go_fit (rcAtom_at _ _); rintro e w51 ⟨rfl, b51⟩)
            have C := rlist15_at (D := noM) (w := w51) (t := nilT) (fun _ _ => rfl) ((HX.out.ext b51).stay (HNO.out w51)) (TmV.stay (HNO.out w51) _ _ (leaf_tm w51 (k := 2) (n := 0) (s := ⟨#[91, 93]⟩) (by unfold I64; omega) i64_0 (by unfold BIG; decide)))
            have HB51 := Lib.hid b51
            clear b51
            (go_wp2_with fail; go_fit (C); rintro e w52 ⟨v5, rfl, hv5, b52⟩)
            obtain ⟨k8, n8, s8, a8, m8, c8, rfl, f1, f2, f3, f4⟩ := four_of hv5
            have HV5 := Lib.hid hv5.bare
            have HB52 := Lib.hid (Ext.trans' HB51.out b52)
            clear f1 f2 f3 f4 hv5 b52 C
            (go_wp2_with fail; go_fit (rcAtom_at _ _); rintro e w53 ⟨rfl, b53⟩)
            have HB53 := Lib.hid (Ext.trans' HB52.out b53)
            have HV53 := Lib.hid (TmV.ext b53 _ _ HV5.out)
            have C := rlist15_at (D := noM) (w := w53) (t := nilT) (fun _ _ => rfl) ((HY.out.ext HB53.out).stay (HNO.out w53)) (TmV.stay (HNO.out w53) _ _ (leaf_tm w53 (k := 2) (n := 0) (s := ⟨#[91, 93]⟩) (by unfold I64; omega) i64_0 (by unfold BIG; decide)))
            clear b53
            (go_wp2_with fail; go_fit (C); rintro e w54 ⟨v6, rfl, hv6, b54⟩)
            obtain ⟨k9, n9, s9, a9, m9, c9, rfl, f1, f2, f3, f4⟩ := four_of hv6
            have HV6 := Lib.hid hv6.bare
            have HB54 := Lib.hid (Ext.trans' HB53.out b54)
            have HV54 := Lib.hid (TmV.ext b54 _ _ HV53.out)
            clear f1 f2 f3 f4 hv6 b54 C
            go_upto_region 58 with fail
            obtain ⟨w55, e55, b55, z55, X55⟩ := box_new w54 #[.int .i64 k8, .int .i64 n8, .string s8, .slice a8 m8 c8] 54
            obtain ⟨w56, e56, b56, z56, X56⟩ := box_new w55 #[.int .i64 k9, .int .i64 n9, .string s9, .slice a9 m9 c9] 54
            rw [z55] at X56
            (try rw [e55])
            (try rw [e56])
            have hb6 := Ext.trans' b55 b56
            have HB56 := Lib.hid (HBW.out.trans ((Ext.trans' HB54.out hb6).mono HBW.out.size))
            have HV56 := Lib.hid (And.intro (TmV.ext hb6 _ _ HV54.out) (TmV.ext hb6 _ _ HV6.out))
            have HX56 := Lib.hid (And.intro (X55.ext b56) X56)
            clear e55 b55 z55 X55 e56 b56 z56 X56 hb6
            obtain ⟨x0, x1, x2, x3, _⟩ := HX56.out.1.four
            have C := rgood_at (listT LX nilT) w56 _ HV56.out.1
            cases hgl : goodT (listT LX nilT)
            ·rw [hgl] at C
             clear hgl
             (go_wp2_with fail; go_fit (C); rintro e w57 ⟨rfl, b57⟩)
             have HB57 := Lib.hid (HB56.out.trans (b57.mono HB56.out.size))
             clear b57 C
             go_wp2
             go_ret
             exact ⟨rfl, HB57.out⟩
            rw [hgl] at C
            (go_wp2_with fail; go_fit (C); rintro e w57 ⟨rfl, b57⟩)
            have HB57 := Lib.hid (HB56.out.trans (b57.mono HB56.out.size))
            have hal := HAL.out hgl
            unfold alikeQ at hal
            rw [Bool.and_eq_true, Bool.and_eq_true] at hal
            have C := Alike_yes _ _ hal.1.1 hal.1.2 ((same_iff _ _).1 hal.2) w57 _ _ (TmV.ext b57 _ _ HV56.out.1) (TmV.ext b57 _ _ HV56.out.2)
            clear x0 x1 x2 x3
            obtain ⟨x0, x1, x2, x3, _⟩ := (HX56.out.1.ext b57).four
            obtain ⟨y0, y1, y2, y3, _⟩ := (HX56.out.2.ext b57).four
            clear b57 hal hgl
            (go_wp2_with fail; go_fit (C); rintro e w58 ⟨rfl, b58⟩)
            have HB58 := Lib.hid (HB57.out.trans (b58.mono HB57.out.size))
            clear b58 C x0 x1 x2 x3 y0 y1 y2 y3
            go_wp2
            go_ret
            exact ⟨rfl, HB58.out⟩
end Go.Proofs.Ytchbbaehdcmcfaa
