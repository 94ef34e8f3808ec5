import Derived.Test.YtchbbaehdcmcfaaHyfzz
import Derived.Test.YtchbbaehdcmcfaaHyfab
import Derived.Test.YtchbbaehdcmcfaaHyfaa
import Derived.Lib.Strings
import Derived.Test.YtchbbaehdcmcfaaHyfac
import Derived.Deep.CutRange
set_option linter.unusedVariables false
set_option linter.unusedSimpArgs false
/- Stage 16's laws: IndexKeys. -/
namespace Go.Proofs.Ytchbbaehdcmcfaa
open Go.RowKit
set_option linter.unusedVariables false
theorem tm_kind16 {w : World} {y : Tm} {k n : Int} {s : ByteArray} {a : Option Addr} {m c : Nat} (h : TmV w y (.agg #[.int .i64 k, .int .i64 n, .string s, .slice a m c])) : y.k = k ∧ y.n = n ∧ y.s = s ∧ y.args.length = m ∧ Tms w (.slice a m c) y.args := by
 obtain ⟨k', n', s', ts⟩ := y
 obtain ⟨u, hu, _, _, _, hts⟩ := tmV_iff.1 h
 have e : Value.int .i64 k = .int .i64 k' ∧ Value.int .i64 n = .int .i64 n' ∧ Value.string s = .string s' ∧ Value.slice a m c = u := by simpa using hu
 obtain ⟨e1, e2, e3, e4⟩ := e
 injection e1 with _ e1
 injection e2 with _ e2
 injection e3 with e3
 subst e1 e2 e3 e4
 obtain ⟨a', c', h1, _⟩ := hts.len
 injection h1 with _ h1 _
 exact ⟨rfl, rfl, rfl, h1.symm, hts⟩
theorem own_new1 (w : World) (c0 c1 c2 c3 : Value) (ty : TypeId) : (w.alloc (.cells #[c0, c1, c2, c3] ty)).ownsRow w.heap.size ty 4 (.slice (some ⟨w.heap.size, 0, none⟩) 1 1) 1 [c0, c1, c2, c3] :=
 ⟨rfl, Or.inr ⟨w.heap.size, 1, _, rfl, Nat.le_refl _, heap_alloc_new w _, Nat.le_refl _, by unfold maxLen; omega, by simp, by simp⟩⟩
theorem row_cons {w5 w4 : World} {y : Tm} {k n : Int} {s : ByteArray} {aa : Option Addr} {ma ca : Nat} {ps : List TmP} {m : Nat} {v : Value} (hpl : ps.length = m) (hm : m ≤ 7)
  (hy : TmV w5 y (.agg #[.int .i64 k, .int .i64 n, .string s, .slice aa ma ca])) (hp : ∀ p ∈ ps, TmV w5 p.1 (pVal p)) (hb : Below w5.heap.size w5 w4)
  (hr : w4.ownsRow w5.heap.size 31 4 v (1 + m) ([.int .i64 k, .int .i64 n, .string s, .slice aa ma ca] ++ ps.flatMap pCells)) : Tms w4 v (y :: ps.map (·.1)) := by
 obtain ⟨e1, e2, e3, _⟩ := tm_kind16 hy
 have hc : pCells (y, .slice aa ma ca) = [.int .i64 k, .int .i64 n, .string s, .slice aa ma ca] := by unfold pCells; rw [e1, e2, e3]
 have hv : pVal (y, .slice aa ma ca) = .agg #[.int .i64 k, .int .i64 n, .string s, .slice aa ma ca] := by unfold pVal; rw [e1, e2, e3]
 have hR : RowP w4 w5.heap.size 31 v ((y, .slice aa ma ca) :: ps) := by
  unfold RowP
  rw [List.length_cons, List.flatMap_cons, hc, hpl, Nat.add_comm m 1]
  exact hr
 refine hR.terms (fun p hpm => ?_) (by rw [List.length_cons, hpl]; unfold BIG; omega)
 rcases List.mem_cons.1 hpm with rfl | hpm
 ·rw [hv]; exact TmV.ext hb _ _ hy
 ·exact TmV.ext hb _ _ (hp p hpm)
def KeyIs (ka na : Int) (sa : ByteArray) (ma : Nat) (q : KeyM) : Prop :=
 (ka = 0 ∧ q = zeroKey) ∨ (ka = 1 ∧ q = ⟨1, na, ⟨#[]⟩, 0⟩) ∨ (ka = 2 ∧ q = ⟨2, 0, sa, (ma : Int)⟩)
theorem keyT_cons {s : ByteArray} {y : Tm} {r : List Tm} (hg : goodT (.mk 2 0 s (y :: r)) = true) {ka na : Int} {sa : ByteArray} {ma : Nat} (h1 : y.k = ka) (h2 : y.n = na) (h3 : y.s = sa) (h4 : y.args.length = ma) : KeyIs ka na sa ma (keyT (.mk 2 0 s (y :: r))) := by
 have hf : formedT y = true := (good_parts (good_arg hg (t := .mk 2 0 s (y :: r)) (show y ∈ (Tm.mk 2 0 s (y :: r)).args from List.mem_cons_self))).2.2
 have e : keyT (.mk 2 0 s (y :: r)) = argKey y := by
  unfold keyT
  rw [if_pos hg]
  rfl
 rw [e]
 unfold KeyIs argKey
 rcases formed_kids hf with ⟨g, _⟩ | ⟨g, _⟩ | ⟨g, _⟩
 ·exact Or.inl ⟨h1.symm.trans g, if_pos g⟩
 ·exact Or.inr (Or.inl ⟨h1.symm.trans g, by rw [if_neg (by rw [g]; decide), if_pos g, h2]⟩)
 ·exact Or.inr (Or.inr ⟨h1.symm.trans g, by rw [if_neg (by rw [g]; decide), if_neg (by rw [g]; decide), h3, h4]⟩)
set_option maxHeartbeats 16000000 in
set_option maxRecDepth 100000 in
theorem indexKeys_at {W : World} {vx vr vm : Value} {y : Tm} {rs ms : List Tm} (hy : TmV W y vx) (hr : Tms W vr rs) (hm : Tms W vm ms) : Calls Try.prog 11 #[vx, vr, vm] W fun e w' => IsBool W true e w' := by
 obtain ⟨ka, na, sa, aa, ma, ca, rfl⟩ := hy.full
 obtain ⟨q1, q2, q3, q4, _⟩ := tm_kind16 hy
 have HYK := Lib.hid (And.intro q1 (And.intro q2 (And.intro q3 q4)))
 obtain ⟨ra, rc, rfl, hr1, hr2, hr3⟩ := hr.len
 obtain ⟨sm, sc, rfl, hm1, hm2, hm3⟩ := hm.len
 unfold maxLen at hr2 hm2
 unfold BIG at hr3 hm3
 obtain ⟨m, hml⟩ : ∃ m, rs.length = m := ⟨_, rfl⟩
 obtain ⟨n, hnl⟩ : ∃ n, ms.length = n := ⟨_, rfl⟩
 have HL := Lib.hid (And.intro hml hnl)
 rw [hml] at hr hr1 hr3 ⊢
 rw [hnl] at hm hm1 hm3 ⊢
 have HY := Lib.hid hy
 have HR := Lib.hid hr
 have HMM := Lib.hid hm
 have DX := Lib.hid (fun (wq : World) (hb : Below W.heap.size W wq) => deep16_at _ y (Nat.le_refl _) 30 (by unfold I64; omega) wq _ (TmV.ext hb _ _ hy))
 have HDA := Lib.hid (fun (y : Tm) (wq : World) (v : Value) (hv : TmV wq y v) => deep16_at _ y (Nat.le_refl _) 20 (by unfold I64; omega) wq _ hv)
 obtain ⟨j0, hj0, hz0, hs0, hb0⟩ := info_parts infoTerm
 obtain ⟨w1, e1, B1, z1, X1⟩ := box_new W #[.int .i64 ka, .int .i64 na, .string sa, .slice aa ma ca] 31
 have HE := Lib.hid e1
 have HB1 := Lib.hid (And.intro B1 X1)
 clear q1 q2 q3 q4 hy hr hm hml hnl e1 B1 z1 X1
 go_enter Try.func11, Try.ntmps11
 go_upto_region 1 with fail
 (try rw [HE.out])
 (go_wp2_with fail; go_fit (awake16_at _); rintro e w2 ⟨rfl, b2⟩)
 have HB2 := Lib.hid (Ext.trans' HB1.out.1 b2)
 have HX2 := Lib.hid (HB1.out.2.ext b2)
 clear b2
 obtain ⟨x0, x1, x2, x3, _⟩ := HX2.out.four
 have C := DX.out w2 HB2.out
 cases hdx : deepT y 30
 rotate_left
 ·rw [hdx] at C
  clear hdx
  (go_wp2_with fail; go_fit (C); rintro e w3 ⟨rfl, b3⟩)
  have HB3 := Lib.hid (Ext.trans' HB2.out b3)
  clear b3 C
  go_wp2
  go_ret
  exact ⟨rfl, HB3.out⟩
 rw [hdx] at C
 clear hdx
 (go_wp2_with fail; go_fit (C); rintro e w3 ⟨rfl, b3⟩)
 have HB3 := Lib.hid (Ext.trans' HB2.out b3)
 have HX3 := Lib.hid (HX2.out.ext b3)
 clear b3 C x0 x1 x2 x3
 by_cases hm7 : 7 < m
 ·have hm7' : (7 : Int) < (m : Int) := by omega
  go_wp2
  go_ret
  exact ⟨rfl, HB3.out⟩
 have hm7' : ¬ (7 : Int) < (m : Int) := by omega
 by_cases hn7 : 7 < n
 ·have hn7' : (7 : Int) < (n : Int) := by omega
  go_wp2
  go_ret
  exact ⟨rfl, HB3.out⟩
 have hn7' : ¬ (7 : Int) < (n : Int) := by omega
 go_upto_region 5 with fail
 go_wp2_with fail
 go_loopw [7] (fun v wr => ∃ i : Nat, i ≤ m ∧ v = .int .i64 i ∧ Hid (Below w3.heap.size w3 wr)) (fun v _ => m - (RowKit.intOf v).toNat)
 case atStart => exact ⟨0, Nat.zero_le _, rfl, Lib.hid (Below.refl _ _)⟩
 case round =>
  obtain ⟨i, hi, rfl, HJ⟩ := hrel
  by_cases him : i < m
  ·obtain ⟨z, hz⟩ : ∃ z, rs[i]? = some z := ⟨_, List.getElem?_eq_getElem (by rw [HL.out.1]; exact him)⟩
   have HBR := Lib.hid (Ext.trans' HB3.out HJ.out)
   obtain ⟨b, off, k', n', s', u', rfl, hbb, _, _, _, c0, c1, c2, c3, _, ht⟩ := (HR.out.ext HBR.out).get hz
   have C := HDA.out z wr _ ht
   clear hz ht
   cases hdy : deepT z 20
   rotate_left
   ·rw [hdy] at C
    clear hdy
    (go_wp2_with fail; go_fit (C); rintro e w6 ⟨rfl, b6⟩)
    have HB6 := Lib.hid (Ext.trans' HBR.out b6)
    clear b6 C
    go_wp2
    go_ret
    exact ⟨rfl, HB6.out⟩
   ·rw [hdy] at C
    clear hdy
    (go_wp2_with fail; go_fit (C); rintro e w6 ⟨rfl, b6⟩)
    have HJ6 := Lib.hid (Ext.trans' HJ.out b6)
    clear b6 C
    go_wp2
    go_roundw
    case rel => exact ⟨i + 1, by omega, by go_num, HJ6⟩
    case measure => simp [RowKit.intOf]; omega
  have him2 : m = i := by omega
  subst him2
  have hmx : ¬ (m : Int) < m := by omega
  have HB4 := Lib.hid (Ext.trans' HB3.out HJ.out)
  have HX4 := Lib.hid (HX3.out.ext HJ.out)
  clear HJ
  obtain ⟨w4, rfl⟩ : ∃ w4, w4 = wr := ⟨_, rfl⟩
  go_upto_region 10 with fail
  go_wp2_with fail
  go_loopw [8] (fun v wq => ∃ i : Nat, i ≤ n ∧ v = .int .i64 i ∧ Hid (Below w4.heap.size w4 wq)) (fun v _ => n - (RowKit.intOf v).toNat)
  case atStart => exact ⟨0, Nat.zero_le _, rfl, Lib.hid (Below.refl _ _)⟩
  case round =>
   obtain ⟨i, hi, rfl, HJ⟩ := hrel
   by_cases him : i < n
   ·obtain ⟨z, hz⟩ : ∃ z, ms[i]? = some z := ⟨_, List.getElem?_eq_getElem (by rw [HL.out.2]; exact him)⟩
    have HBR := Lib.hid (Ext.trans' HB4.out HJ.out)
    obtain ⟨b, off, k', n', s', u', rfl, hbb, _, _, _, c0, c1, c2, c3, _, ht⟩ := (HMM.out.ext HBR.out).get hz
    have C := HDA.out z wr _ ht
    clear hz ht
    cases hdy : deepT z 20
    rotate_left
    ·rw [hdy] at C
     clear hdy
     (go_wp2_with fail; go_fit (C); rintro e w6 ⟨rfl, b6⟩)
     have HB6 := Lib.hid (Ext.trans' HBR.out b6)
     clear b6 C
     go_wp2
     go_ret
     exact ⟨rfl, HB6.out⟩
    ·rw [hdy] at C
     clear hdy
     (go_wp2_with fail; go_fit (C); rintro e w6 ⟨rfl, b6⟩)
     have HJ6 := Lib.hid (Ext.trans' HJ.out b6)
     clear b6 C
     go_wp2
     go_roundw
     case rel => exact ⟨i + 1, by omega, by go_num, HJ6⟩
     case measure => simp [RowKit.intOf]; omega
   have him2 : n = i := by omega
   subst him2
   have hnx : ¬ (n : Int) < n := by omega
   have HB5 := Lib.hid (Ext.trans' HB4.out HJ.out)
   have HX5 := Lib.hid (HX4.out.ext HJ.out)
   clear HJ
   obtain ⟨w5, rfl⟩ : ∃ w5, w5 = wr := ⟨_, rfl⟩
   obtain ⟨ps1, pa1, pc1, hv1, hpl1, hpm1, hpt1, hbig1, hsrc1⟩ := (HR.out.ext HB5.out).pairs
   rw [HL.out.1] at hv1 hpl1 hsrc1
   cases hv1
   have HSR1 := Lib.hid (And.intro hpl1 (And.intro hpm1 (And.intro hpt1 hsrc1)))
   have HFL1 := Lib.hid (show (ps1.flatMap pCells).length = m * 4 from by rw [flat_len pCells_len, hpl1])
   clear hpl1 hpm1 hpt1 hbig1 hsrc1
   obtain ⟨x0, x1, x2, x3, _⟩ := HX5.out.four
   have HYW1 := Lib.hid (TmV.ext HB5.out _ _ HY.out)
   go_upto_region 16 with (first
    | (at_builtin; refine wpList_append_k rfl _ _ 29 rfl w5.heap.size 31 j0 (.agg #[.int .i64 0, .int .i64 0, .string ⟨#[]⟩, .slice none 0 0]) 4 56 Try.underlying29 hj0 hz0 hs0 (by decide) hb0 rfl (.slice (some ⟨w5.heap.size, 0, none⟩) 1 1) 1 [.int .i64 ka, .int .i64 na, .string sa, .slice aa ma ca] rfl (own_new1 w5 _ _ _ _ _) ra m rc (ps1.flatMap pCells) rfl HFL1.out (by rcases HSR1.out.2.2.2 with h | ⟨ad, e, h⟩; exact Or.inl h; exact Or.inr ⟨ad, e, fun j u hj => Lib.cell?_alloc_some _ (h j u hj)⟩) (pCells_one ps1 HSR1.out.2.2.1) (by unfold maxLen; omega) (by omega) (by simp) (1 + m) ([.int .i64 ka, .int .i64 na, .string sa, .slice aa ma ca] ++ ps1.flatMap pCells) rfl rfl ?_; intro w6a w6c w6 hown1 hgrow1 hat1; have HBa1 := Lib.hid (show Below w5.heap.size w5 w6 from (bel1' w5 _).grown hgrow1 (by simp) (fun g hg => by cases hg; exact Nat.le_refl _)); have HTM1 := Lib.hid (show Tms w6 _ (y :: rs) from by have h := row_cons HSR1.out.1 (by omega) HYW1.out HSR1.out.2.2.1 HBa1.out hown1; rw [HSR1.out.2.1] at h; exact h); clear hown1 hgrow1 hat1)
    | (go_at_call 17; refine (comp_at ⟨#[112]⟩ (by unfold BIG; decide) HTM1.out).mono ?_; rintro e w7 ⟨a7, c7, rfl, ht1, bb1⟩; obtain ⟨l7, hl7⟩ : ∃ l7, (y :: rs).length = l7 := ⟨_, rfl⟩; rw [hl7] at ht1 ⊢; clear hl7; have HT7 := Lib.hid (And.intro ht1 (Ext.trans' HBa1.out bb1)); clear ht1 bb1)
    | fail)
   obtain ⟨w8, e8, b8, z8, X8⟩ := box_new w7 #[.int .i64 2, .int .i64 0, .string ⟨#[112]⟩, .slice a7 l7 c7] 31
   obtain ⟨xb, hxb⟩ : ∃ xb, w7.heap.size = xb := ⟨_, rfl⟩
   rw [hxb] at X8
   (try rw [e8])
   (try rw [hxb])
   have hb8 := Ext.trans' HT7.out.2 b8
   have HB8 := Lib.hid (Ext.trans' HB5.out hb8)
   have HX8 := Lib.hid (HX5.out.ext hb8)
   have HXB8 := Lib.hid X8
   have HTX8 := Lib.hid (TmV.ext b8 _ _ HT7.out.1)
   clear e8 hxb b8 z8 X8 hb8 x0 x1 x2 x3
   obtain ⟨ps2, pa2, pc2, hv2, hpl2, hpm2, hpt2, hbig2, hsrc2⟩ := (HMM.out.ext HB8.out).pairs
   rw [HL.out.2] at hv2 hpl2 hsrc2
   cases hv2
   have HSR2 := Lib.hid (And.intro hpl2 (And.intro hpm2 (And.intro hpt2 hsrc2)))
   have HFL2 := Lib.hid (show (ps2.flatMap pCells).length = n * 4 from by rw [flat_len pCells_len, hpl2])
   clear hpl2 hpm2 hpt2 hbig2 hsrc2
   obtain ⟨x0, x1, x2, x3, _⟩ := HX8.out.four
   have HYW2 := Lib.hid (TmV.ext HB8.out _ _ HY.out)
   go_upto_region 17 with (first
    | (at_builtin; refine wpList_append_k rfl _ _ 29 rfl w8.heap.size 31 j0 (.agg #[.int .i64 0, .int .i64 0, .string ⟨#[]⟩, .slice none 0 0]) 4 56 Try.underlying29 hj0 hz0 hs0 (by decide) hb0 rfl (.slice (some ⟨w8.heap.size, 0, none⟩) 1 1) 1 [.int .i64 ka, .int .i64 na, .string sa, .slice aa ma ca] rfl (own_new1 w8 _ _ _ _ _) sm n sc (ps2.flatMap pCells) rfl HFL2.out (by rcases HSR2.out.2.2.2 with h | ⟨ad, e, h⟩; exact Or.inl h; exact Or.inr ⟨ad, e, fun j u hj => Lib.cell?_alloc_some _ (h j u hj)⟩) (pCells_one ps2 HSR2.out.2.2.1) (by unfold maxLen; omega) (by omega) (by simp) (1 + n) ([.int .i64 ka, .int .i64 na, .string sa, .slice aa ma ca] ++ ps2.flatMap pCells) rfl rfl ?_; intro w9a w9c w9 hown2 hgrow2 hat2; have HBa2 := Lib.hid (show Below w8.heap.size w8 w9 from (bel1' w8 _).grown hgrow2 (by simp) (fun g hg => by cases hg; exact Nat.le_refl _)); have HTM2 := Lib.hid (show Tms w9 _ (y :: ms) from by have h := row_cons HSR2.out.1 (by omega) HYW2.out HSR2.out.2.2.1 HBa2.out hown2; rw [HSR2.out.2.1] at h; exact h); clear hown2 hgrow2 hat2)
    | (go_at_call 17; refine (comp_at ⟨#[113]⟩ (by unfold BIG; decide) HTM2.out).mono ?_; rintro e w10 ⟨a8, c8, rfl, ht2, bb2⟩; obtain ⟨l8, hl8⟩ : ∃ l8, (y :: ms).length = l8 := ⟨_, rfl⟩; rw [hl8] at ht2 ⊢; clear hl8; have HT10 := Lib.hid (And.intro ht2 (Ext.trans' HBa2.out bb2)); clear ht2 bb2)
    | fail)
   obtain ⟨w11, e11, b11, z11, X11⟩ := box_new w10 #[.int .i64 2, .int .i64 0, .string ⟨#[113]⟩, .slice a8 l8 c8] 31
   obtain ⟨yb, hyb⟩ : ∃ yb, w10.heap.size = yb := ⟨_, rfl⟩
   rw [hyb] at X11
   (try rw [e11])
   (try rw [hyb])
   have hb11 := Ext.trans' HT10.out.2 b11
   have HB11 := Lib.hid (Ext.trans' HB8.out hb11)
   have HXX := Lib.hid (And.intro (HXB8.out.ext hb11) (And.intro X11 (HX8.out.ext hb11)))
   have HTX := Lib.hid (And.intro (TmV.ext hb11 _ _ HTX8.out) (TmV.ext b11 _ _ HT10.out.1))
   clear e11 hyb b11 z11 X11 hb11 x0 x1 x2 x3
   have CG := Good_at (.mk 2 0 ⟨#[112]⟩ (y :: rs)) w11 _ HTX.out.1
   obtain ⟨x0, x1, x2, x3, _⟩ := HXX.out.1.four
   cases hg1 : goodT (.mk 2 0 ⟨#[112]⟩ (y :: rs))
   ·rw [hg1] at CG
    clear hg1
    (go_wp2_with fail; go_fit (CG); rintro e w12 ⟨rfl, b12⟩)
    have HB12 := Lib.hid (Ext.trans' HB11.out b12)
    clear b12 CG
    go_wp2
    go_ret
    exact ⟨rfl, HB12.out⟩
   rw [hg1] at CG
   (go_wp2_with fail; go_fit (CG); rintro e w12 ⟨rfl, b12⟩)
   have HB12 := Lib.hid (Ext.trans' HB11.out b12)
   have HXX12 := Lib.hid (And.intro (HXX.out.1.ext b12) (And.intro (HXX.out.2.1.ext b12) (HXX.out.2.2.ext b12)))
   have HTX12 := Lib.hid (And.intro (TmV.ext b12 _ _ HTX.out.1) (TmV.ext b12 _ _ HTX.out.2))
   have HG1 := Lib.hid hg1
   clear b12 CG hg1 x0 x1 x2 x3
   have CG := Good_at (.mk 2 0 ⟨#[113]⟩ (y :: ms)) w12 _ HTX12.out.2
   obtain ⟨x0, x1, x2, x3, _⟩ := HXX12.out.2.1.four
   cases hg2 : goodT (.mk 2 0 ⟨#[113]⟩ (y :: ms))
   ·rw [hg2] at CG
    clear hg2
    (go_wp2_with fail; go_fit (CG); rintro e w13 ⟨rfl, b13⟩)
    have HB13 := Lib.hid (Ext.trans' HB12.out b13)
    clear b13 CG
    go_wp2
    go_ret
    exact ⟨rfl, HB13.out⟩
   rw [hg2] at CG
   (go_wp2_with fail; go_fit (CG); rintro e w13 ⟨rfl, b13⟩)
   have HB13 := Lib.hid (Ext.trans' HB12.out b13)
   have HXX13 := Lib.hid (And.intro (HXX12.out.1.ext b13) (And.intro (HXX12.out.2.1.ext b13) (HXX12.out.2.2.ext b13)))
   have HTX13 := Lib.hid (And.intro (TmV.ext b13 _ _ HTX12.out.1) (TmV.ext b13 _ _ HTX12.out.2))
   have HG2 := Lib.hid hg2
   clear b13 CG hg2 x0 x1 x2 x3
   obtain ⟨x0, x1, x2, x3, _⟩ := HXX13.out.1.four
   have hK1 := keyT_cons HG1.out HYK.out.1 HYK.out.2.1 HYK.out.2.2.1 HYK.out.2.2.2
   have hK2 : keyT (.mk 2 0 ⟨#[113]⟩ (y :: ms)) = keyT (.mk 2 0 ⟨#[112]⟩ (y :: rs)) := by
    unfold keyT
    rw [if_pos HG1.out, if_pos HG2.out]
    rfl
   have CO := ixOf_at _ w13 _ HTX13.out.1
   obtain ⟨⟨kk, nn, ss, rr⟩, hq⟩ : ∃ q, keyT (.mk 2 0 ⟨#[112]⟩ (y :: rs)) = q := ⟨_, rfl⟩
   rw [hq] at CO hK1 hK2
   have HK2 := Lib.hid hK2
   (go_wp2_with fail; go_fit (CO); rintro e w14 ⟨rfl, b14⟩)
   clear CO hq hK2 x0 x1 x2 x3
   obtain ⟨w15, e15, b15, z15, X15⟩ := box_new w14 #[.int .i64 kk, .int .i64 nn, .string ss, .int .i64 rr] 76
   obtain ⟨kb, hkb⟩ : ∃ kb, w14.heap.size = kb := ⟨_, rfl⟩
   rw [hkb] at X15
   have hb15 := Ext.trans' b14 b15
   have HB15 := Lib.hid (Ext.trans' HB13.out hb15)
   have HX15 := Lib.hid (And.intro (HXX13.out.2.1.ext hb15) (And.intro (HXX13.out.2.2.ext hb15) X15))
   have HT15 := Lib.hid (TmV.ext hb15 _ _ HTX13.out.2)
   clear b14 b15 z15 X15 hb15
   go_upto_region 20 with fail
   (try rw [e15])
   (try rw [hkb])
   clear e15 hkb
   have HC := Lib.hid (fun (wq : World) (hb : Below w15.heap.size w15 wq) => (show (wq.cell? ⟨yb, 0, none⟩ = some (.int .i64 2) ∧ wq.cell? ⟨yb, 1, none⟩ = some (.int .i64 0) ∧ wq.cell? ⟨yb, 2, none⟩ = some (.string ⟨#[113]⟩) ∧ wq.cell? ⟨yb, 3, none⟩ = some (.slice a8 l8 c8)) ∧ (wq.cell? ⟨W.heap.size, 0, none⟩ = some (.int .i64 ka) ∧ wq.cell? ⟨W.heap.size, 1, none⟩ = some (.int .i64 na) ∧ wq.cell? ⟨W.heap.size, 2, none⟩ = some (.string sa) ∧ wq.cell? ⟨W.heap.size, 3, none⟩ = some (.slice aa ma ca)) ∧ (wq.cell? ⟨kb, 0, none⟩ = some (.int .i64 kk) ∧ wq.cell? ⟨kb, 1, none⟩ = some (.int .i64 nn) ∧ wq.cell? ⟨kb, 2, none⟩ = some (.string ss) ∧ wq.cell? ⟨kb, 3, none⟩ = some (.int .i64 rr)) from by
    obtain ⟨x0, x1, x2, x3, _⟩ := (HX15.out.1.ext hb).four
    obtain ⟨y0, y1, y2, y3, _⟩ := (HX15.out.2.1.ext hb).four
    obtain ⟨z0, z1, z2, z3, _⟩ := (HX15.out.2.2.ext hb).four
    exact ⟨⟨x0, x1, x2, x3⟩, ⟨y0, y1, y2, y3⟩, z0, z1, z2, z3⟩))
   have HQ := Lib.hid (show ∀ wq : World, (Op.equalIn 10000 76 (.agg #[.int .i64 kk, .int .i64 nn, .string ss, .int .i64 rr]) (.agg #[.int .i64 kk, .int .i64 nn, .string ss, .int .i64 rr])).run Try.prog wq = .ok true wq from fun wq => by
    have := ixEq ⟨kk, nn, ss, rr⟩ ⟨kk, nn, ss, rr⟩ wq
    rw [sameKey_self] at this
    exact this)
   refine wp_region_held_drew (S := fun wq => (wq.cell? ⟨yb, 0, none⟩ = some (.int .i64 2) ∧ wq.cell? ⟨yb, 1, none⟩ = some (.int .i64 0) ∧ wq.cell? ⟨yb, 2, none⟩ = some (.string ⟨#[113]⟩) ∧ wq.cell? ⟨yb, 3, none⟩ = some (.slice a8 l8 c8)) ∧ (wq.cell? ⟨W.heap.size, 0, none⟩ = some (.int .i64 ka) ∧ wq.cell? ⟨W.heap.size, 1, none⟩ = some (.int .i64 na) ∧ wq.cell? ⟨W.heap.size, 2, none⟩ = some (.string sa) ∧ wq.cell? ⟨W.heap.size, 3, none⟩ = some (.slice aa ma ca)) ∧ (wq.cell? ⟨kb, 0, none⟩ = some (.int .i64 kk) ∧ wq.cell? ⟨kb, 1, none⟩ = some (.int .i64 nn) ∧ wq.cell? ⟨kb, 2, none⟩ = some (.string ss) ∧ wq.cell? ⟨kb, 3, none⟩ = some (.int .i64 rr))) (by kernel_rfl) (HC.out _ (Below.refl _ _).drew) (fun hHeld => ?_)
   obtain ⟨wd, ewd⟩ : ∃ wd, w15.drew = wd := ⟨_, rfl⟩
   have HBd := Lib.hid (show Below w15.heap.size w15 wd from by rw [← ewd]; exact (Below.refl _ _).drew)
   rw [ewd] at hHeld ⊢
   clear ewd
   first | (refine held_t (i := 0) hHeld ?_; constructor; constructor; intro wq hq; focus ((try dsimp only at hq); go_simp; first | done | with_reducible rfl | fail)) | refine held_s (i := 0) hHeld ?_ | fail
   first | (refine held_t (i := 1) hHeld ?_; constructor; constructor; intro wq hq; focus ((try dsimp only at hq); go_simp; first | done | with_reducible rfl | fail)) | refine held_s (i := 1) hHeld ?_ | fail
   try simp only [Act.put, lay4]
   refine held_c 2 fun K hK => ?_
   go_simp
   (go_at_call 41; refine (ixOf_at (.mk 2 0 ⟨#[113]⟩ (y :: ms)) _ _ (TmV.ext HBd.out _ _ HT15.out)).mono ?_; rintro e w16 ⟨rfl, b16⟩; have HB16 := Lib.hid (Ext.trans' HBd.out b16); rw [HK2.out]; have hq := HQ.out; clear b16)
   refine hK.out _ _ (HC.out _ HB16.out) (fun hHeld => ?_)
   clear hK K
   try simp only [Act.put, lay4]
   first | (refine held_t (i := 3) hHeld ?_; constructor; constructor; intro wq hq; focus ((try dsimp only at hq); go_simp; first | done | with_reducible rfl | fail)) | refine held_s (i := 3) hHeld ?_ | fail
   first | (refine held_t (i := 4) hHeld ?_; constructor; constructor; intro wq hq; focus ((try dsimp only at hq); go_simp; first | done | with_reducible rfl | fail)) | refine held_s (i := 4) hHeld ?_ | fail
   try simp only [Act.put, lay4]
   first | (refine held_t (i := 5) hHeld ?_; constructor; constructor; intro wq hq; focus ((try dsimp only at hq); go_simp; first | done | with_reducible rfl | fail)) | refine held_s (i := 5) hHeld ?_ | fail
   first | (refine held_t (i := 6) hHeld ?_; constructor; constructor; intro wq hq; focus ((try dsimp only at hq); go_simp; first | done | with_reducible rfl | fail)) | refine held_s (i := 6) hHeld ?_ | fail
   try simp only [Act.put, lay4]
   clear hq
   refine held_c 7 fun K hK => ?_
   go_simp
   (go_at_call 47; refine (ixMay_at ⟨kk, nn, ss, rr⟩ ⟨kk, nn, ss, rr⟩ _).mono ?_; rintro e w17 ⟨rfl, b17⟩; have HB17 := Lib.hid (Ext.trans' HB16.out b17); rw [mayK_self]; clear b17)
   refine hK.out _ _ (HC.out _ HB17.out) (fun hHeld => ?_)
   clear hK K
   try simp only [Act.put, lay4]
   have HBE := Lib.hid (Ext.trans' HB15.out HB17.out)
   unfold KeyIs zeroKey at hK1
   rcases hK1 with ⟨rfl, hK1⟩ | ⟨rfl, hK1⟩ | ⟨rfl, hK1⟩
   ·injection hK1 with e1 e2 e3 e4
    subst e1 e2 e3 e4
    first | (refine held_t (i := 8) hHeld ?_; constructor; constructor; intro wq hq; focus ((try dsimp only at hq); go_simp; first | done | with_reducible rfl | fail)) | refine held_s (i := 8) hHeld ?_ | fail
    first | (refine held_t (i := 9) hHeld ?_; constructor; constructor; intro wq hq; focus ((try dsimp only at hq); go_simp; first | done | with_reducible rfl | fail)) | refine held_s (i := 9) hHeld ?_ | fail
    try simp only [Act.put, lay4]
    first | (refine held_t (i := 10) hHeld ?_; constructor; constructor; intro wq hq; focus ((try dsimp only at hq); go_simp; first | done | with_reducible rfl | fail)) | refine held_s (i := 10) hHeld ?_ | fail
    first | (refine held_t (i := 11) hHeld ?_; constructor; constructor; intro wq hq; focus ((try dsimp only at hq); go_simp; first | done | with_reducible rfl | fail)) | refine held_s (i := 11) hHeld ?_ | fail
    try simp only [Act.put, lay4]
    first | (refine held_t (i := 12) hHeld ?_; constructor; constructor; intro wq hq; focus ((try dsimp only at hq); go_simp; first | done | with_reducible rfl | fail)) | refine held_s (i := 12) hHeld ?_ | fail
    first | (refine held_t (i := 13) hHeld ?_; constructor; constructor; intro wq hq; focus ((try dsimp only at hq); go_simp; first | done | with_reducible rfl | fail)) | refine held_s (i := 13) hHeld ?_ | fail
    try simp only [Act.put, lay4]
    first | (refine held_t (i := 14) hHeld ?_; constructor; constructor; intro wq hq; focus ((try dsimp only at hq); go_simp; first | done | with_reducible rfl | fail)) | refine held_s (i := 14) hHeld ?_ | fail
    first | (refine held_t (i := 15) hHeld ?_; constructor; constructor; intro wq hq; focus ((try dsimp only at hq); go_simp; first | done | with_reducible rfl | fail)) | refine held_s (i := 15) hHeld ?_ | fail
    try simp only [Act.put, lay4]
    first | (refine held_t (i := 16) hHeld ?_; constructor; constructor; intro wq hq; focus ((try dsimp only at hq); go_simp; first | done | with_reducible rfl | fail)) | refine held_s (i := 16) hHeld ?_ | fail
    first | (refine held_t (i := 17) hHeld ?_; constructor; constructor; intro wq hq; focus ((try dsimp only at hq); go_simp; first | done | with_reducible rfl | fail)) | refine held_s (i := 17) hHeld ?_ | fail
    try simp only [Act.put, lay4]
    first | (refine held_t (i := 18) hHeld ?_; constructor; constructor; intro wq hq; focus ((try dsimp only at hq); go_simp; first | done | with_reducible rfl | fail)) | refine held_s (i := 18) hHeld ?_ | fail
    first | (refine held_t (i := 19) hHeld ?_; constructor; constructor; intro wq hq; focus ((try dsimp only at hq); go_simp; first | done | with_reducible rfl | fail)) | refine held_s (i := 19) hHeld ?_ | fail
    try simp only [Act.put, lay4]
    first | (refine held_t (i := 20) hHeld ?_; constructor; constructor; intro wq hq; focus ((try dsimp only at hq); go_simp; first | done | with_reducible rfl | fail)) | refine held_s (i := 20) hHeld ?_ | fail
    first | (refine held_t (i := 21) hHeld ?_; constructor; constructor; intro wq hq; focus ((try dsimp only at hq); go_simp; first | done | with_reducible rfl | fail)) | refine held_s (i := 21) hHeld ?_ | fail
    try simp only [Act.put, lay4]
    first | (refine held_t (i := 22) hHeld ?_; constructor; constructor; intro wq hq; focus ((try dsimp only at hq); go_simp; first | done | with_reducible rfl | fail)) | refine held_s (i := 22) hHeld ?_ | fail
    first | (refine held_t (i := 23) hHeld ?_; constructor; constructor; intro wq hq; focus ((try dsimp only at hq); go_simp; first | done | with_reducible rfl | fail)) | refine held_s (i := 23) hHeld ?_ | fail
    try simp only [Act.put, lay4]
    first | (refine held_t (i := 24) hHeld ?_; constructor; constructor; intro wq hq; focus ((try dsimp only at hq); go_simp; first | done | with_reducible rfl | fail)) | refine held_s (i := 24) hHeld ?_ | fail
    first | (refine held_t (i := 25) hHeld ?_; constructor; constructor; intro wq hq; focus ((try dsimp only at hq); go_simp; first | done | with_reducible rfl | fail)) | refine held_s (i := 25) hHeld ?_ | fail
    try simp only [Act.put, lay4]
    first | (refine held_t (i := 26) hHeld ?_; constructor; constructor; intro wq hq; focus ((try dsimp only at hq); go_simp; first | done | with_reducible rfl | fail)) | refine held_s (i := 26) hHeld ?_ | fail
    first | (refine held_t (i := 27) hHeld ?_; constructor; constructor; intro wq hq; focus ((try dsimp only at hq); go_simp; first | done | with_reducible rfl | fail)) | refine held_s (i := 27) hHeld ?_ | fail
    try simp only [Act.put, lay4]
    first | (refine held_t (i := 28) hHeld ?_; constructor; constructor; intro wq hq; focus ((try dsimp only at hq); go_simp; first | done | with_reducible rfl | fail)) | refine held_s (i := 28) hHeld ?_ | fail
    first | (refine held_t (i := 29) hHeld ?_; constructor; constructor; intro wq hq; focus ((try dsimp only at hq); go_simp; first | done | with_reducible rfl | fail)) | refine held_s (i := 29) hHeld ?_ | fail
    try simp only [Act.put, lay4]
    first | (refine held_t (i := 30) hHeld ?_; constructor; constructor; intro wq hq; focus ((try dsimp only at hq); go_simp; first | done | with_reducible rfl | fail)) | refine held_s (i := 30) hHeld ?_ | fail
    first | (refine held_t (i := 31) hHeld ?_; constructor; constructor; intro wq hq; focus ((try dsimp only at hq); go_simp; first | done | with_reducible rfl | fail)) | refine held_s (i := 31) hHeld ?_ | fail
    try simp only [Act.put, lay4]
    first | (refine held_t (i := 32) hHeld ?_; constructor; constructor; intro wq hq; focus ((try dsimp only at hq); go_simp; first | done | with_reducible rfl | fail)) | refine held_s (i := 32) hHeld ?_ | fail
    first | (refine held_t (i := 33) hHeld ?_; constructor; constructor; intro wq hq; focus ((try dsimp only at hq); go_simp; first | done | with_reducible rfl | fail)) | refine held_s (i := 33) hHeld ?_ | fail
    try simp only [Act.put, lay4]
    first | (refine held_t (i := 34) hHeld ?_; constructor; constructor; intro wq hq; focus ((try dsimp only at hq); go_simp; first | done | with_reducible rfl | fail)) | refine held_s (i := 34) hHeld ?_ | fail
    first | (refine held_t (i := 35) hHeld ?_; constructor; constructor; intro wq hq; focus ((try dsimp only at hq); go_simp; first | done | with_reducible rfl | fail)) | refine held_s (i := 35) hHeld ?_ | fail
    try simp only [Act.put, lay4]
    first | (refine held_t (i := 36) hHeld ?_; constructor; constructor; intro wq hq; focus ((try dsimp only at hq); go_simp; first | done | with_reducible rfl | fail)) | refine held_s (i := 36) hHeld ?_ | fail
    first | (refine held_t (i := 37) hHeld ?_; constructor; constructor; intro wq hq; focus ((try dsimp only at hq); go_simp; first | done | with_reducible rfl | fail)) | refine held_s (i := 37) hHeld ?_ | fail
    try simp only [Act.put, lay4]
    first | (refine held_t (i := 38) hHeld ?_; constructor; constructor; intro wq hq; focus ((try dsimp only at hq); go_simp; first | done | with_reducible rfl | fail)) | refine held_s (i := 38) hHeld ?_ | fail
    first | (refine held_t (i := 39) hHeld ?_; constructor; constructor; intro wq hq; focus ((try dsimp only at hq); go_simp; first | done | with_reducible rfl | fail)) | refine held_s (i := 39) hHeld ?_ | fail
    try simp only [Act.put, lay4]
    first | (refine held_t (i := 40) hHeld ?_; constructor; constructor; intro wq hq; focus ((try dsimp only at hq); go_simp; first | done | with_reducible rfl | fail)) | refine held_s (i := 40) hHeld ?_ | fail
    first | (refine held_t (i := 41) hHeld ?_; constructor; constructor; intro wq hq; focus ((try dsimp only at hq); go_simp; first | done | with_reducible rfl | fail)) | refine held_s (i := 41) hHeld ?_ | fail
    try simp only [Act.put, lay4]
    first | (refine held_t (i := 42) hHeld ?_; constructor; constructor; intro wq hq; focus ((try dsimp only at hq); go_simp; first | done | with_reducible rfl | fail)) | refine held_s (i := 42) hHeld ?_ | fail
    first | (refine held_t (i := 43) hHeld ?_; constructor; constructor; intro wq hq; focus ((try dsimp only at hq); go_simp; first | done | with_reducible rfl | fail)) | refine held_s (i := 43) hHeld ?_ | fail
    try simp only [Act.put, lay4]
    first | (refine held_t (i := 44) hHeld ?_; constructor; constructor; intro wq hq; focus ((try dsimp only at hq); go_simp; first | done | with_reducible rfl | fail)) | refine held_s (i := 44) hHeld ?_ | fail
    first | (refine held_t (i := 45) hHeld ?_; constructor; constructor; intro wq hq; focus ((try dsimp only at hq); go_simp; first | done | with_reducible rfl | fail)) | refine held_s (i := 45) hHeld ?_ | fail
    try simp only [Act.put, lay4]
    first | (refine held_t (i := 46) hHeld ?_; constructor; constructor; intro wq hq; focus ((try dsimp only at hq); go_simp; first | done | with_reducible rfl | fail)) | refine held_s (i := 46) hHeld ?_ | fail
    first | (refine held_t (i := 47) hHeld ?_; constructor; constructor; intro wq hq; focus ((try dsimp only at hq); go_simp; first | done | with_reducible rfl | fail)) | refine held_s (i := 47) hHeld ?_ | fail
    try simp only [Act.put, lay4]
    first | (refine held_t (i := 48) hHeld ?_; constructor; constructor; intro wq hq; focus ((try dsimp only at hq); go_simp; first | done | with_reducible rfl | fail)) | refine held_s (i := 48) hHeld ?_ | fail
    first | (refine held_t (i := 49) hHeld ?_; constructor; constructor; intro wq hq; focus ((try dsimp only at hq); go_simp; first | done | with_reducible rfl | fail)) | refine held_s (i := 49) hHeld ?_ | fail
    try simp only [Act.put, lay4]
    first | (refine held_t (i := 50) hHeld ?_; constructor; constructor; intro wq hq; focus ((try dsimp only at hq); go_simp; first | done | with_reducible rfl | fail)) | refine held_s (i := 50) hHeld ?_ | fail
    try simp only [Act.put, lay4]
    refine wpAnyH_done (by kernel_rfl) ?_ _
    clear hHeld
    go_wp2
    go_ret
    exact ⟨rfl, HBE.out⟩
   ·injection hK1 with e1 e2 e3 e4
    subst e1 e2 e3 e4
    first | (refine held_t (i := 8) hHeld ?_; constructor; constructor; intro wq hq; focus ((try dsimp only at hq); go_simp; first | done | with_reducible rfl | fail)) | refine held_s (i := 8) hHeld ?_ | fail
    first | (refine held_t (i := 9) hHeld ?_; constructor; constructor; intro wq hq; focus ((try dsimp only at hq); go_simp; first | done | with_reducible rfl | fail)) | refine held_s (i := 9) hHeld ?_ | fail
    try simp only [Act.put, lay4]
    first | (refine held_t (i := 10) hHeld ?_; constructor; constructor; intro wq hq; focus ((try dsimp only at hq); go_simp; first | done | with_reducible rfl | fail)) | refine held_s (i := 10) hHeld ?_ | fail
    first | (refine held_t (i := 11) hHeld ?_; constructor; constructor; intro wq hq; focus ((try dsimp only at hq); go_simp; first | done | with_reducible rfl | fail)) | refine held_s (i := 11) hHeld ?_ | fail
    try simp only [Act.put, lay4]
    first | (refine held_t (i := 12) hHeld ?_; constructor; constructor; intro wq hq; focus ((try dsimp only at hq); go_simp; first | done | with_reducible rfl | fail)) | refine held_s (i := 12) hHeld ?_ | fail
    first | (refine held_t (i := 13) hHeld ?_; constructor; constructor; intro wq hq; focus ((try dsimp only at hq); go_simp; first | done | with_reducible rfl | fail)) | refine held_s (i := 13) hHeld ?_ | fail
    try simp only [Act.put, lay4]
    first | (refine held_t (i := 14) hHeld ?_; constructor; constructor; intro wq hq; focus ((try dsimp only at hq); go_simp; first | done | with_reducible rfl | fail)) | refine held_s (i := 14) hHeld ?_ | fail
    first | (refine held_t (i := 15) hHeld ?_; constructor; constructor; intro wq hq; focus ((try dsimp only at hq); go_simp; first | done | with_reducible rfl | fail)) | refine held_s (i := 15) hHeld ?_ | fail
    try simp only [Act.put, lay4]
    first | (refine held_t (i := 16) hHeld ?_; constructor; constructor; intro wq hq; focus ((try dsimp only at hq); go_simp; first | done | with_reducible rfl | fail)) | refine held_s (i := 16) hHeld ?_ | fail
    first | (refine held_t (i := 17) hHeld ?_; constructor; constructor; intro wq hq; focus ((try dsimp only at hq); go_simp; first | done | with_reducible rfl | fail)) | refine held_s (i := 17) hHeld ?_ | fail
    try simp only [Act.put, lay4]
    first | (refine held_t (i := 18) hHeld ?_; constructor; constructor; intro wq hq; focus ((try dsimp only at hq); go_simp; first | done | with_reducible rfl | fail)) | refine held_s (i := 18) hHeld ?_ | fail
    first | (refine held_t (i := 19) hHeld ?_; constructor; constructor; intro wq hq; focus ((try dsimp only at hq); go_simp; first | done | with_reducible rfl | fail)) | refine held_s (i := 19) hHeld ?_ | fail
    try simp only [Act.put, lay4]
    first | (refine held_t (i := 20) hHeld ?_; constructor; constructor; intro wq hq; focus ((try dsimp only at hq); go_simp; first | done | with_reducible rfl | fail)) | refine held_s (i := 20) hHeld ?_ | fail
    first | (refine held_t (i := 21) hHeld ?_; constructor; constructor; intro wq hq; focus ((try dsimp only at hq); go_simp; first | done | with_reducible rfl | fail)) | refine held_s (i := 21) hHeld ?_ | fail
    try simp only [Act.put, lay4]
    first | (refine held_t (i := 22) hHeld ?_; constructor; constructor; intro wq hq; focus ((try dsimp only at hq); go_simp; first | done | with_reducible rfl | fail)) | refine held_s (i := 22) hHeld ?_ | fail
    first | (refine held_t (i := 23) hHeld ?_; constructor; constructor; intro wq hq; focus ((try dsimp only at hq); go_simp; first | done | with_reducible rfl | fail)) | refine held_s (i := 23) hHeld ?_ | fail
    try simp only [Act.put, lay4]
    first | (refine held_t (i := 24) hHeld ?_; constructor; constructor; intro wq hq; focus ((try dsimp only at hq); go_simp; first | done | with_reducible rfl | fail)) | refine held_s (i := 24) hHeld ?_ | fail
    first | (refine held_t (i := 25) hHeld ?_; constructor; constructor; intro wq hq; focus ((try dsimp only at hq); go_simp; first | done | with_reducible rfl | fail)) | refine held_s (i := 25) hHeld ?_ | fail
    try simp only [Act.put, lay4]
    first | (refine held_t (i := 26) hHeld ?_; constructor; constructor; intro wq hq; focus ((try dsimp only at hq); go_simp; first | done | with_reducible rfl | fail)) | refine held_s (i := 26) hHeld ?_ | fail
    first | (refine held_t (i := 27) hHeld ?_; constructor; constructor; intro wq hq; focus ((try dsimp only at hq); go_simp; first | done | with_reducible rfl | fail)) | refine held_s (i := 27) hHeld ?_ | fail
    try simp only [Act.put, lay4]
    first | (refine held_t (i := 28) hHeld ?_; constructor; constructor; intro wq hq; focus ((try dsimp only at hq); go_simp; first | done | with_reducible rfl | fail)) | refine held_s (i := 28) hHeld ?_ | fail
    first | (refine held_t (i := 29) hHeld ?_; constructor; constructor; intro wq hq; focus ((try dsimp only at hq); go_simp; first | done | with_reducible rfl | fail)) | refine held_s (i := 29) hHeld ?_ | fail
    try simp only [Act.put, lay4]
    first | (refine held_t (i := 30) hHeld ?_; constructor; constructor; intro wq hq; focus ((try dsimp only at hq); go_simp; first | done | with_reducible rfl | fail)) | refine held_s (i := 30) hHeld ?_ | fail
    first | (refine held_t (i := 31) hHeld ?_; constructor; constructor; intro wq hq; focus ((try dsimp only at hq); go_simp; first | done | with_reducible rfl | fail)) | refine held_s (i := 31) hHeld ?_ | fail
    try simp only [Act.put, lay4]
    first | (refine held_t (i := 32) hHeld ?_; constructor; constructor; intro wq hq; focus ((try dsimp only at hq); go_simp; first | done | with_reducible rfl | fail)) | refine held_s (i := 32) hHeld ?_ | fail
    first | (refine held_t (i := 33) hHeld ?_; constructor; constructor; intro wq hq; focus ((try dsimp only at hq); go_simp; first | done | with_reducible rfl | fail)) | refine held_s (i := 33) hHeld ?_ | fail
    try simp only [Act.put, lay4]
    first | (refine held_t (i := 34) hHeld ?_; constructor; constructor; intro wq hq; focus ((try dsimp only at hq); go_simp; first | done | with_reducible rfl | fail)) | refine held_s (i := 34) hHeld ?_ | fail
    first | (refine held_t (i := 35) hHeld ?_; constructor; constructor; intro wq hq; focus ((try dsimp only at hq); go_simp; first | done | with_reducible rfl | fail)) | refine held_s (i := 35) hHeld ?_ | fail
    try simp only [Act.put, lay4]
    first | (refine held_t (i := 36) hHeld ?_; constructor; constructor; intro wq hq; focus ((try dsimp only at hq); go_simp; first | done | with_reducible rfl | fail)) | refine held_s (i := 36) hHeld ?_ | fail
    first | (refine held_t (i := 37) hHeld ?_; constructor; constructor; intro wq hq; focus ((try dsimp only at hq); go_simp; first | done | with_reducible rfl | fail)) | refine held_s (i := 37) hHeld ?_ | fail
    try simp only [Act.put, lay4]
    first | (refine held_t (i := 38) hHeld ?_; constructor; constructor; intro wq hq; focus ((try dsimp only at hq); go_simp; first | done | with_reducible rfl | fail)) | refine held_s (i := 38) hHeld ?_ | fail
    first | (refine held_t (i := 39) hHeld ?_; constructor; constructor; intro wq hq; focus ((try dsimp only at hq); go_simp; first | done | with_reducible rfl | fail)) | refine held_s (i := 39) hHeld ?_ | fail
    try simp only [Act.put, lay4]
    first | (refine held_t (i := 40) hHeld ?_; constructor; constructor; intro wq hq; focus ((try dsimp only at hq); go_simp; first | done | with_reducible rfl | fail)) | refine held_s (i := 40) hHeld ?_ | fail
    first | (refine held_t (i := 41) hHeld ?_; constructor; constructor; intro wq hq; focus ((try dsimp only at hq); go_simp; first | done | with_reducible rfl | fail)) | refine held_s (i := 41) hHeld ?_ | fail
    try simp only [Act.put, lay4]
    first | (refine held_t (i := 42) hHeld ?_; constructor; constructor; intro wq hq; focus ((try dsimp only at hq); go_simp; first | done | with_reducible rfl | fail)) | refine held_s (i := 42) hHeld ?_ | fail
    first | (refine held_t (i := 43) hHeld ?_; constructor; constructor; intro wq hq; focus ((try dsimp only at hq); go_simp; first | done | with_reducible rfl | fail)) | refine held_s (i := 43) hHeld ?_ | fail
    try simp only [Act.put, lay4]
    first | (refine held_t (i := 44) hHeld ?_; constructor; constructor; intro wq hq; focus ((try dsimp only at hq); go_simp; first | done | with_reducible rfl | fail)) | refine held_s (i := 44) hHeld ?_ | fail
    first | (refine held_t (i := 45) hHeld ?_; constructor; constructor; intro wq hq; focus ((try dsimp only at hq); go_simp; first | done | with_reducible rfl | fail)) | refine held_s (i := 45) hHeld ?_ | fail
    try simp only [Act.put, lay4]
    first | (refine held_t (i := 46) hHeld ?_; constructor; constructor; intro wq hq; focus ((try dsimp only at hq); go_simp; first | done | with_reducible rfl | fail)) | refine held_s (i := 46) hHeld ?_ | fail
    first | (refine held_t (i := 47) hHeld ?_; constructor; constructor; intro wq hq; focus ((try dsimp only at hq); go_simp; first | done | with_reducible rfl | fail)) | refine held_s (i := 47) hHeld ?_ | fail
    try simp only [Act.put, lay4]
    first | (refine held_t (i := 48) hHeld ?_; constructor; constructor; intro wq hq; focus ((try dsimp only at hq); go_simp; first | done | with_reducible rfl | fail)) | refine held_s (i := 48) hHeld ?_ | fail
    first | (refine held_t (i := 49) hHeld ?_; constructor; constructor; intro wq hq; focus ((try dsimp only at hq); go_simp; first | done | with_reducible rfl | fail)) | refine held_s (i := 49) hHeld ?_ | fail
    try simp only [Act.put, lay4]
    first | (refine held_t (i := 50) hHeld ?_; constructor; constructor; intro wq hq; focus ((try dsimp only at hq); go_simp; first | done | with_reducible rfl | fail)) | refine held_s (i := 50) hHeld ?_ | fail
    try simp only [Act.put, lay4]
    refine wpAnyH_done (by kernel_rfl) ?_ _
    clear hHeld
    go_wp2
    go_ret
    exact ⟨rfl, HBE.out⟩
   ·injection hK1 with e1 e2 e3 e4
    subst e1 e2 e3 e4
    first | (refine held_t (i := 8) hHeld ?_; constructor; constructor; intro wq hq; focus ((try dsimp only at hq); go_simp; first | done | with_reducible rfl | fail)) | refine held_s (i := 8) hHeld ?_ | fail
    first | (refine held_t (i := 9) hHeld ?_; constructor; constructor; intro wq hq; focus ((try dsimp only at hq); go_simp; first | done | with_reducible rfl | fail)) | refine held_s (i := 9) hHeld ?_ | fail
    try simp only [Act.put, lay4]
    first | (refine held_t (i := 10) hHeld ?_; constructor; constructor; intro wq hq; focus ((try dsimp only at hq); go_simp; first | done | with_reducible rfl | fail)) | refine held_s (i := 10) hHeld ?_ | fail
    first | (refine held_t (i := 11) hHeld ?_; constructor; constructor; intro wq hq; focus ((try dsimp only at hq); go_simp; first | done | with_reducible rfl | fail)) | refine held_s (i := 11) hHeld ?_ | fail
    try simp only [Act.put, lay4]
    first | (refine held_t (i := 12) hHeld ?_; constructor; constructor; intro wq hq; focus ((try dsimp only at hq); go_simp; first | done | with_reducible rfl | fail)) | refine held_s (i := 12) hHeld ?_ | fail
    first | (refine held_t (i := 13) hHeld ?_; constructor; constructor; intro wq hq; focus ((try dsimp only at hq); go_simp; first | done | with_reducible rfl | fail)) | refine held_s (i := 13) hHeld ?_ | fail
    try simp only [Act.put, lay4]
    first | (refine held_t (i := 14) hHeld ?_; constructor; constructor; intro wq hq; focus ((try dsimp only at hq); go_simp; first | done | with_reducible rfl | fail)) | refine held_s (i := 14) hHeld ?_ | fail
    first | (refine held_t (i := 15) hHeld ?_; constructor; constructor; intro wq hq; focus ((try dsimp only at hq); go_simp; first | done | with_reducible rfl | fail)) | refine held_s (i := 15) hHeld ?_ | fail
    try simp only [Act.put, lay4]
    first | (refine held_t (i := 16) hHeld ?_; constructor; constructor; intro wq hq; focus ((try dsimp only at hq); go_simp; first | done | with_reducible rfl | fail)) | refine held_s (i := 16) hHeld ?_ | fail
    first | (refine held_t (i := 17) hHeld ?_; constructor; constructor; intro wq hq; focus ((try dsimp only at hq); go_simp; first | done | with_reducible rfl | fail)) | refine held_s (i := 17) hHeld ?_ | fail
    try simp only [Act.put, lay4]
    first | (refine held_t (i := 18) hHeld ?_; constructor; constructor; intro wq hq; focus ((try dsimp only at hq); go_simp; first | done | with_reducible rfl | fail)) | refine held_s (i := 18) hHeld ?_ | fail
    first | (refine held_t (i := 19) hHeld ?_; constructor; constructor; intro wq hq; focus ((try dsimp only at hq); go_simp; first | done | with_reducible rfl | fail)) | refine held_s (i := 19) hHeld ?_ | fail
    try simp only [Act.put, lay4]
    first | (refine held_t (i := 20) hHeld ?_; constructor; constructor; intro wq hq; focus ((try dsimp only at hq); go_simp; first | done | with_reducible rfl | fail)) | refine held_s (i := 20) hHeld ?_ | fail
    first | (refine held_t (i := 21) hHeld ?_; constructor; constructor; intro wq hq; focus ((try dsimp only at hq); go_simp; first | done | with_reducible rfl | fail)) | refine held_s (i := 21) hHeld ?_ | fail
    try simp only [Act.put, lay4]
    first | (refine held_t (i := 22) hHeld ?_; constructor; constructor; intro wq hq; focus ((try dsimp only at hq); go_simp; first | done | with_reducible rfl | fail)) | refine held_s (i := 22) hHeld ?_ | fail
    first | (refine held_t (i := 23) hHeld ?_; constructor; constructor; intro wq hq; focus ((try dsimp only at hq); go_simp; first | done | with_reducible rfl | fail)) | refine held_s (i := 23) hHeld ?_ | fail
    try simp only [Act.put, lay4]
    first | (refine held_t (i := 24) hHeld ?_; constructor; constructor; intro wq hq; focus ((try dsimp only at hq); go_simp; first | done | with_reducible rfl | fail)) | refine held_s (i := 24) hHeld ?_ | fail
    first | (refine held_t (i := 25) hHeld ?_; constructor; constructor; intro wq hq; focus ((try dsimp only at hq); go_simp; first | done | with_reducible rfl | fail)) | refine held_s (i := 25) hHeld ?_ | fail
    try simp only [Act.put, lay4]
    first | (refine held_t (i := 26) hHeld ?_; constructor; constructor; intro wq hq; focus ((try dsimp only at hq); go_simp; first | done | with_reducible rfl | fail)) | refine held_s (i := 26) hHeld ?_ | fail
    first | (refine held_t (i := 27) hHeld ?_; constructor; constructor; intro wq hq; focus ((try dsimp only at hq); go_simp; first | done | with_reducible rfl | fail)) | refine held_s (i := 27) hHeld ?_ | fail
    try simp only [Act.put, lay4]
    first | (refine held_t (i := 28) hHeld ?_; constructor; constructor; intro wq hq; focus ((try dsimp only at hq); go_simp; first | done | with_reducible rfl | fail)) | refine held_s (i := 28) hHeld ?_ | fail
    first | (refine held_t (i := 29) hHeld ?_; constructor; constructor; intro wq hq; focus ((try dsimp only at hq); go_simp; first | done | with_reducible rfl | fail)) | refine held_s (i := 29) hHeld ?_ | fail
    try simp only [Act.put, lay4]
    first | (refine held_t (i := 30) hHeld ?_; constructor; constructor; intro wq hq; focus ((try dsimp only at hq); go_simp; first | done | with_reducible rfl | fail)) | refine held_s (i := 30) hHeld ?_ | fail
    first | (refine held_t (i := 31) hHeld ?_; constructor; constructor; intro wq hq; focus ((try dsimp only at hq); go_simp; first | done | with_reducible rfl | fail)) | refine held_s (i := 31) hHeld ?_ | fail
    try simp only [Act.put, lay4]
    first | (refine held_t (i := 32) hHeld ?_; constructor; constructor; intro wq hq; focus ((try dsimp only at hq); go_simp; first | done | with_reducible rfl | fail)) | refine held_s (i := 32) hHeld ?_ | fail
    first | (refine held_t (i := 33) hHeld ?_; constructor; constructor; intro wq hq; focus ((try dsimp only at hq); go_simp; first | done | with_reducible rfl | fail)) | refine held_s (i := 33) hHeld ?_ | fail
    try simp only [Act.put, lay4]
    first | (refine held_t (i := 34) hHeld ?_; constructor; constructor; intro wq hq; focus ((try dsimp only at hq); go_simp; first | done | with_reducible rfl | fail)) | refine held_s (i := 34) hHeld ?_ | fail
    first | (refine held_t (i := 35) hHeld ?_; constructor; constructor; intro wq hq; focus ((try dsimp only at hq); go_simp; first | done | with_reducible rfl | fail)) | refine held_s (i := 35) hHeld ?_ | fail
    try simp only [Act.put, lay4]
    first | (refine held_t (i := 36) hHeld ?_; constructor; constructor; intro wq hq; focus ((try dsimp only at hq); go_simp; first | done | with_reducible rfl | fail)) | refine held_s (i := 36) hHeld ?_ | fail
    first | (refine held_t (i := 37) hHeld ?_; constructor; constructor; intro wq hq; focus ((try dsimp only at hq); go_simp; first | done | with_reducible rfl | fail)) | refine held_s (i := 37) hHeld ?_ | fail
    try simp only [Act.put, lay4]
    first | (refine held_t (i := 38) hHeld ?_; constructor; constructor; intro wq hq; focus ((try dsimp only at hq); go_simp; first | done | with_reducible rfl | fail)) | refine held_s (i := 38) hHeld ?_ | fail
    first | (refine held_t (i := 39) hHeld ?_; constructor; constructor; intro wq hq; focus ((try dsimp only at hq); go_simp; first | done | with_reducible rfl | fail)) | refine held_s (i := 39) hHeld ?_ | fail
    try simp only [Act.put, lay4]
    first | (refine held_t (i := 40) hHeld ?_; constructor; constructor; intro wq hq; focus ((try dsimp only at hq); go_simp; first | done | with_reducible rfl | fail)) | refine held_s (i := 40) hHeld ?_ | fail
    first | (refine held_t (i := 41) hHeld ?_; constructor; constructor; intro wq hq; focus ((try dsimp only at hq); go_simp; first | done | with_reducible rfl | fail)) | refine held_s (i := 41) hHeld ?_ | fail
    try simp only [Act.put, lay4]
    first | (refine held_t (i := 42) hHeld ?_; constructor; constructor; intro wq hq; focus ((try dsimp only at hq); go_simp; first | done | with_reducible rfl | fail)) | refine held_s (i := 42) hHeld ?_ | fail
    first | (refine held_t (i := 43) hHeld ?_; constructor; constructor; intro wq hq; focus ((try dsimp only at hq); go_simp; first | done | with_reducible rfl | fail)) | refine held_s (i := 43) hHeld ?_ | fail
    try simp only [Act.put, lay4]
    first | (refine held_t (i := 44) hHeld ?_; constructor; constructor; intro wq hq; focus ((try dsimp only at hq); go_simp; first | done | with_reducible rfl | fail)) | refine held_s (i := 44) hHeld ?_ | fail
    first | (refine held_t (i := 45) hHeld ?_; constructor; constructor; intro wq hq; focus ((try dsimp only at hq); go_simp; first | done | with_reducible rfl | fail)) | refine held_s (i := 45) hHeld ?_ | fail
    try simp only [Act.put, lay4]
    first | (refine held_t (i := 46) hHeld ?_; constructor; constructor; intro wq hq; focus ((try dsimp only at hq); go_simp; first | done | with_reducible rfl | fail)) | refine held_s (i := 46) hHeld ?_ | fail
    first | (refine held_t (i := 47) hHeld ?_; constructor; constructor; intro wq hq; focus ((try dsimp only at hq); go_simp; first | done | with_reducible rfl | fail)) | refine held_s (i := 47) hHeld ?_ | fail
    try simp only [Act.put, lay4]
    first | (refine held_t (i := 48) hHeld ?_; constructor; constructor; intro wq hq; focus ((try dsimp only at hq); go_simp; first | done | with_reducible rfl | fail)) | refine held_s (i := 48) hHeld ?_ | fail
    first | (refine held_t (i := 49) hHeld ?_; constructor; constructor; intro wq hq; focus ((try dsimp only at hq); go_simp; first | done | with_reducible rfl | fail)) | refine held_s (i := 49) hHeld ?_ | fail
    try simp only [Act.put, lay4]
    first | (refine held_t (i := 50) hHeld ?_; constructor; constructor; intro wq hq; focus ((try dsimp only at hq); go_simp; first | done | with_reducible rfl | fail)) | refine held_s (i := 50) hHeld ?_ | fail
    try simp only [Act.put, lay4]
    refine wpAnyH_done (by kernel_rfl) ?_ _
    clear hHeld
    go_wp2
    go_ret
    exact ⟨rfl, HBE.out⟩
end Go.Proofs.Ytchbbaehdcmcfaa
