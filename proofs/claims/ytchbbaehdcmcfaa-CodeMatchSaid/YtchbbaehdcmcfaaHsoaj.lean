import Derived.Test.YtchbbaehdcmcfaaHsozz
import Derived.Test.YtchbbaehdcmcfaaHsoai
import Derived.Test.YtchbbaehdcmcfaaHsoaf
import Derived.Deep.Cut
import Derived.Deep.CutRange
import Derived.Deep.DeepCutAuto
import Derived.Test.YtchbbaehdcmcfaaHsoag
set_option linter.unusedVariables false
set_option linter.unusedSimpArgs false
/- Terms: the document's Vars: all of it. -/
namespace Go.Proofs.Ytchbbaehdcmcfaa
open Go.RowKit
set_option linter.unusedVariables false
set_option maxHeartbeats 4000000 in
set_option maxRecDepth 100000 in
theorem rvars_at : ∀ (N : Nat) (x : Tm), sizeN x ≤ N → ∀ (W w : World) (v lv : Value) (l : List Int), TmV W x v → Below W.heap.size W w → RowN w W.heap.size lv l → l.length + sizeN x ≤ 1000000 →
  Calls Try.prog 103 #[v, lv] w fun e w' => ∃ r, e = .returned r ∧ RowN w' W.heap.size r (varsT x l) ∧ Below W.heap.size W w' ∧ Kept w w' lv.ownBlock ∧ (r.ownBlock = lv.ownBlock ∨ ∀ k, r.ownBlock = some k → w.heap.size ≤ k)
 | 0, x, h, W, w, v, lv, l, hv, hb, hr, hl => by have := size_pos x; omega
 | N + 1, .mk k n s ts, h, W, w, v, lv, l, hv, hb, hr, hl => by
  obtain ⟨u, rfl, hs, hki, hni, hu⟩ := tmV_iff.1 hv
  by_cases hk : k = 0
  ·have e : varsT (.mk k n s ts) l = if l.contains n then l else l ++ [n] := by rw [varsT, if_pos hk]
   rw [e]
   exact rvars_var hk hb hr (by omega)
  have e : varsT (.mk k n s ts) l = varsL ts l := by rw [varsT, if_neg hk]
  rw [e]
  have hk' : (k == 0) = false := beq_false_of_ne hk
  obtain ⟨a, c, rfl, h1, h2, h3⟩ := hu.len
  unfold BIG at h3
  obtain ⟨m, hm⟩ : ∃ m, ts.length = m := ⟨_, rfl⟩
  have IH := Lib.hid (fun (y : Tm) (hy : y ∈ ts) => rvars_at N y (mem_size h hy) W)
  have HL := Lib.hid (show l.length + sizesN ts ≤ 1000000 by rw [sizeN] at hl; omega)
  have HU := Lib.hid hu
  have HM := Lib.hid hm
  rw [hm] at h1 h3 hu HU ⊢
  have HBW := Lib.hid hb
  have HROW := Lib.hid hr
  obtain ⟨R, hR⟩ : ∃ R, varsL ts l = R := ⟨_, rfl⟩
  rw [hR]
  have HR := Lib.hid hR
  clear e hk hv hb hr hl hu hm hR h
  go_enter Try.func103, Try.ntmps103
  go_wp2_with fail
  go_loopw [1, 6] (fun z v wr => ∃ i : Nat, i ≤ m ∧ v = .int .i64 i ∧ Hid (RowN wr W.heap.size z (varsL (ts.take i) l)) ∧ Hid (Below W.heap.size W wr) ∧ Hid (wr.cell? ⟨w.heap.size, 3, none⟩ = some (.slice a m c)) ∧ w.heap.size < wr.heap.size ∧ Hid (z.ownBlock ≠ some w.heap.size) ∧ Hid (Kept w wr lv.ownBlock) ∧ Hid (z.ownBlock = lv.ownBlock ∨ ∀ k, z.ownBlock = some k → w.heap.size ≤ k)) (fun _ v _ => m - (RowKit.intOf v).toNat)
  case atStart => exact ⟨0, Nat.zero_le _, rfl, Lib.hid (by rw [List.take_zero, varsL]; exact row_ext HROW.out (bel1' _ _)), Lib.hid (Ext.trans' HBW.out (bel1' _ _)), Lib.hid (by simp), by simp, Lib.hid (fun e => by have := (HROW.out.lt _ e).2; omega), Lib.hid (Kept.of (bel1' _ _) _), Lib.hid (Or.inl rfl)⟩
  case round =>
   obtain ⟨i, hi, rfl, HZ, HB, HC, hlt, HNE, HK, HO⟩ := hrel
   have e3 := HC.out
   by_cases hil : i < m
   ·obtain ⟨y, hy⟩ : ∃ y, ts[i]? = some y := ⟨_, List.getElem?_eq_getElem (by rw [HM.out]; exact hil)⟩
    obtain ⟨b, off, k1, n1, s1, u1, rfl, hbb, _, _, _, c0, c1, c2, c3, _, ht⟩ := HU.out.get hy
    have d0 := cell_later HB.out c0
    have d1 := cell_later HB.out c1
    have d2 := cell_later HB.out c2
    have d3 := cell_later HB.out c3
    have hz := sizes_drop hy
    have hz2 := sizes_take ts (i + 1)
    have hvl := (varss_len (ts.take i) l).1
    have ih := IH.out y (List.mem_of_getElem? hy) wr _ _ _ ht HB.out HZ.out (by have := HL.out; omega)
    have hst := varss_step hy l
    rw [← hst] at ih
    clear c0 c1 c2 c3 hz hz2 hvl hst ht hy
    (go_wp2_with fail; go_fit (ih); rintro e w2 ⟨r2, rfl, hr2, b2, k2, o2⟩)
    have HZ2 := Lib.hid hr2
    have HB2 := Lib.hid b2
    have f3 := k2.cell HNE.out e3
    have HC2 := Lib.hid f3
    have HK2 := Lib.hid (HK.out.trans k2 HO.out)
    have hlt2 : w.heap.size < w2.heap.size := Nat.lt_of_lt_of_le hlt k2.1
    have HNE2 : Hid (r2.ownBlock ≠ some w.heap.size) := Lib.hid (fun e => by
     rcases o2 with o2 | o2
     ·exact HNE.out (by rw [← o2]; exact e)
     ·have := o2 _ e
      omega)
    have HO2 : Hid (r2.ownBlock = lv.ownBlock ∨ ∀ k, r2.ownBlock = some k → w.heap.size ≤ k) := Lib.hid (by
     rcases o2 with o2 | o2
     ·rw [o2]; exact HO.out
     ·exact Or.inr (fun k hk => by have := o2 k hk; omega))
    clear hr2 b2 k2 o2 HZ HB HC HNE HK HO e3 d0 d1 d2 d3
    go_wp2
    go_roundw
    case rel => exact ⟨i + 1, by omega, by go_num, HZ2, HB2, HC2, hlt2, HNE2, HK2, HO2⟩
    case measure => simp [RowKit.intOf]; omega
   ·have hR2 : varsL (ts.take i) l = R := by rw [← HR.out, List.take_of_length_le (by rw [HM.out]; omega)]
    have HZ2 := HZ.out
    rw [hR2] at HZ2
    clear hR2 HZ HR
    go_wp2
    go_ret
    exact ⟨_, rfl, HZ2, HB.out, HK.out, HO.out⟩
set_option maxHeartbeats 2000000 in
theorem rVars_at (x : Tm) (w : World) (v : Value) (hv : TmV w x v) : Calls Try.prog 70 #[v] w fun e w' => ∃ r, e = .returned r ∧ Nums w' r (if goodT x then varsT x [] else []) ∧ Below w.heap.size w w' := by
 have G := fun w (h : TmV w x v) => rgood_at x w v h
 have V := fun w (h : TmV w x v) (hs : goodT x = true) => rvars_at _ x (Nat.le_refl _) w w v (.slice none 0 0) [] h (Below.refl _ _) (RowN.nil _ _) (by have := (good_parts hs).1; simp; omega)
 obtain ⟨k, n, s, ts, hxe⟩ : ∃ k n s ts, x = .mk k n s ts := by cases x; exact ⟨_, _, _, _, rfl⟩
 have hv' := hv
 rw [hxe] at hv'
 obtain ⟨u, rfl, _, _, _, _⟩ := tmV_iff.1 hv'
 clear hv' hxe
 have hv0 := TmV.ext (bel1' w (.cells #[.int .i64 k, .int .i64 n, .string s, u] 54)) _ _ hv
 cases hg : goodT x
 ·rw [hg] at G
  clear V hg
  go_enter Try.func70, Try.ntmps70
  (go_wp2_with fail; go_fit (G _ hv0); rintro e w1 ⟨rfl, b1⟩)
  have B1 := Lib.hid (Ext.trans' (bel1' w _) b1)
  clear b1
  go_wp2
  go_ret
  exact ⟨_, rfl, Nums.nil _, B1.out⟩
 ·rw [hg] at G
  have V' := fun w h => V w h hg
  rw [if_pos rfl]
  clear V hg
  go_enter Try.func70, Try.ntmps70
  (go_wp2_with fail; go_fit (G _ hv0); rintro e w1 ⟨rfl, b1⟩)
  have hv1 := TmV.ext b1 _ _ hv0
  obtain ⟨e0, e1, e2, e3⟩ := box_cells w 54 _ _ _ _ b1
  have B1 := Lib.hid (Ext.trans' (bel1' w _) b1)
  clear b1
  (go_wp2_with fail; go_fit (V' _ hv1); rintro e w2 ⟨r, rfl, hr, b2, _, _⟩)
  have B2 := Lib.hid (Ext.trans' B1.out b2)
  have HN := Lib.hid hr.nums
  clear hr b2
  go_wp2
  go_ret
  exact ⟨_, rfl, HN.out, B2.out⟩
end Go.Proofs.Ytchbbaehdcmcfaa
/- The document's side of chapter 11: Known. -/
namespace Go.Proofs.Ytchbbaehdcmcfaa
open Go.RowKit
set_option linter.unusedVariables false
mutual
theorem occ_pos : ∀ (t : Tm), formedT t = true → ∀ m ∈ occT t, 0 ≤ m
 | .mk k n s ts, hf, m, hm => by
  by_cases hk : k = 0
  ·subst hk
   rw [occ_var] at hm
   simp at hm
   subst hm
   exact (formed_var hf).2.1
  ·rw [occ_not hk] at hm
   rw [formedT, Bool.and_eq_true] at hf
   exact occs_pos ts hf.2 m hm
theorem occs_pos : ∀ (ts : List Tm), formedL ts = true → ∀ m ∈ occL ts, 0 ≤ m
 | [], _, m, hm => by simp [occL] at hm
 | x :: r, hf, m, hm => by
  rw [formedL, Bool.and_eq_true] at hf
  rw [occL] at hm
  rcases List.mem_append.1 hm with hm | hm
  ·exact occ_pos x hf.1 m hm
  ·exact occs_pos r hf.2 m hm
end
theorem fits_vars {N : Nat} {x : Tm} (hg : goodT x = true) : fitsB N x = (varsT x []).all (fun m => decide (m < (N : Int))) := by
 have hp := occ_pos x (good_parts hg).2.2
 rw [Bool.eq_iff_iff, fitsB_true, List.all_eq_true]
 constructor
 ·intro h m hm
  rw [mem_vars] at hm
  simpa using (h.2 m (by simpa using hm)).2
 ·intro h
  exact ⟨hg, fun m hm => ⟨hp m hm, by simpa using h m ((mem_vars x []).2 (Or.inr hm))⟩⟩
section
variable {V w : World} {F : List Nat} {p : Value} {N : Nat} {R : List (Int × Tm)}
set_option maxHeartbeats 8000000 in
theorem RKnown_at (h : IsR V F w p N R) {x : Tm} {v : Value} (hv : TmV w x v) : Calls Try.prog 33 #[p, v] w fun e w' => e = .returned (.bool (fitsB N x)) ∧ Below w.heap.size w w' := by
 have hN := h.tri.2
 have G := fun w (h : TmV w x v) => rgood_at x w v h
 have VV := fun w (h : TmV w x v) => rVars_at x w v h
 obtain ⟨k, n, s, a, m, c, rfl⟩ := hv.full
 have hv0 := TmV.ext (bel1' w (box4 k n s (.slice a m c) 54)) _ _ hv
 obtain ⟨bt, a1, c1, a2, c2, a3, c3, rfl, hlt, d0, _, _, _⟩ := h.open
 have HIX := Lib.hid (occ_i64 x _ hv)
 cases hg : goodT x
 ·have hr : fitsB N x = false := by unfold fitsB; rw [hg]; rfl
  rw [hg] at G
  rw [hr]
  clear VV hg hv hr h
  go_enter Try.func33, Try.ntmps33
  (go_wp2_with fail; go_fit (G _ hv0); rintro e w1 ⟨rfl, b1⟩)
  have B1 := Lib.hid (Ext.trans' (bel1' w _) b1)
  clear b1
  go_wp2
  go_ret
  exact ⟨rfl, B1.out⟩
 ·obtain ⟨b, hbb⟩ : ∃ b, fitsB N x = b := ⟨_, rfl⟩
  have HF := Lib.hid (show (varsT x []).all (fun m => decide (m < (N : Int))) = b by rw [← hbb, fits_vars hg])
  have HLN := Lib.hid (show (varsT x []).length ≤ 2000 by have := (good_parts hg).1; have := (vars_len x []).1; simp at this; omega)
  have HH := Lib.hid h
  rw [hg] at G VV
  rw [if_pos rfl] at VV
  rw [hbb]
  clear hg hbb h
  go_enter Try.func33, Try.ntmps33
  (go_wp2_with fail; go_fit (G _ hv0); rintro e w1 ⟨rfl, b1⟩)
  obtain ⟨e0, e1, e2, e3⟩ := box_cells w 54 _ _ _ _ b1
  have B1 := Lib.hid (Ext.trans' (bel1' w _) b1)
  have hv1 := TmV.ext B1.out _ _ hv
  clear b1 hv0 hv
  (go_wp2_with fail; go_fit (VV _ hv1); rintro e w2 ⟨r, rfl, hn, b2⟩)
  obtain ⟨ra, rc, rfl, l1, l2⟩ := hn.len
  have HN := Lib.hid hn
  have hb2 := Ext.trans' B1.out b2
  have B2 := Lib.hid hb2
  obtain ⟨q, hq⟩ : ∃ q, (varsT x []).length = q := ⟨_, rfl⟩
  have HQ := Lib.hid hq
  have hq2 := HLN.out
  rw [hq] at hq2 l1 HN ⊢
  have d0 := cell_later hb2 d0
  clear b2 hn hb2 e0 e1 e2 e3 hq hv1 VV G
  go_wp2_with fail
  go_loopw [6] (fun v wr => ∃ i : Nat, i ≤ q ∧ v = .int .i64 i ∧ Hid (((varsT x []).drop i).all (fun m => decide (m < (N : Int))) = b) ∧ Hid (Below w2.heap.size w2 wr)) (fun v _ => q - (RowKit.intOf v).toNat)
  case atStart => exact ⟨0, Nat.zero_le _, rfl, Lib.hid (by rw [List.drop_zero]; exact HF.out), Lib.hid (Below.refl _ _)⟩
  case round =>
   obtain ⟨i, hi, rfl, HD, HWR⟩ := hrel
   have d0' := cell_later HWR.out d0
   by_cases hil : i < q
   ·obtain ⟨y, hy⟩ : ∃ y, (varsT x [])[i]? = some y := ⟨_, List.getElem?_eq_getElem (by rw [HQ.out]; exact hil)⟩
    obtain ⟨gb, go, rfl, _, c0⟩ := HN.out.get hy
    have c0' := cell_later HWR.out c0
    have hd := HD.out
    rw [List.drop_eq_getElem_cons (by rw [HQ.out]; exact hil), List.all_cons, show (varsT x [])[i]'(by rw [HQ.out]; exact hil) = y by rw [List.getElem?_eq_getElem (by rw [HQ.out]; exact hil)] at hy; exact Option.some.inj hy] at hd
    cases hy2 : (decide (y < (N : Int)))
    ·have hyg : (N : Int) ≤ y := by simpa using hy2
     rw [hy2] at hd
     rw [Bool.false_and] at hd
     subst hd
     clear HF HD hy hy2 c0 d0
     go_wp2_with fail
     go_quiet (fail)
     go_wp2
     go_ret
     exact ⟨rfl, belN (Below.trans B2.out (HWR.out.mono B2.out.size)) _⟩
    ·have hyg : decide ((N : Int) ≤ y) = false := by simp at hy2 ⊢; omega
     rw [hy2] at hd
     rw [Bool.true_and] at hd
     have HD2 := Lib.hid hd
     clear HD hd hy hy2 c0
     go_wp2_with fail
     go_quiet (fail)
     go_wp2
     go_roundw
     case rel => exact ⟨i + 1, by omega, by go_num, HD2, Lib.hid (belN HWR.out _)⟩
     case measure => simp [RowKit.intOf]; omega
   ·have hd := HD.out
    rw [List.drop_eq_nil_of_le (by rw [HQ.out]; omega)] at hd
    have hd2 : b = true := by rw [← hd]; rfl
    subst hd2
    clear HF HD hd d0
    go_wp2
    go_ret
    exact ⟨rfl, Below.trans B2.out (HWR.out.mono B2.out.size)⟩
end
end Go.Proofs.Ytchbbaehdcmcfaa
/- Package bind: Undo. -/
namespace Go.Proofs.Ytchbbaehdcmcfaa
open Go.RowKit
set_option linter.unusedVariables false
theorem SlOK.unset {V : World} {R : List (Int × Tm)} {sl : List SlP} {n : Nat} {t : Tm} (h : SlOK V (((n : Int), t) :: R) sl) (hn : n < sl.length) (hno : ¬ (n : Int) ∈ domB R) : SlOK V R (sl.set n none) := by
 refine ⟨fun i hi hg => ?_, fun i t' hg => ?_⟩
 ·by_cases e : n = i
  ·subst e; rw [List.getElem?_set_self hn]
  ·rw [List.getElem?_set_ne e]
   refine h.free i (by simpa using hi) ?_
   rw [get_cons, if_neg (by omega)]
   exact hg
 ·have e : n ≠ i := fun e => by
   subst e
   rw [get_none.2 hno] at hg
   cases hg
  obtain ⟨u, e1, e2⟩ := h.held i t' (by rw [get_cons, if_neg (by omega)]; exact hg)
  exact ⟨u, by rw [List.getElem?_set_ne e]; exact e1, e2⟩
theorem trail_map (R : List (Int × Tm)) : trailV R = (R.reverse.map (·.1)).map (Value.int .i64) := by
 unfold trailV
 rw [List.map_map]
 rfl
theorem trail_drop (R : List (Int × Tm)) (n m : Nat) (h : R.length = n + m) : ((R.reverse.map (·.1)).take n).map (Value.int .i64) = trailV (R.drop m) := by
 rw [trail_map, ← List.map_take, List.take_reverse, show R.length - n = m by omega]
theorem trail_gone (R : List (Int × Tm)) (n m : Nat) (h : R.length = n + m) {j : Nat} {q : Int × Tm} (hj : j < m) (hq : R[j]? = some q) : (((R.reverse.map (·.1)).drop n).map (Value.int .i64)).reverse[j]? = some (.int .i64 q.1) := by
 rw [← List.map_drop, List.drop_reverse, ← List.map_reverse, ← List.map_reverse, List.reverse_reverse, List.getElem?_map, List.getElem?_map, List.getElem?_take, if_pos (by omega), hq]
 rfl
section
variable {V w : World} {F : List Nat} {p : Value} {N : Nat} {R : List (Int × Tm)}
set_option maxHeartbeats 4000000 in
set_option maxRecDepth 100000 in
theorem Undo_yes (h : IsB V F w p N R) (n m : Nat) (hm : R.length = n + m) : Calls Try.prog 61 #[p, .int .i64 n] w fun e w' => e = .returned (.bool true) ∧ IsB V F w' p N (R.drop m) ∧ Touch F w w' := by
 have hF := h.lt
 obtain ⟨bt, v, q, G, sl, rfl, rfl, h1, h2, h3, h4, h5, h6, h7, h8, h9, h10, h11, h12⟩ := h
 have c1 : w.cell? ⟨bt, 1, none⟩ = some q := by simp [blk_cell h4]
 obtain ⟨bs, hq⟩ : ∃ bs, q = .pointer (some ⟨bs, 0, none⟩) := by obtain ⟨bs, _, rfl, _⟩ := h7; exact ⟨bs, rfl⟩
 subst hq
 have h7' := h7
 rw [trail_map] at h7'
 have C := undo_yesL h7' n m (by simp [hm])
 obtain ⟨a, c, rfl, hnc⟩ := row_formk h6
 have hmN : m ≤ 65536 := by have := dom_len h9; omega
 have HA := Lib.hid (And.intro h1 (And.intro h2 (And.intro h3 (And.intro h4 (And.intro h5 (And.intro h6 (And.intro h8 (And.intro h9 (And.intro h10 (And.intro h11 h12))))))))))
 have HF := Lib.hid hF
 have HM := Lib.hid hm
 clear h1 h2 h3 h4 h5 h6 h7 h8 h9 h11 h12 h7' hF hm
 go_enter Try.func61, Try.ntmps61
 (go_wp2_with fail; go_fit (C); rintro e w1 ⟨rfl, k1, k2, k3, k4⟩)
 have hc1 : w1.cell? ⟨bt, 0, none⟩ = some (.slice a N c) := by
  obtain ⟨h1, h2, h3, h4, _⟩ := HA.out
  rw [World.cell?_of_block (w := w) (k2.block bt (HF.out bt (by simp)) h2)]
  simp [blk_cell h4]
 have HK := Lib.hid (And.intro k1 (And.intro k2 (And.intro k3 (And.intro k4 hc1))))
 clear k1 k2 k3 k4 hc1 C c1
 go_wp2_with fail
 go_loopw [20] (fun z wr => ∃ j : Nat, j ≤ m ∧ z = .int .i64 j ∧ Hid (∃ sl, sl.length = N ∧ wr.ownsRow 0 112 5 (.slice a N c) N (sl.flatMap slCells) ∧ SlOK V (R.drop j) sl ∧ Touch (Value.slice a N c).ownBlock.toList w1 wr)) (fun z _ => m - (RowKit.intOf z).toNat)
 case atStart =>
  obtain ⟨h1, h2, h3, h4, h5, h6, h8, h9, h10, h11, h12⟩ := HA.out
  refine ⟨0, Nat.zero_le _, rfl, Lib.hid ⟨sl, h5, row_at h6 (fun g hg => HK.out.2.1.block g (HF.out g (by simp [hg])) (h3 g hg)), by rw [List.drop_zero]; exact h8, ⟨rfl, rfl, rfl, Nat.le_refl _, fun _ _ _ => rfl⟩⟩⟩
 case round =>
  obtain ⟨j, hj, rfl, HR⟩ := hrel
  by_cases hjm : j < m
  ·obtain ⟨⟨qn, qt⟩, hq⟩ : ∃ q, R[j]? = some q := ⟨_, List.getElem?_eq_getElem (by have := HM.out; omega)⟩
   have hcell := HK.out.2.2.2.1 j _ (trail_gone R n m HM.out hjm hq)
   obtain ⟨sl', e1, e2, e3, e4⟩ := HR.out
   obtain ⟨h1, h2, h3, h4, h5, h6, h8, h9, h10, h11, h12⟩ := HA.out
   have hmem := h9.mem (List.mem_of_getElem? hq)
   obtain ⟨ui, hui⟩ : ∃ ui : Nat, qn = (ui : Int) := ⟨qn.toNat, by have := hmem.1; simp at this; omega⟩
   subst hui
   have huN : ui < N := by have := hmem.2.1; simp at this; omega
   rcases e2.2 with ⟨_, h0⟩ | ⟨g, cv, cur, hv, _, hh, q1, q2, q3, q4⟩
   ·omega
   ·injection hv with hv1 hv2 hv3
    subst hv1 hv3
    have hdr : R.drop j = ((ui : Int), qt) :: R.drop (j + 1) := by
     obtain ⟨hlt, hge⟩ := List.getElem?_eq_some_iff.1 hq
     rw [List.drop_eq_getElem_cons hlt, hge]
    have htd : Tri N (((ui : Int), qt) :: R.drop (j + 1)) := by rw [← hdr]; exact h9.drop j
    rw [hdr] at e3
    have hgl : g < w.heap.size := (h6.lt g rfl).2
    have hcell2 : wr.cell? ⟨w.heap.size, j, none⟩ = some (.int .i64 ui) := by
     rw [World.cell?_of_block (w := w1) (e4.block _ HK.out.2.2.1 (by simp [Value.ownBlock]; omega))]
     exact hcell
    have hgb : bt ≠ g := fun e => h1 (by rw [e]; rfl)
    have hcb : wr.cell? ⟨bt, 0, none⟩ = some (.slice (some ⟨g, 0, none⟩) N c) := by
     rw [World.cell?_of_block (w := w1) (e4.block _ (Nat.lt_of_lt_of_le (HF.out bt (by simp)) HK.out.2.1.size) (by simp [Value.ownBlock]; exact hgb))]
     exact HK.out.2.2.2.2
    have hex : ∀ k, k < 5 → ∃ u, wr.cell? ⟨g, ui * 5 + k, none⟩ = some u := fun k hk => by
     rw [blk_cell hh]
     have hlt : ui * 5 + k < cur.size := by rw [q3]; omega
     exact ⟨_, Array.getElem?_eq_getElem hlt⟩
    have hfz : ∀ q, wr.frozen? ⟨g, q, none⟩ = false := fun q => by simp [World.frozen?, hh]
    obtain ⟨u0, k0⟩ := hex 0 (by omega)
    obtain ⟨u1, k1⟩ := hex 1 (by omega)
    obtain ⟨u2, k2⟩ := hex 2 (by omega)
    obtain ⟨u3, k3⟩ := hex 3 (by omega)
    obtain ⟨u4, k4⟩ := hex 4 (by omega)
    rw [Nat.add_zero] at k0
    have HN := Lib.hid (show ∃ sl, sl.length = N ∧ (put5 wr g (ui * 5) (.bool false) (.int .i64 0) (.int .i64 0) (.string ⟨#[]⟩) (.slice none 0 0)).ownsRow 0 112 5 (.slice (some ⟨g, 0, none⟩) N c) N (sl.flatMap slCells) ∧ SlOK V (R.drop (j + 1)) sl ∧ Touch (Value.slice (some ⟨g, 0, none⟩) N c).ownBlock.toList w1 (put5 wr g (ui * 5) (.bool false) (.int .i64 0) (.int .i64 0) (.string ⟨#[]⟩) (.slice none 0 0)) from
     ⟨sl'.set ui none, by rw [List.length_set]; exact e1, put5_row (s := none) e2 e1 huN rfl, e3.unset (by omega) htd.2.2.2.1, e4.trans ((put5_touch wr g (ui * 5) _ _ _ _ _).sub (fun k hk => by simp at hk; subst hk; simp [Value.ownBlock])) (fun k hk => Or.inl hk)⟩)
    clear hex e1 e2 e3 e4 h1 h2 h3 h4 h5 h6 h8 h9 h10 h11 h12 hmem hh q1 q2 q3 q4 hdr htd hgl hcell hq HR
    go_wp2
    go_roundw
    case rel => exact ⟨j + 1, by omega, by go_num, HN⟩
    case measure => simp [RowKit.intOf]; omega
  ·have hjm' : j = m := by omega
   subst hjm'
   obtain ⟨sl', e1, e2, e3, e4⟩ := HR.out
   obtain ⟨h1, h2, h3, h4, h5, h6, h8, h9, h10, h11, h12⟩ := HA.out
   have HN := Lib.hid (show IsB V (bt :: ((Value.slice a N c).ownBlock.toList ++ G)) wr (.pointer (some ⟨bt, 0, none⟩)) N (R.drop j) ∧ Touch (bt :: ((Value.slice a N c).ownBlock.toList ++ G)) w wr from by
    have tA : Touch (bt :: ((Value.slice a N c).ownBlock.toList ++ G)) w wr := (HK.out.2.1.sub (fun k hk => by simp [hk])).trans e4 (fun k hk => Or.inl (by simp at hk; simp [hk]))
    have hk1 := HK.out.1
    rw [trail_drop R n j HM.out] at hk1
    refine ⟨⟨bt, _, _, G, sl', rfl, rfl, h1, h2, h3, ?_, e1, e2, hk1.keep (fun k hk => e4.block k (hk1.lt k hk) (fun hm => h3 k (by simpa using hm) hk)), e3, h9.drop j, h10, h11.touch h12 tA, h12⟩, tA⟩
    exact (e4.block bt (Nat.lt_of_lt_of_le (HF.out bt (by simp)) HK.out.2.1.size) (fun hm => h1 (by simpa using hm))).trans ((HK.out.2.1.block bt (HF.out bt (by simp)) h2).trans h4))
   clear e1 e2 e3 e4 h1 h2 h3 h4 h5 h6 h8 h9 h10 h11 h12 HR
   go_wp2
   go_ret
   exact ⟨rfl, HN.out⟩
end
end Go.Proofs.Ytchbbaehdcmcfaa
/- Package bind: a search in memory. -/
namespace Go.Proofs.Ytchbbaehdcmcfaa
open Go.RowKit Go.Maps
set_option linter.unusedVariables false
structure PlP where
 t : TmP
 ends : Bool
 frm : Nat
def plCells (x : PlP) : List Value := pCells x.t ++ [.bool x.ends, .int .i64 x.frm]
theorem plCells_len (x : PlP) : (plCells x).length = 6 := rfl
def PlP.pl (x : PlP) : Pl := ⟨x.t.1, x.ends, x.frm⟩
theorem infoPlace : (Try.prog.info? 175).map (fun i => (i.zero, i.size, i.bytes)) = some (some (.agg #[.int .i64 0, .int .i64 0, .string ⟨#[]⟩, .slice none 0 0, .bool false, .int .i64 0]), 6, 72) := by kernel_rfl
theorem zeroI (w : World) : (zeroValue 3).run Try.prog w = .ok (.int .i64 0) w := by kernel_rfl
def KnM (w : World) (bm : Nat) (f : Int → Option Nat) (cnt : Nat) : Prop := ∃ D : DataW Unit, w.ownsMap Try.prog 2 (plainElem Try.prog 3) bm cnt D ∧ Tidy D ∧
 ∀ v, (Maps.has D (.int .i64 v) = (f v).isSome) ∧ ∀ k, f v = some k → ∀ z, D.atKey (.int .i64 v) z = .lit (.int .i64 k)
def setF (f : Int → Option Nat) (v : Int) (k : Nat) : Int → Option Nat := fun u => if u = v then some k else f u
theorem KnM.nil (w : World) : KnM (w.alloc (.map #[] 0)) w.heap.size (fun _ => none) 0 := ⟨.map [], World.ownsMap_made w _ _ _, tidy_empty, fun v => ⟨by simp [Maps.has], fun k h => by cases h⟩⟩
theorem KnM.block {w w' : World} {bm : Nat} {f : Int → Option Nat} {cnt : Nat} (h : KnM w bm f cnt) (e : w'.heap[bm]? = w.heap[bm]?) : KnM w' bm f cnt := by
 obtain ⟨D, ⟨es, clock, h1, h2⟩, q2, q3⟩ := h
 exact ⟨D, ⟨es, clock, e.trans h1, h2⟩, q2, q3⟩
theorem KnM.lt {w : World} {bm : Nat} {f : Int → Option Nat} {cnt : Nat} (h : KnM w bm f cnt) : bm < w.heap.size := by
 obtain ⟨D, q1, q2, q3⟩ := h
 exact q1.lt
theorem KnM.put {w' : World} {bm cnt : Nat} {f : Int → Option Nat} {v : Int} {k : Nat} {D : DataW Unit} (h1 : Tidy D) (h2 : ∀ v, (Maps.has D (.int .i64 v) = (f v).isSome) ∧ ∀ k, f v = some k → ∀ z, D.atKey (.int .i64 v) z = .lit (.int .i64 k))
  (h : w'.ownsMap Try.prog 2 (plainElem Try.prog 3) bm (cnt + 1) (D.put (.int .i64 v) (.lit (.int .i64 k)))) : KnM w' bm (setF f v k) (cnt + 1) := by
 refine ⟨_, h, h1.put (by trivial) _, fun u => ?_⟩
 by_cases e : u = v
 ·subst e
  refine ⟨by rw [has_put_same h1.isMap (by trivial)]; simp [setF], fun k' hk z => ?_⟩
  simp [setF] at hk
  subst hk
  rw [atKey_put_same h1.isMap (by trivial)]
 ·have hne : Lit.int .i64 u ≠ Lit.int .i64 v := fun e' => e (by injection e')
  refine ⟨by rw [has_put_other hne, (h2 u).1]; simp [setF, e], fun k' hk z => ?_⟩
  simp [setF, e] at hk
  rw [atKey_put_other hne]
  exact (h2 u).2 k' hk z
def IsS (W w : World) (sb : Nat) (pb : Value) (n : Int) (M c : Nat) (pl : List PlP) (f : Int → Option Nat) (cnt : Nat) : Prop :=
 ∃ v bm, w.heap[sb]? = some (.cells #[pb, .int .i64 n, .int .i64 (M : Int), .int .i64 (c : Int), v, .map (some bm)] 178 (0, 0)) ∧ w.ownsRow W.heap.size 175 6 v pl.length (pl.flatMap plCells) ∧ KnM w bm f cnt ∧
  v.ownBlock ≠ some sb ∧ bm ≠ sb ∧ W.heap.size ≤ sb ∧ W.heap.size ≤ bm ∧ Below W.heap.size W w
section
variable {W w : World} {sb : Nat} {pb : Value} {n : Int} {M c : Nat} {pl : List PlP} {f : Int → Option Nat} {cnt : Nat}
theorem IsS.ext (h : IsS W w sb pb n M c pl f cnt) {w' : World} (hb : Below w.heap.size w w') : IsS W w' sb pb n M c pl f cnt := by
 obtain ⟨v, bm, h1, h2, h3, h4, h5, h6, h7, h8⟩ := h
 exact ⟨v, bm, (hb.block sb (Array.getElem?_eq_some_iff.1 h1).1).trans h1, row_ext h2 hb, h3.block (hb.block bm h3.lt), h4, h5, h6, h7, h8.trans (hb.mono h8.size)⟩
theorem IsS.bel (h : IsS W w sb pb n M c pl f cnt) : Below W.heap.size W w := by
 obtain ⟨v, bm, h1, h2, h3, h4, h5, h6, h7, h8⟩ := h
 exact h8
theorem IsS.open (h : IsS W w sb pb n M c pl f cnt) : ∃ a cv bm, sb < w.heap.size ∧ w.cell? ⟨sb, 0, none⟩ = some pb ∧ w.cell? ⟨sb, 1, none⟩ = some (.int .i64 n) ∧ w.cell? ⟨sb, 2, none⟩ = some (.int .i64 M) ∧ w.cell? ⟨sb, 3, none⟩ = some (.int .i64 c) ∧
  w.cell? ⟨sb, 4, none⟩ = some (.slice a pl.length cv) ∧ w.cell? ⟨sb, 5, none⟩ = some (.map (some bm)) ∧ (∀ q, w.frozen? ⟨sb, q, none⟩ = false) ∧ pl.length ≤ cv ∧ cv ≤ maxLen ∧ KnM w bm f cnt ∧ w.ownsRow W.heap.size 175 6 (.slice a pl.length cv) pl.length (pl.flatMap plCells) ∧
  (∀ k, (Value.slice a pl.length cv).ownBlock = some k → k ≠ sb ∧ k ≠ bm ∧ W.heap.size ≤ k ∧ k < w.heap.size) ∧ bm ≠ sb ∧ W.heap.size ≤ bm ∧ W.heap.size ≤ sb := by
 obtain ⟨v, bm, h1, h2, h3, h4, h5, h6, h7, h8⟩ := h
 obtain ⟨a, cv, rfl, e1, e2, _⟩ := Elems.owned plCells_len h2
 refine ⟨a, cv, bm, (Array.getElem?_eq_some_iff.1 h1).1, by simp [blk_cell h1], by simp [blk_cell h1], by simp [blk_cell h1], by simp [blk_cell h1], by simp [blk_cell h1], by simp [blk_cell h1], blk_froz h1, e1, e2, h3, h2, fun k hk => ⟨fun e => h4 (by rw [hk, e]), fun e => ?_, (h2.lt k hk).1, (h2.lt k hk).2⟩, h5, h7, h6⟩
 subst e
 obtain ⟨D, ⟨es, clock, q1, _⟩, _, _⟩ := h3
 rcases h2.2 with ⟨e, _⟩ | ⟨g, cap, cur, e, _, hh, _⟩
 ·rw [e] at hk; cases hk
 ·rw [e] at hk
  cases hk
  rw [q1] at hh
  cases hh
theorem IsS.count (h : IsS W w sb pb n M c pl f cnt) (c' : Nat) : IsS W (w.setCell ⟨sb, 3, none⟩ (.int .i64 c')) sb pb n M c' pl f cnt := by
 obtain ⟨v, bm, h1, h2, h3, h4, h5, h6, h7, h8⟩ := h
 refine ⟨v, bm, ?_, row_at h2 (fun g hg => Below.heap_setCell w _ _ g (fun e => h4 (by rw [hg, e]))), h3.block (Below.heap_setCell w _ _ bm h5), h4, h5, h6, h7, h8.setCell h6 _⟩
 simp [World.setCell, Array.getElem?_modify, h1]
theorem IsS.push (h : IsS W w sb pb n M c pl f cnt) {a : Option Addr} {cv : Nat} (hc : w.cell? ⟨sb, 4, none⟩ = some (.slice a pl.length cv)) {w2 w3 : World} {v' : Value} (hb : Below w.heap.size w w2) (hg : w2.grownBy w3 (Value.slice a pl.length cv).ownBlock)
  (hat : v'.ownBlock = (Value.slice a pl.length cv).ownBlock ∨ v'.ownBlock = some w2.heap.size) (x : PlP) (hr : w3.ownsRow W.heap.size 175 6 v' (pl.length + 1) (pl.flatMap plCells ++ plCells x)) :
  (∀ q, w3.cell? ⟨sb, q, none⟩ = w.cell? ⟨sb, q, none⟩) ∧ (∀ q, w3.frozen? ⟨sb, q, none⟩ = false) ∧ IsS W (w3.setCell ⟨sb, 4, none⟩ v') sb pb n M c (pl ++ [x]) f cnt ∧ Below W.heap.size W w3 ∧ (∀ k, k < w.heap.size → (Value.slice a pl.length cv).ownBlock ≠ some k → w3.heap[k]? = w.heap[k]?) := by
 have ho := h.open
 obtain ⟨v, bm, h1, h2, h3, h4, h5, h6, h7, h8⟩ := h
 have hv : v = .slice a pl.length cv := by
  have : w.cell? ⟨sb, 4, none⟩ = some v := by simp [blk_cell h1]
  rw [hc] at this
  exact (Option.some.inj this).symm
 subst hv
 obtain ⟨a', cv', bm', hlt, _, _, _, _, q4, q5, _, _, _, _, _, hown, _⟩ := ho
 have : bm' = bm := by
  have e : w.cell? ⟨sb, 5, none⟩ = some (.map (some bm)) := by simp [blk_cell h1]
  rw [q5] at e
  injection e with e
  injection e with e
  injection e
 subst this
 rw [hc] at q4
 injection q4 with q4
 rw [← q4] at hown
 have hs := hb.size
 have hk : ∀ k, k < w.heap.size → (Value.slice a pl.length cv).ownBlock ≠ some k → w3.heap[k]? = w.heap[k]? := fun k hk hn => (hg.block k (by omega) (fun e => hn e.symm)).trans (hb.block k hk)
 have hsb : w3.heap[sb]? = w.heap[sb]? := hk sb hlt h4
 have hne : v'.ownBlock ≠ some sb := by
  rcases hat with e | e <;> rw [e]
  ·exact h4
  ·intro e'; injection e' with e'; omega
 have b3 : Below W.heap.size W w3 := (h8.trans (hb.mono h8.size)).grown hg (by have := h8.size; omega) (fun q hq => (hown q hq).2.2.1)
 refine ⟨fun q => World.cell?_of_block (a := ⟨sb, q, none⟩) hsb, fun q => by rw [World.frozen?_of_block (a := ⟨sb, q, none⟩) hsb]; exact blk_froz h1 q, ⟨v', bm', ?_, ?_, ?_, hne, h5, h6, h7, b3.setCell h6 _⟩, b3, hk⟩
 ·have := hsb.trans h1
  simp [World.setCell, Array.getElem?_modify, this]
 ·rw [List.length_append, List.flatMap_append]
  have hr2 : w3.ownsRow W.heap.size 175 6 v' (pl.length + [x].length) (pl.flatMap plCells ++ [x].flatMap plCells) := by simpa using hr
  exact row_at hr2 (fun g hg' => Below.heap_setCell w3 _ _ g (fun e => hne (by rw [hg']; exact congrArg some e)))
 ·exact h3.block ((Below.heap_setCell w3 _ _ bm' h5).trans (hk bm' h3.lt (fun e => (hown bm' e).2.1 rfl)))
end
end Go.Proofs.Ytchbbaehdcmcfaa
/- Package bind: search's add. -/
namespace Go.Proofs.Ytchbbaehdcmcfaa
open Go.RowKit Go.Maps
set_option linter.unusedVariables false
section
variable {W w : World} {sb : Nat} {pb : Value} {n : Int} {M c : Nat} {pl : List PlP} {f : Int → Option Nat} {cnt : Nat}
def cntN (M c k : Nat) : Nat := if M < c + k then M + 1 else c + k
set_option maxHeartbeats 2000000 in
theorem add_at (h : IsS W w sb pb n M c pl f cnt) (k : Nat) (hM : M ≤ 100000) (hc : c ≤ M) (hk : k ≤ 200000) :
  Calls Try.prog 150 #[.pointer (some ⟨sb, 0, none⟩), .int .i64 k] w fun e w' => e = .returned (.bool (decide (M < c + k))) ∧ IsS W w' sb pb n M (cntN M c k) pl f cnt ∧ Touch [sb] w w' := by
 have HI := Lib.hid h
 obtain ⟨a, cv, bm, hlt, c0, c1, c2, c3, c4, c5, fz, _⟩ := h.open
 have fz3 := fz 3
 clear h c0 c1 c4 c5 fz
 by_cases hq : M < c + k
 ·have hd : decide (M < c + k) = true := by simpa using hq
  have hcn : cntN M c k = M + 1 := if_pos hq
  rw [hd, hcn]
  have hg : (M : Int) - (c : Int) < (k : Int) := by omega
  have HF := Lib.hid (fun (q : Nat) => (HI.out.ext (w' := w.drewN q) (belN (Below.refl _ _) q)).count (M + 1))
  clear hd hcn
  go_enter Try.func150, Try.ntmps150
  go_wp2_with fail
  go_quiet (fail)
  have d2 : (w.drewN nq).cell? ⟨sb, 2, none⟩ = some (.int .i64 M) := c2
  have d3 : (w.drewN nq).cell? ⟨sb, 3, none⟩ = some (.int .i64 c) := c3
  have f3 : (w.drewN nq).frozen? ⟨sb, 3, none⟩ = false := fz3
  have HF2 := Lib.hid (HF.out nq)
  have HT := Lib.hid (show Touch [sb] w ((w.drewN nq).setCell ⟨sb, 3, none⟩ (.int .i64 ((M + 1 : Nat) : Int))) from (Touch.of_below (belN (Below.refl _ _) nq) _).trans (touch_one _ sb 3 _) (fun k hk => Or.inl hk))
  clear HF c2 c3 fz3
  generalize w.drewN nq = wy at *
  have e1 : ((M + 1 : Nat) : Int) = (M : Int) + 1 := by omega
  rw [e1] at HF2 HT
  go_wp2
  go_ret
  exact ⟨rfl, HF2.out, HT.out⟩
 ·have hd : decide (M < c + k) = false := by simpa using hq
  have hcn : cntN M c k = c + k := if_neg hq
  rw [hd, hcn]
  have hg : ¬ ((M : Int) - (c : Int) < (k : Int)) := by omega
  have hg' : decide ((M : Int) - (c : Int) < (k : Int)) = false := by simpa using hg
  have HF := Lib.hid (fun (q : Nat) => (HI.out.ext (w' := w.drewN q) (belN (Below.refl _ _) q)).count (c + k))
  clear hd hcn
  go_enter Try.func150, Try.ntmps150
  go_wp2_with fail
  go_quiet (fail)
  have d2 : (w.drewN nq).cell? ⟨sb, 2, none⟩ = some (.int .i64 M) := c2
  have d3 : (w.drewN nq).cell? ⟨sb, 3, none⟩ = some (.int .i64 c) := c3
  have f3 : (w.drewN nq).frozen? ⟨sb, 3, none⟩ = false := fz3
  have HF2 := Lib.hid (HF.out nq)
  have HT := Lib.hid (show Touch [sb] w ((w.drewN nq).setCell ⟨sb, 3, none⟩ (.int .i64 ((c + k : Nat) : Int))) from (Touch.of_below (belN (Below.refl _ _) nq) _).trans (touch_one _ sb 3 _) (fun k hk => Or.inl hk))
  clear HF c2 c3 fz3
  generalize w.drewN nq = wy at *
  have e1 : ((c + k : Nat) : Int) = (c : Int) + (k : Int) := by omega
  rw [e1] at HF2 HT
  go_wp2
  go_ret
  exact ⟨rfl, HF2.out, HT.out⟩
end
end Go.Proofs.Ytchbbaehdcmcfaa
/- Package bind: search's look. -/
namespace Go.Proofs.Ytchbbaehdcmcfaa
open Go.RowKit Go.Maps
set_option linter.unusedVariables false
theorem KnM.look {w : World} {bm : Nat} {f : Int → Option Nat} {cnt : Nat} (h : KnM w bm f cnt) {v : Int} (hv : I64 v) {w' : World} (e : w'.heap[bm]? = w.heap[bm]?) :
  (Instr.lookup 98 (.map (some bm)) (.int .i64 v) true).run Try.prog w' = .ok (.tuple #[.int .i64 (((f v).getD 0 : Nat) : Int), .bool (f v).isSome]) w' := by
 obtain ⟨D, q1, q2, q3⟩ := h.block e
 obtain ⟨v', ps, hrun, hR⟩ := q1.look_ok lKeyed Try.underlying98 (zeroI w') (plainElem_int Try.underlying3 (by decide)) (lKey hv)
 obtain ⟨c, rfl, hc, _⟩ := plainElem_int_inv Try.underlying3 hR
 have hat := congrArg Prod.fst hc
 simp only at hat
 have hc0 : c = (((f v).getD 0 : Nat) : Int) := by
  cases hf : f v with
  | none =>
   have e0 : Maps.has D (.int .i64 v) = false := by rw [(q3 v).1, hf]; rfl
   have e1 := atKey_of_not_has e0 (.lit (.int .i64 0))
   rw [hat] at e1
   simp only [DataW.lit.injEq, Lit.int.injEq, true_and] at e1
   rw [e1]; rfl
  | some k =>
   have e1 := (q3 v).2 k hf (.lit (.int .i64 0))
   rw [hat] at e1
   simp only [DataW.lit.injEq, Lit.int.injEq, true_and] at e1
   rw [e1]; rfl
 rw [hrun, (q3 v).1, hc0]
def placesOf (c : Nat) (x y : Tm) : List Pl := y.args.map asPl ++ (if x.k = 0 ∧ y.args ≠ [] then [⟨x, true, c⟩] else [])
def PlOk (V : World) (N : Nat) (q : PlP) : Prop := TmV V q.t.1 (pVal q.t) ∧ goodT q.t.1 = true ∧ ∀ m ∈ occT q.t.1, 0 ≤ m ∧ m < (N : Int)
def LookR (V : World) (N : Nat) (R : List (Int × Tm)) (n : Int) (M c : Nat) (f : Int → Option Nat) (x : Tm) (b : Bool) (c' : Nat) (pl pl' : List PlP) : Prop :=
 (x.k = 0 ∧ ∃ k, f x.n = some k ∧ b = decide (M < c + k) ∧ c' = cntN M c k ∧ pl' = pl) ∨
 ((x.k = 0 → f x.n = none) ∧ ∃ y news, Wk N R x y ∧ topB R y ∧ b = (decide (M < c + 1) || (decide (y.k = 0) && decide (y.n = n))) ∧ c' = cntN M c 1 ∧ pl' = pl ++ news ∧ (∀ q ∈ news, PlOk V N q) ∧ news.reverse.map PlP.pl = placesOf c x y)
theorem good_len {y : Tm} (h : goodT y = true) : y.args.length ≤ 8 := by
 have hf := (good_parts h).2.2
 cases y with
 | mk k n s ts =>
  rw [formedT, Bool.and_eq_true] at hf
  have h1 := hf.1
  unfold plainT at h1
  show ts.length ≤ 8
  by_cases h0 : k = 0
  ·rw [if_pos h0] at h1; simp at h1; simp [h1.2]
  ·rw [if_neg h0] at h1
   by_cases h2 : k = 1
   ·rw [if_pos h2] at h1; simp at h1; simp [h1.2]
   ·rw [if_neg h2] at h1
    by_cases h3 : k = 2
    ·rw [if_pos h3] at h1; simp at h1; omega
    ·rw [if_neg h3] at h1; cases h1
theorem arg_ok {N : Nat} {y t : Tm} (hg : goodT y = true) (hr : ∀ m ∈ occT y, 0 ≤ m ∧ m < (N : Int)) (hm : t ∈ y.args) : goodT t = true ∧ ∀ j ∈ occT t, 0 ≤ j ∧ j < (N : Int) := by
 refine ⟨good_arg hg hm, fun j hj => ?_⟩
 obtain ⟨yk, yn, ys, yt⟩ := y
 by_cases hk0 : yk = 0
 ·have := (formed_var (show formedT (.mk 0 yn ys yt) = true by rw [← hk0]; exact (good_parts hg).2.2)).1
  unfold varV at this
  injection this with _ _ _ e
  have hm' : t ∈ yt := hm
  rw [e] at hm'
  cases hm'
 ·exact hr j (by rw [occ_not hk0]; exact mem_occL.2 ⟨t, hm, hj⟩)
def LookB (V : World) (N : Nat) (R : List (Int × Tm)) (x : Tm) (w1 wx : World) (s : Value) : Prop :=
 ∃ tb y k m st a l cc, s = .pointer (some ⟨tb, 0, none⟩) ∧ TmV V y (.agg #[.int .i64 k, .int .i64 m, .string st, .slice a l cc]) ∧ y.k = k ∧ y.n = m ∧ Wk N R x y ∧ topB R y ∧ Below w1.heap.size w1 wx ∧ w1.heap.size ≤ tb ∧ Box wx tb [.int .i64 k, .int .i64 m, .string st, .slice a l cc]
section
variable {V W w : World} {F : List Nat} {N : Nat} {R : List (Int × Tm)} {sb : Nat} {pb : Value} {n : Int} {M c : Nat} {pl : List PlP} {f : Int → Option Nat} {cnt : Nat}
set_option maxHeartbeats 8000000 in
set_option maxRecDepth 100000 in
theorem look_known (h : IsS W w sb pb n M c pl f cnt) (m : Nat) (hmr : m < 65536) (a : Option Addr) (ca : Nat) {k : Nat} (hf : f (m : Int) = some k) (hM : M ≤ 100000) (hc : c ≤ M) (hk : k ≤ 200000) :
  Calls Try.prog 142 #[.pointer (some ⟨sb, 0, none⟩), .agg #[.int .i64 0, .int .i64 m, .string ⟨#[]⟩, .slice a 0 ca]] w fun e w' => e = .returned (.bool (decide (M < c + k))) ∧ IsS W w' sb pb n M (cntN M c k) pl f cnt := by
 obtain ⟨w1, e1, B1, z1, X1⟩ := box_new w #[.int .i64 0, .int .i64 m, .string ⟨#[]⟩, .slice a 0 ca] 31
 have h1 := h.ext B1
 obtain ⟨ap, cv, bm, hlt, c0, c1, c2, c3, c4, c5, fz, _, _, hkn, _⟩ := h1.open
 obtain ⟨x0, x1, x2, x3, xf⟩ := X1.four
 have HL := Lib.hid (fun (w' : World) (e : w'.heap[bm]? = w1.heap[bm]?) => hkn.look (v := (m : Int)) (by unfold I64; omega) e)
 rw [hf] at HL
 have HI := Lib.hid h1
 clear h h1 B1 z1 X1 c0 c1 c2 c3 c4 fz hkn hf
 go_enter Try.func142, Try.ntmps142
 go_wp2_with fail
 (try rw [e1])
 clear e1
 (refine wp_region_class (fun w' => (w'.cell? ⟨sb, 5, none⟩ = some (.map (some bm)) ∧ w'.cell? ⟨w.heap.size, 1, none⟩ = some (.int .i64 m)) ∧ w'.heap[bm]? = w1.heap[bm]? ∧ Below w1.heap.size w1 w') (by kernel_rfl) (by kernel_rfl) (⟨⟨c5, x1⟩, rfl, (Below.refl _ _).drew⟩) ?_; (repeat (first | go_big_quiet_skip | (go_big_quiet_want; refine quiet_of ?_; apply Exists.intro; refine ⟨fun wq hq => ?_, ?_⟩; (focus ((try dsimp only at hq); go_simp; (first | done | with_reducible rfl | ((rw [HL.out wq hq.2.1]; exact ⟨rfl, rfl⟩)) | fail))); try simp only [Act.put, lay4]; go_big_quiet_on) | fail)); refine wpQuiet_nil ?_; intro wz hz)
 have C := add_at (HI.out.ext hz.2.2) k hM hc hk
 clear hz c5 x0 x1 x2 x3 xf HL
 (go_wp2_with fail; go_fit (C); rintro e w3 ⟨rfl, h3, _⟩)
 have H3 := Lib.hid h3
 clear h3 C
 go_wp2
 go_ret
 exact ⟨rfl, H3.out⟩
end
end Go.Proofs.Ytchbbaehdcmcfaa
/- What a look makes of a search: the pile's terms, counted as chapter 11 says. Nothing here is walked. -/
namespace Go.Proofs.Ytchbbaehdcmcfaa
open Go.RowKit
set_option linter.unusedVariables false
theorem pend_app (S : Int → Tm) : ∀ (a b : List Pl), pendL S (a ++ b) = pendL S a ++ pendL S b
 | [], b => rfl
 | p :: r, b => by
  rw [List.cons_append, pendL, pendL]
  by_cases h : p.ends = true
  ·rw [if_pos h, if_pos h, pend_app S r b]
  ·rw [if_neg h, if_neg h, pend_app S r b]; rfl
theorem pend_places (S : Int → Tm) (c : Nat) (x y : Tm) : pendL S (placesOf c x y) = subL S y.args := by
 unfold placesOf
 rw [pend_as]
 split
 ·simp [pendL]
 ·simp [pendL]
theorem look_into {N : Nat} {R : List (Int × Tm)} {n : Int} {M c : Nat} {x y : Tm} (hN : N ≤ 65536) (hT : Tri N R) (hw : Wk N R x y) (ht : topB R y) (hc : c ≤ M) (rest : List Tm) {b : Bool} (hb : b = (decide (M < c + 1) || (decide (y.k = 0) && decide (y.n = n)))) :
  hasL n M (subT (fullB R) x :: rest) c = if b = true then (true, cntN M c 1) else hasL n M (subL (fullB R) y.args ++ rest) (c + 1) := by
 rw [← hw.same, topped hw.good ht, hasL, hasF]
 subst hb
 by_cases h1 : M < c + 1
 ·have : cntN M c 1 = c + 1 := by unfold cntN; rw [if_pos h1]; omega
  simp [h1, this]
 ·have hcn : cntN M c 1 = c + 1 := by unfold cntN; rw [if_neg h1]
  by_cases hk : y.k = 0
  ·have hargs : subL (fullB R) y.args = [] := by
    cases y with
    | mk k m s ts =>
     have := (formed_var (show formedT (.mk 0 m s ts) = true by rw [← (show k = 0 from hk)]; exact (good_parts hw.good).2.2)).1
     unfold varV at this
     injection this with _ _ _ e
     show subL (fullB R) ts = []
     rw [e]; rfl
   rw [hargs, hcn]
   by_cases hn : y.n = n <;> simp [h1, hk, hn]
  ·rw [hcn]
   simp only [h1, hk, if_false, decide_false, Bool.false_and, Bool.or_self, Bool.false_eq_true]
   rw [hasL_append]
theorem EO.into {N : Nat} {R : List (Int × Tm)} {n : Int} {c : Nat} {A : Prop} {x y : Tm} {r : List Pl} (hw : Wk N R x y) (ht : topB R y) (hx : goodT x = true)
  (h : EO (fullB R) n c A (⟨x, false, 0⟩ :: r)) (hnv : ¬ (y.k = 0 ∧ y.n = n)) : EO (fullB R) n (c + 1) A (placesOf c x y ++ r) := by
 have hT : subT (fullB R) x = .mk y.k y.n y.s (subL (fullB R) y.args) := by rw [← hw.same, topped hw.good ht]
 have hr := h.2 rfl
 have hsz : sizeN (subT (fullB R) x) = sizesN (subL (fullB R) y.args) + 1 := by rw [hT, sizeN]
 have hocc : n ∈ occT (subT (fullB R) x) → n ∈ occL (subL (fullB R) y.args) := by
  rw [hT]
  by_cases hk : y.k = 0
  ·rw [hk, occ_var]
   intro hm
   simp at hm
   exact absurd ⟨hk, hm.symm⟩ hnv
  ·rw [occ_not hk]; exact id
 unfold placesOf
 rw [List.append_assoc]
 refine EO.args y.args ?_
 have e1 : c + 1 + sizesN (subL (fullB R) y.args) = c + sizeN (subT (fullB R) x) := by rw [hsz]; omega
 rw [e1]
 have hr2 : EO (fullB R) n (c + sizeN (subT (fullB R) x)) (A ∨ n ∈ occL (subL (fullB R) y.args)) r := hr.weak (fun q => q.imp id hocc)
 by_cases hp : x.k = 0 ∧ y.args ≠ []
 ·rw [if_pos hp]
  refine ⟨fun _ => ⟨⟨x.n, ?_, ?_, fun hm => ?_⟩, hr2⟩, fun e => by cases e⟩
  ·cases x with
   | mk k m s ts =>
    cases (show k = 0 from hp.1)
    exact (formed_var (good_parts hx).2.2).1
  ·have : subT (fullB R) x = fullB R x.n := by
    cases x with
    | mk k m s ts => cases (show k = 0 from hp.1); rw [sub_var]; rfl
   rw [← this]
  ·have : subT (fullB R) x = fullB R x.n := by
    cases x with
    | mk k m s ts => cases (show k = 0 from hp.1); rw [sub_var]; rfl
   rw [← this] at hm
   exact Or.inr (hocc hm)
 ·rw [if_neg hp]
  exact hr2
end Go.Proofs.Ytchbbaehdcmcfaa
/- The document's side of chapter 11: has. -/
namespace Go.Proofs.Ytchbbaehdcmcfaa
open Go.RowKit
set_option linter.unusedVariables false
mutual
theorem hasF_le {n : Int} {M : Nat} : ∀ (t : Tm) (c : Nat), c ≤ M → (hasF n M t c).1 = false → (hasF n M t c).2 ≤ M
 | .mk k m s ts, c, hc, h => by
  rw [hasF] at h ⊢
  by_cases h1 : M < c + 1
  ·rw [if_pos h1] at h; cases h
  ·rw [if_neg h1] at h ⊢
   by_cases hk : k = 0
   ·rw [if_pos hk] at h ⊢
    by_cases hm : m = n
    ·rw [if_pos hm] at h; cases h
    ·rw [if_neg hm]; show c + 1 ≤ M; omega
   ·rw [if_neg hk] at h ⊢
    exact hasL_le ts (c + 1) (by omega) h
theorem hasL_le {n : Int} {M : Nat} : ∀ (ts : List Tm) (c : Nat), c ≤ M → (hasL n M ts c).1 = false → (hasL n M ts c).2 ≤ M
 | [], c, hc, h => hc
 | x :: r, c, hc, h => by
  rw [hasL] at h ⊢
  by_cases hx : (hasF n M x c).1 = true
  ·rw [if_pos hx] at h
   rw [hx] at h
   cases h
  ·rw [if_neg hx] at h ⊢
   exact hasL_le r _ (hasF_le x c hc (by simpa using hx)) h
end
theorem hasL_one {n : Int} {M : Nat} (t : Tm) (c : Nat) : hasL n M [t] c = hasF n M t c := by
 rw [hasL]
 by_cases hx : (hasF n M t c).1 = true
 ·rw [if_pos hx]
 ·rw [if_neg hx, hasL]
  exact Prod.ext (by simpa using (show (hasF n M t c).1 = false by simpa using hx).symm) rfl
def HasP (V : World) (F : List Nat) (p : Value) (N : Nat) (R : List (Int × Tm)) (n : Int) (M cb : Nat) (x : Tm) : Prop :=
 ∀ (w : World) (v : Value) (c : Nat), IsR V F w p N R → TmV V x v → goodT x = true → (∀ m ∈ occT x, 0 ≤ m ∧ m < (N : Int)) → Box w cb [.int .i64 (c : Nat)] → c ≤ M →
  Calls Try.prog 125 #[p, .int .i64 n, v, .int .i64 (M : Nat), .pointer (some ⟨cb, 0, none⟩)] w fun e w' =>
   e = .returned (.bool (hasF n M (subT (fullB R) x) c).1) ∧ Box w' cb [.int .i64 ((hasF n M (subT (fullB R) x) c).2 : Nat)] ∧ Touch [cb] w w'
section
variable {V w : World} {F : List Nat} {p : Value} {N : Nat} {R : List (Int × Tm)} {n : Int} {M cb : Nat}
def HasI (V : World) (n : Int) (M cb : Nat) (R : List (Int × Tm)) (y : Tm) (RES : Bool × Nat) (w4 : World) (i c : Nat) (wr : World) : Prop :=
 c ≤ M ∧ hasL n M (subL (fullB R) (y.args.drop i)) c = RES ∧ Box wr cb [.int .i64 (c : Nat)] ∧ Touch [cb] w4 wr
set_option maxHeartbeats 8000000 in
set_option maxRecDepth 100000 in
theorem rhas_step (hM : M ≤ 100000) (hn : I64 n) (hcF : ¬ cb ∈ F) (hcV : Blind V [cb]) (K : Nat) (ih : ∀ x, sizeN (subT (fullB R) x) < K → HasP V F p N R n M cb x) (x : Tm) (hK : sizeN (subT (fullB R) x) < K + 1) : HasP V F p N R n M cb x := by
 intro w v c h hv hg ho hcb hcM
 obtain ⟨hT, hN⟩ := h.tri
 obtain ⟨kx, nx, sx, ax, mx, cx, rfl, fk, fn, fs, fv⟩ := four_of hv
 clear fk fn fs fv
 obtain ⟨w1, e1, B1, z1, X1⟩ := box_new w #[.int .i64 kx, .int .i64 nx, .string sx, .slice ax mx cx] 54
 have C := RWalk_at (h.ext B1) hv hg ho
 obtain ⟨a0, a1, a2, a3, af⟩ := X1.four
 have HB1 := Lib.hid (And.intro B1 X1)
 have HI := Lib.hid h
 have HT := Lib.hid (And.intro hT hN)
 have HCB := Lib.hid hcb
 have HS := Lib.hid h.see.1
 obtain ⟨RES, hR⟩ : ∃ q, hasF n M (subT (fullB R) x) c = q := ⟨_, rfl⟩
 have HR := Lib.hid hR
 rw [hR]
 clear h hv hg ho hT hN B1 X1 hcb hR z1
 go_enter Try.func125, Try.ntmps125
 (go_wp2_with fail; go_fit (C); rintro e w2 ⟨y, v2, rfl, hy, hwk, htop, b2⟩)
 obtain ⟨k2, n2, s2, ar, l2, cc, rfl, f1, f2, f3, fv2⟩ := four_of hy
 have HB2 := Lib.hid (And.intro (Ext.trans' HB1.out.1 b2) (HB1.out.2.ext b2))
 obtain ⟨y0, y1, y2, y3, yf⟩ := HB2.out.2.four
 have HY := Lib.hid (And.intro hy (And.intro f1 (And.intro f2 (And.intro hwk htop))))
 have hU : Tms V (.slice ar l2 cc) y.args ∧ y.args.length = l2 := by
  obtain ⟨yk, yn, ys, yt⟩ := y
  obtain ⟨u, hu, _, _, _, hU⟩ := tmV_iff.1 hy
  simp only [Value.agg.injEq] at hu
  have hu' := congrArg Array.toList hu
  simp only [List.cons.injEq, and_true] at hu'
  obtain ⟨_, _, _, rfl⟩ := hu'
  obtain ⟨a', c', e, _⟩ := hU.len
  injection e with _ e2 _
  exact ⟨hU, e2.symm⟩
 have hl8 : l2 ≤ 8 := by rw [← hU.2]; exact good_len hwk.good
 have HU := Lib.hid hU
 have HRE := Lib.hid (show RES = if (decide (M < c + 1) || (decide (k2 = 0) && decide (n2 = n))) = true then (true, c + 1) else hasL n M (subL (fullB R) y.args) (c + 1) by
  have h1 := look_into (n := n) (M := M) HT.out.2 HT.out.1 hwk htop hcM [] rfl
  have hcn : cntN M c 1 = c + 1 := by unfold cntN; split <;> omega
  rw [hasL_one, HR.out, List.append_nil, hcn, f1, f2] at h1
  exact h1)
 clear b2 a0 a1 a2 a3 af hy f1 f2 f3 fv2 hwk htop hU
 have hne : cb ≠ w.heap.size := by have := HCB.out.lt; omega
 have hKs : sizesN (subL (fullB R) y.args) < K := by
  have h1 := congrArg sizeN (topped HY.out.2.2.2.1.good HY.out.2.2.2.2)
  rw [HY.out.2.2.2.1.same, sizeN] at h1
  omega
 have HKS := Lib.hid hKs
 clear hKs hK
 go_upto_region 2 with fail
 obtain ⟨w3, e3⟩ : ∃ w3, (((w2.setCell ⟨w.heap.size, 0, none⟩ (.int .i64 k2)).setCell ⟨w.heap.size, 1, none⟩ (.int .i64 n2)).setCell ⟨w.heap.size, 2, none⟩ (.string s2)).setCell ⟨w.heap.size, 3, none⟩ (.slice ar l2 cc) = w3 := ⟨_, rfl⟩
 have HB3 := Lib.hid (show Below w.heap.size w w3 ∧ Box w3 w.heap.size [.int .i64 k2, .int .i64 n2, .string s2, .slice ar l2 cc] ∧ Box w3 cb [.int .i64 c] from by
  rw [← e3]
  exact ⟨Below.set4 HB2.out.1 (Nat.le_refl _) _ _ _ _, (((HB2.out.2.set (k := 0) (by simp)).set (k := 1) (by simp)).set (k := 2) (by simp)).set (k := 3) (by simp), (((((HCB.out).ext HB2.out.1).far hne).far hne).far hne).far hne⟩)
 rw [e3]
 clear e3 y0 y1 y2 y3 yf
 have q0 := HB3.out.2.2.cells 0 _ rfl
 have qf := HB3.out.2.2.fz 0
 have hwr : IntKind.i64.wrap ((c : Int) + 1) = (c : Int) + 1 := by rw [IntKind.wrap_i64]; omega
 go_upto_region 3 with fail
 obtain ⟨w4, e4⟩ : ∃ w4, w3.setCell ⟨cb, 0, none⟩ (.int .i64 ((c : Int) + 1)) = w4 := ⟨_, rfl⟩
 have HB4 := Lib.hid (show Touch [cb] w w4 ∧ Box w4 w.heap.size [.int .i64 k2, .int .i64 n2, .string s2, .slice ar l2 cc] ∧ Box w4 cb [.int .i64 ((c + 1 : Nat) : Int)] from by
  rw [← e4]
  refine ⟨(Touch.of_below HB3.out.1 _).trans (touch_one _ cb 0 _) (fun k hk => Or.inl hk), HB3.out.2.1.far (Ne.symm hne), ?_⟩
  have := HB3.out.2.2.set (k := 0) (u := .int .i64 ((c : Int) + 1)) (by simp)
  exact this)
 rw [e4]
 clear e4 q0 qf
 obtain ⟨y0, y1, y2, y3, yf⟩ := HB4.out.2.1.four
 have q0 : w4.cell? ⟨cb, 0, none⟩ = some (.int .i64 ((c : Int) + 1)) := HB4.out.2.2.cells 0 _ rfl
 cases hb : (decide (M < c + 1) || (decide (k2 = 0) && decide (n2 = n)))
 ·have hr := HRE.out
  rw [hb, if_neg (by simp)] at hr
  simp only [Bool.or_eq_false_iff, decide_eq_false_iff_not, Bool.and_eq_false_iff] at hb
  have hm1 : decide ((M : Int) < (c : Int) + 1) = false := by simp; omega
  have hc1 : c + 1 ≤ M := by omega
  have HR2 := Lib.hid hr.symm
  have hcnd : (k2 == 0) = false ∨ (k2 = 0 ∧ (n2 == n) = false) := by
   rcases hb.2 with h | h
   ·exact Or.inl (beq_false_of_ne h)
   ·by_cases h0 : k2 = 0
    ·exact Or.inr ⟨h0, beq_false_of_ne h⟩
    ·exact Or.inl (beq_false_of_ne h0)
  have HC1 := Lib.hid hc1
  clear hr hb hc1 HRE
  rcases hcnd with hcnd | ⟨rfl, hcnd⟩
  all_goals
   go_upto_region 6 with fail
   clear q0 y0 y1 y2 y3 yf hm1 hcnd hwr
   go_loopw [11] (fun v wr => ∃ i c' : Nat, i ≤ l2 ∧ v = .int .i64 i ∧ Hid (HasI V n M cb R y RES w4 i c' wr)) (fun v _ => l2 - (RowKit.intOf v).toNat)
   case atStart => exact ⟨0, c + 1, Nat.zero_le _, rfl, Lib.hid ⟨HC1.out, by rw [List.drop_zero]; exact HR2.out, HB4.out.2.2, Touch.refl' _ _⟩⟩
   case round =>
    obtain ⟨i, c', hi, rfl, HL⟩ := hrel
    obtain ⟨hc', hres, hbc, ht4⟩ := HL.out
    have htw : Touch [cb] w wr := HB4.out.1.trans ht4 (fun k hk => Or.inl hk)
    have hbx := HB4.out.2.1.block (ht4.block _ HB4.out.2.1.lt (by simp; omega)) (Nat.lt_of_lt_of_le HB4.out.2.1.lt ht4.size)
    have HTW := Lib.hid (And.intro htw (And.intro ht4 hbc))
    obtain ⟨x0, x1, x2, x3, xf⟩ := hbx.four
    by_cases hil : i < l2
    ·obtain ⟨u, hu⟩ : ∃ u, y.args[i]? = some u := ⟨_, List.getElem?_eq_getElem (by rw [HU.out.2]; exact hil)⟩
     obtain ⟨gb, go, ku, nu, su, vu, rfl, _, _, _, _, d0, d1, d2, d3, _, htu⟩ := HU.out.1.get hu
     have hI := HI.out.touch htw (fun k hk => by simp at hk; subst hk; exact hcF) hcV
     have g0 := hI.see.1.2 _ _ d0
     have g1 := hI.see.1.2 _ _ d1
     have g2 := hI.see.1.2 _ _ d2
     have g3 := hI.see.1.2 _ _ d3
     have hmem := List.mem_of_getElem? hu
     have hok := arg_ok HY.out.2.2.2.1.good HY.out.2.2.2.1.rng hmem
     have hsz : sizeN (subT (fullB R) u) < K := by
      have := HKS.out
      have h2 := sizes_mem (List.mem_map.2 ⟨u, hmem, rfl⟩ : subT (fullB R) u ∈ y.args.map (subT (fullB R)))
      rw [← subL_map] at h2
      omega
     have C := ih u hsz wr _ c' hI htu hok.1 hok.2 hbc hc'
     have hdrop : y.args.drop i = u :: y.args.drop (i + 1) := by
      have hlt : i < y.args.length := by rw [HU.out.2]; exact hil
      rw [List.drop_eq_getElem_cons hlt]
      rw [List.getElem?_eq_getElem hlt] at hu
      rw [Option.some.inj hu]
     rw [hdrop, subL, hasL] at hres
     obtain ⟨HF, hF⟩ : ∃ q, hasF n M (subT (fullB R) u) c' = q := ⟨_, rfl⟩
     have hle := hasF_le (n := n) (M := M) (subT (fullB R) u) c' hc'
     rw [hF] at C hres hle
     have HRS := Lib.hid (And.intro hres hle)
     clear hres hle hF hdrop hsz hok hmem hI htu hu d0 d1 d2 d3 htw hbx hbc ht4 hc'
     obtain ⟨hf1, hf2⟩ := HF
     go_wp2_with fail
     go_fit (C)
     cases hf1 with
     | true =>
      rintro e w6 ⟨rfl, h6, t6⟩
      have hr6 : RES = (true, hf2) := by rw [← HRS.out.1]; rfl
      subst hr6
      have HE := Lib.hid (show Box w6 cb [.int .i64 (hf2 : Nat)] ∧ Touch [cb] w w6 from ⟨h6, HTW.out.1.trans t6 (fun k hk => Or.inl hk)⟩)
      clear h6 t6 x0 x1 x2 x3 xf g0 g1 g2 g3
      go_wp2
      go_ret
      exact ⟨rfl, HE.out⟩
     | false =>
      rintro e w6 ⟨rfl, h6, t6⟩
      have HE := Lib.hid (show HasI V n M cb R y RES w4 (i + 1) hf2 w6 from ⟨HRS.out.2 rfl, by rw [← HRS.out.1]; rfl, h6, HTW.out.2.1.trans t6 (fun k hk => Or.inl hk)⟩)
      clear h6 t6 x0 x1 x2 x3 xf g0 g1 g2 g3
      go_wp2
      go_roundw
      case rel => exact ⟨i + 1, hf2, by omega, by go_num, HE⟩
      case measure => simp [RowKit.intOf]; omega
    ·have hil' : i = l2 := by omega
     rw [List.drop_eq_nil_of_le (by rw [HU.out.2]; omega)] at hres
     have hr6 : RES = (false, c') := by rw [← hres]; rfl
     subst hr6
     clear hres htw hbx hbc ht4 hc' hil'
     go_wp2
     go_ret
     exact ⟨rfl, HTW.out.2.2, HTW.out.1⟩
 ·have hr := HRE.out
  rw [hb, if_pos rfl] at hr
  subst hr
  by_cases hm1 : (M : Int) < (c : Int) + 1
  ·clear hb HRE
   go_wp2
   go_ret
   exact ⟨rfl, HB4.out.2.2, HB4.out.1⟩
  ·have hm2 : decide ((M : Int) < (c : Int) + 1) = false := by simpa using hm1
   have hkn : k2 = 0 ∧ n2 = n := by
    simp only [Bool.or_eq_true, decide_eq_true_eq, Bool.and_eq_true] at hb
    rcases hb with h | h
    ·omega
    ·exact h
   obtain ⟨rfl, rfl⟩ := hkn
   clear hb HRE hm1
   go_wp2
   go_ret
   exact ⟨rfl, HB4.out.2.2, HB4.out.1⟩
end
end Go.Proofs.Ytchbbaehdcmcfaa
/- Package bind: search's run. -/
namespace Go.Proofs.Ytchbbaehdcmcfaa
open Go.RowKit Go.Maps
set_option linter.unusedVariables false
theorem row_pop {w : World} {base : Nat} {e : TypeId} {S : Nat} (hS : 0 < S) {α : Type} {cells : α → List Value} (hc : ∀ x, (cells x).length = S) {a : Option Addr} {m c k : Nat} {L : List α} {x : α} (hm : m = k + 1) (hk : L.length = k) (h : w.ownsRow base e S (.slice a m c) m ((L ++ [x]).flatMap cells)) :
  w.ownsRow base e S (.slice a k c) k (L.flatMap cells) ∧ ∃ g, a = some ⟨g, 0, none⟩ ∧ ∀ j u, (cells x)[j]? = some u → w.cell? ⟨g, k * S + j, none⟩ = some u := by
 subst hm
 obtain ⟨h0, h1⟩ := h
 have hl : (L.flatMap cells).length = k * S := by rw [flat_len hc, hk]
 rcases h1 with ⟨e', h1⟩ | ⟨g, cap, cur, e', hg, hh, q1, q2, q3, q4⟩
 ·omega
 ·cases e'
  have q4' : cur.toList.take ((k + 1) * S) = L.flatMap cells ++ cells x := by
   rw [q4, List.flatMap_append]
   simp
  have hle : k * S ≤ (k + 1) * S := Nat.mul_le_mul_right _ (by omega)
  refine ⟨⟨hl, Or.inr ⟨g, c, cur, rfl, hg, hh, by omega, q2, q3, ?_⟩⟩, g, rfl, fun j u hu => ?_⟩
  ·have := congrArg (List.take (k * S)) q4'
   rw [List.take_take, Nat.min_eq_left hle, List.take_append_of_le_length (by omega), show List.take (k * S) (L.flatMap cells) = L.flatMap cells from List.take_of_length_le (by omega)] at this
   exact this
  ·have hj : j < S := by have := (List.getElem?_eq_some_iff.1 hu).1; rwa [hc] at this
   have hlt : k * S + j < (k + 1) * S := by rw [Nat.add_mul, Nat.one_mul]; omega
   have h5 : (cur.toList.take ((k + 1) * S))[k * S + j]? = some u := by
    rw [q4', List.getElem?_append_right (by omega), hl, Nat.add_sub_cancel_left]
    exact hu
   rw [List.getElem?_take, if_pos hlt] at h5
   simp only [World.cell?, hh, Option.isSome_none]
   simpa using h5
section
variable {V W w : World} {F : List Nat} {N : Nat} {R : List (Int × Tm)} {sb : Nat} {pb : Value} {n : Int} {M c : Nat} {pl : List PlP} {f : Int → Option Nat} {cnt : Nat}
theorem IsS.pop {q : PlP} {a : Option Addr} {cv k : Nat} (h : IsS W w sb pb n M c (pl ++ [q]) f cnt) (hk : pl.length = k) (hc : w.cell? ⟨sb, 4, none⟩ = some (.slice a (k + 1) cv)) :
  IsS W (w.setCell ⟨sb, 4, none⟩ (.slice a k cv)) sb pb n M c pl f cnt ∧ ∃ g, a = some ⟨g, 0, none⟩ ∧ ∀ j u, (plCells q)[j]? = some u → w.cell? ⟨g, k * 6 + j, none⟩ = some u := by
 obtain ⟨v, bm, h1, h2, h3, h4, h5, h6, h7, h8⟩ := h
 have hv : v = .slice a (k + 1) cv := by
  have : w.cell? ⟨sb, 4, none⟩ = some v := by simp [blk_cell h1]
  rw [hc] at this
  exact (Option.some.inj this).symm
 subst hv
 have hlen : (pl ++ [q]).length = k + 1 := by simp [hk]
 rw [hlen] at h2
 obtain ⟨r1, g, r2, r3⟩ := row_pop (by omega) plCells_len rfl hk h2
 subst r2
 refine ⟨⟨.slice (some ⟨g, 0, none⟩) k cv, bm, ?_, ?_, h3.block (Below.heap_setCell w _ _ bm h5), h4, h5, h6, h7, h8.setCell h6 _⟩, g, rfl, r3⟩
 ·simp [World.setCell, Array.getElem?_modify, h1]
 ·rw [hk]
  exact row_at r1 (fun g' hg => Below.heap_setCell w _ _ g' (fun e => h4 (by cases hg; have e' : g = sb := e; rw [e']; rfl)))
theorem IsS.know (h : IsS W w sb pb n M c pl f cnt) {bm : Nat} (hc : w.cell? ⟨sb, 5, none⟩ = some (.map (some bm))) {v : Int} (hv : I64 v) {k : Nat} (hk : k ≤ 200000) (hn : cnt < maxLen) :
  ∃ w', (Instr.mapUpdate 98 (.map (some bm)) (.int .i64 v) (.int .i64 k)).run Try.prog w = .ok () w' ∧ IsS W w' sb pb n M c pl (setF f v k) (cnt + 1) ∧ ∀ j, j ≠ bm → w'.heap[j]? = w.heap[j]? := by
 have ho := h.open
 obtain ⟨v0, bm', h1, h2, h3, h4, h5, h6, h7, h8⟩ := h
 have e : bm' = bm := by
  have e : w.cell? ⟨sb, 5, none⟩ = some (.map (some bm')) := by simp [blk_cell h1]
  rw [hc] at e
  injection e with e
  injection e with e
  injection e with e
  exact e.symm
 subst e
 obtain ⟨a', cv', bm2, hlt, _, _, _, _, q4, q5, _, _, _, _, _, hown, _⟩ := ho
 have e2 : bm2 = bm' := by
  rw [hc] at q5
  injection q5 with e
  injection e with e
  injection e with e
  exact e.symm
 subst e2
 have hv0 : v0 = .slice a' pl.length cv' := by
  have : w.cell? ⟨sb, 4, none⟩ = some v0 := by simp [blk_cell h1]
  rw [q4] at this
  exact (Option.some.inj this).symm
 subst hv0
 obtain ⟨D, q1, q2, q3⟩ := h3
 obtain ⟨w', hrun, r1, r2⟩ := q1.store lKeyed Try.underlying98 hn (lKey hv) (plainElem_int Try.underlying3 (a := (k : Int)) (wf_i64 (by unfold I64; omega)))
 have hoth : ∀ j, j ≠ bm2 → w'.heap[j]? = w.heap[j]? := fun j hj => by
  obtain ⟨es, clock, es', clock', hb, rfl⟩ := r2
  exact ChangeMaps.heap_setBlock_other hb _ hj
 refine ⟨w', hrun, ⟨.slice a' pl.length cv', bm2, (hoth sb (Ne.symm h5)).trans h1, row_at h2 (fun g hg => hoth g (hown g hg).2.1), KnM.put q2 q3 r1, h4, h5, h6, h7, ?_⟩, hoth⟩
 obtain ⟨es, clock, es', clock', hb, rfl⟩ := r2
 exact ⟨h8.os, h8.tape, h8.output, by have := h8.size; simpa [ChangeMaps.setBlock] using this, fun j hj => (hoth j (by omega)).trans (h8.block j hj)⟩
end
end Go.Proofs.Ytchbbaehdcmcfaa
