import Derived.Test.YtljgkfdnmikpfaaGreatDoorHavaw
import Derived.Test.YtljgkfdnmikpfaaGreatDoorHavaf
import Derived.Test.YtljgkfdnmikpfaaGreatDoorHavab
set_option linter.unusedVariables false
set_option linter.unusedSimpArgs false
/- The document's own renaming of a term, walked. -/
namespace Go.Proofs.YtljgkfdnmikpfaaGreatDoor
open Go.Shelf Go.RowKit
set_option linter.unusedVariables false
set_option maxRecDepth 100000

theorem formed_zero {n : Int} {s : ByteArray} {ts : List Tm} (h : formedT (.mk 0 n s ts) = true) : s = ⟨#[]⟩ ∧ ts = [] ∧ 0 ≤ n ∧ n < 2147483648 := by
  rw [formedT, Bool.and_eq_true] at h
  have h1 := h.1
  unfold plainT at h1
  simp only [if_true, Bool.and_eq_true, decide_eq_true_eq] at h1
  exact ⟨bytes_eq (by have := h1.1.2; simpa using this), List.eq_nil_of_length_eq_zero h1.2, h1.1.1.1, h1.1.1.2⟩
theorem formed_args {k n : Int} {s : ByteArray} {ts : List Tm} (h : formedT (.mk k n s ts) = true) (hne : ts ≠ []) : k = 2 ∧ n = 0 ∧ ts.length ≤ 8 := by
  rw [formedT, Bool.and_eq_true] at h
  have h1 := h.1
  have hl : ¬ ts.length = 0 := fun e => hne (List.eq_nil_of_length_eq_zero e)
  unfold plainT at h1
  split at h1
  · simp [hl] at h1
  split at h1
  · simp [hl] at h1
  split at h1
  · rename_i h2
    simp only [Bool.and_eq_true, decide_eq_true_eq] at h1
    exact ⟨h2, h1.1.1.1, h1.1.2⟩
  · cases h1
theorem ren_nil (vs : List Int) {k n : Int} {s : ByteArray} (h : k ≠ 0) : renT vs (.mk k n s []) = .mk k n s [] := by rw [renT, if_neg h, renL]
theorem renL_map (vs : List Int) : ∀ (l : List Tm), renL vs l = l.map (renT vs)
  | [] => rfl
  | x :: r => by rw [renL, renL_map vs r]; rfl
set_option maxHeartbeats 8000000 in
theorem ren_var {vs : List Int} {n : Int} {w : World} {D : Nat → Bool} {av : Option Addr} {cv : Nat} (hvs : vs.length < 2147483648) (hin : n ∈ vs) (hD : Old D w) (hn0 : 0 ≤ n) (hn1 : n < 2147483648) (hnum : Nums w (.slice av vs.length cv) vs) (hc1 : vs.length ≤ cv) (hc2 : cv ≤ maxLen) (cu : Nat) (au : Option Addr) :
    Calls Tryz.prog 105 #[.agg #[.int .i64 0, .int .i64 n, .string ⟨#[]⟩, .slice au 0 cu], .slice av vs.length cv, .int .i64 0] w fun e w' => ∃ v', e = .returned v' ∧ TmV (hide D w') (renT vs (.mk 0 n ⟨#[]⟩ [])) v' ∧ Below w.heap.size w w' := by
  obtain ⟨i, hi1, hi2, hi3⟩ := idx_nat hin
  obtain ⟨h4, h5, h6⟩ := List.findIdx?_eq_some_iff_getElem.1 hi1
  obtain ⟨q, hq⟩ : ∃ q, vs.length = q := ⟨_, rfl⟩
  rw [hq] at hnum hc1 hvs hi3 ⊢
  have HNO := Lib.hid (show ∀ j x, j < i → vs[j]? = some x → ¬ x = n from fun j x hj hx => by
    have := h6 j hj
    obtain ⟨hl, rfl⟩ := List.getElem?_eq_some_iff.1 hx
    simpa using this)
  have HYES := Lib.hid (show vs[i]? = some n by
    rw [List.getElem?_eq_getElem h4]
    congr 1
    simpa using h5)
  have HNU := Lib.hid hnum
  have HQ := Lib.hid hq
  have HI2 := Lib.hid hi2
  unfold maxLen at hc2
  obtain ⟨w1, hw1, hb1, hz1, hx1⟩ := box_new w #[.int .i64 0, .int .i64 n, .string ⟨#[]⟩, .slice au 0 cu] 66
  obtain ⟨w2, hw2, hb2, hz2, hx2⟩ := box_new w1 #[.int .i64 0, .int .i64 0, .string ⟨#[]⟩, .slice none 0 0] 66
  have HB2 := Lib.hid (Ext.trans' hb1 hb2)
  have HX1 := Lib.hid (hx1.ext hb2)
  have HX2 := Lib.hid hx2
  obtain ⟨y0, y1, y2, y3, yf⟩ := (hx1.ext hb2).four
  have hBB := hb1.size
  have hww : w.heap.size < w2.heap.size := by omega
  have hww1 : w1.heap.size < w2.heap.size := by omega
  clear hi1 h5 h6 hnum hq hi2 hin hb1 hb2 hx1 hx2 hz1 hz2 h4
  go_enter Tryz.func105, Tryz.ntmps105
  go_wp2_with fail
  (try rw [hw1])
  (try rw [hw2])
  clear hw1 hw2
  go_wp2_with fail
  clear y0 y1 y2 y3 yf
  go_loopw [7] (fun z wr => ∃ j : Nat, j ≤ i ∧ z = .int .i64 j ∧ Hid (Below w2.heap.size w2 wr)) (fun z _ => i - (intOf z).toNat)
  case atStart => exact ⟨0, Nat.zero_le _, rfl, Lib.hid (Below.refl _ _)⟩
  case round =>
    obtain ⟨j, hj, rfl, HB⟩ := hrel
    obtain ⟨x, hx⟩ : ∃ x, vs[j]? = some x := ⟨_, List.getElem?_eq_getElem (by rw [HQ.out]; omega)⟩
    obtain ⟨b, off, rfl, hbl, cx⟩ := HNU.out.get hx
    have cx := cell_later HB.out (cell_later HB2.out cx)
    obtain ⟨t0, t1, t2, t3, tf⟩ := (HX1.out.ext HB.out).four
    have hjq : (j : Int) < q := by omega
    have HX := Lib.hid hx
    clear hx
    by_cases hlt : j < i
    · have hne : (x == n) = false := beq_false_of_ne (HNO.out j x hlt HX.out)
      go_wp2_with fail
      go_quiet (fail)
      go_wp2
      go_roundw
      case rel => exact ⟨j + 1, hlt, by go_num, Lib.hid (bel_drewN HB.out _)⟩
      case measure => simp [intOf]; omega
    · have hji : j = i := by omega
      subst hji
      have hxn : x = n := by have h1 := HYES.out; have h2 := HX.out; rw [h1] at h2; injection h2 with h2; exact h2.symm
      subst hxn
      have hwr : IntKind.i64.wrap (0 + (j : Int)) = j := by rw [Int.zero_add]; exact IntWalk.i64_in _ (by omega)
      have hwr' : IntKind.i64.wrap ((j : Int)) = j := IntWalk.i64_in _ (by omega)
      clear hlt hj
      obtain ⟨r0, r1, r2, r3, rf⟩ := (HX2.out.ext HB.out).four
      go_wp2_with fail
      go_quiet (fail)
      go_wp2
      refine bodyPost_ret (v := .agg #[.int .i64 0, .int .i64 j, .string ⟨#[]⟩, .slice none 0 0]) (by rw [results_cell1 rfl]; go_simp) rfl ⟨_, rfl, ?_, ?_⟩
      · rw [renT, if_pos rfl, renL, HI2.out]
        exact tmV_iff.2 ⟨_, rfl, by decide, by unfold I64; omega, by unfold I64; omega, Tms.nil _⟩
      · exact Below.set4 (bel_drewN (Ext.trans' HB2.out (Ext.trans' (Below.refl _ _) HB.out)) _) (by omega) _ _ _ _
end Go.Proofs.YtljgkfdnmikpfaaGreatDoor
/- The document's own renaming of a term, walked: the ones with Args. -/
namespace Go.Proofs.YtljgkfdnmikpfaaGreatDoor
open Go.Shelf Go.RowKit
set_option linter.unusedVariables false
set_option maxRecDepth 100000

theorem Lay.out {w : World} {lb m : Nat} {ps : List TmP} {D : Nat → Bool} (h : Lay w lb m ps) (hm : ps.length = m) (hD : D lb = false) (hp : ∀ p ∈ ps, TmV (hide D w) p.1 (pVal p)) (hl : m * 56 ≤ BIG) : Tms (hide D w) (.slice (some ⟨lb, 0, none⟩) m m) (ps.map (·.1)) := by
  subst hm
  refine ⟨some ⟨lb, 0, none⟩, ps.length, by rw [List.length_map], by rw [List.length_map]; exact Nat.le_refl _, by unfold BIG at hl; unfold maxLen; omega, by rw [List.length_map]; exact hl, Or.inr ⟨_, _, rfl, by rw [hide_size]; exact h.lt, TmRow.mk fun i x hx => ?_⟩⟩
  rw [List.getElem?_map] at hx
  obtain ⟨p, hpi, rfl⟩ := Option.map_eq_some_iff.1 hx
  have hv := hp p (List.mem_of_getElem? hpi)
  have key : ∀ j u, (pCells p)[j]? = some u → (hide D w).cell? ⟨lb, 0 + i * 4 + j, none⟩ = some u := fun j u hu => by
    rw [hide_cell D w _ hD, Nat.zero_add]; exact h.done i p hpi j u hu
  exact ⟨_, _, _, _, key 0 _ rfl, key 1 _ rfl, key 2 _ rfl, key 3 _ rfl, hv⟩
theorem make_terms (m : Nat) (hm : m ≤ 8) (w : World) : (Instr.makeSlice 64 (.int .i64 m) (.int .i64 m)).run Tryz.prog w = .ok (.slice (some ⟨w.heap.size, 0, none⟩) m m) (w.alloc (.cells (madeCells #[.int .i64 0, .int .i64 0, .string ⟨#[]⟩, .slice none 0 0] (m * 4)) 66)) := by
  obtain ⟨i0, hi0, hz0, hs0, hb0⟩ := info_parts infoTermR
  have h := run_makeSlice (P := Tryz.prog) w 64 66 i0 _ Tryz.underlying64 hi0 hz0 .i64 .i64 m m (by omega) (by omega) (by rw [hs0]; omega) (by rw [hb0]; omega) (by omega)
  rw [hs0] at h
  simp only [Int.toNat_natCast] at h
  exact h
set_option maxHeartbeats 8000000 in
theorem ren_comp {vs : List Int} {N : Nat} (ih : ∀ t, sizeN t < N → ∀ (D : Nat → Bool) (w : World) (v vv : Value), formedT t = true → inV vs t → Old D w → TmV (hide D w) t v → Nums w vv vs → Calls Tryz.prog 105 #[v, vv, .int .i64 0] w fun e w' => ∃ v', e = .returned v' ∧ TmV (hide D w') (renT vs t) v' ∧ Below w.heap.size w w')
    {s : ByteArray} {ts : List Tm} (hne : ts ≠ []) (ht : sizesN ts < N) {D : Nat → Bool} {w : World} {u vv : Value} (hf : formedL ts = true) (hi : inVs vs ts) (hm8 : ts.length ≤ 8) (hs : s.size ≤ BIG) (hD : Old D w) (hu : Tms (hide D w) u ts) (hn : Nums w vv vs) :
    Calls Tryz.prog 105 #[.agg #[.int .i64 2, .int .i64 0, .string s, u], vv, .int .i64 0] w fun e w' => ∃ v', e = .returned v' ∧ TmV (hide D w') (renT vs (.mk 2 0 s ts)) v' ∧ Below w.heap.size w w' := by
  obtain ⟨au, cu, rfl, hu1, hu2, hu3⟩ := hu.len
  obtain ⟨av, cv, rfl, hv1, hv2⟩ := hn.len
  obtain ⟨m, hm⟩ : ∃ m, ts.length = m := ⟨_, rfl⟩
  obtain ⟨q, hq⟩ : ∃ q, vs.length = q := ⟨_, rfl⟩
  rw [hm] at hu hu1 hu3 hm8
  rw [hq] at hn hv1
  rw [hm, hq]
  have hm1 : ¬ m = 0 := fun e => hne (List.eq_nil_of_length_eq_zero (hm.trans e))
  have hm0 : ((m : Int) == 0) = false := by apply beq_false_of_ne; omega
  unfold maxLen at hu2 hv2
  obtain ⟨w1, hw1, hb1, hz1, hx1⟩ := box_new w #[.int .i64 2, .int .i64 0, .string s, .slice au m cu] 66
  obtain ⟨w2, hw2, hb2, hz2, hx2⟩ := box_new w1 #[.int .i64 0, .int .i64 0, .string ⟨#[]⟩, .slice none 0 0] 66
  obtain ⟨w3, hw3⟩ : ∃ w3, w2.alloc (.cells (madeCells #[.int .i64 0, .int .i64 0, .string ⟨#[]⟩, .slice none 0 0] (m * 4)) 66) = w3 := ⟨_, rfl⟩
  have hL0 : Lay w3 w2.heap.size m [] := hw3 ▸ lay_new w2 m _
  have hb3 : Below w2.heap.size w2 w3 := hw3 ▸ bel1' w2 _
  have HL0 := Lib.hid hL0
  have HMK := make_terms m hm8 w2
  rw [hw3] at HMK
  obtain ⟨y0, y1, y2, y3, yf⟩ := (hx1.ext hb2).four
  have HB2 := Lib.hid (Ext.trans' hb1 hb2)
  have HB3 := Lib.hid hb3
  have HX1 := Lib.hid (hx1.ext hb2)
  have HX2 := Lib.hid hx2
  have HU := Lib.hid hu
  have HV := Lib.hid hn
  have HM := Lib.hid hm
  have HD := Lib.hid hD
  have hBB := hb1.size
  have hz3 : w3.heap.size = w2.heap.size + 1 := by rw [← hw3]; simp
  have h12 : w.heap.size ≠ w1.heap.size := by omega
  have hR1 : w.heap.size < w2.heap.size := by omega
  have hR2 : w1.heap.size < w2.heap.size := by omega
  have HSZ := Lib.hid (show ∀ x ∈ ts, sizeN x < N from fun x hx => by have := sizes_mem hx; omega)
  have HF := Lib.hid hf
  have HI := Lib.hid hi
  have HIH := Lib.hid ih
  have HS := Lib.hid hs
  have HW3 := Lib.hid hz3
  clear ih hf hi hD hu hn hm hq hb1 hb2 hb3 hx1 hx2 hz1 hz2 hz3 hL0 ht hne hw3 hs
  go_enter Tryz.func105, Tryz.ntmps105
  go_wp2_with fail
  (try rw [hw1])
  (try rw [hw2])
  clear hw1 hw2
  go_wp2_with fail
  go_loopw [9] (fun z wr => ∃ j : Nat, j ≤ m ∧ z = .int .i64 j ∧ Hid (Below w2.heap.size w2 wr ∧ w3.heap.size ≤ wr.heap.size) ∧ Hid (∃ ps, ps.length = j ∧ ps.map (·.1) = renL vs (ts.take j) ∧ Lay wr w2.heap.size m ps ∧ ∀ p ∈ ps, TmV (hide (plusB (plusB D w1.heap.size) w2.heap.size) wr) p.1 (pVal p))) (fun z _ => m - (intOf z).toNat)
  case atStart => exact ⟨0, Nat.zero_le _, rfl, Lib.hid ⟨HB3.out, Nat.le_refl _⟩, Lib.hid ⟨[], rfl, by simp [renL], HL0.out, fun p hp => by cases hp⟩⟩
  case round =>
    obtain ⟨j, hj, rfl, HB, HP⟩ := hrel
    obtain ⟨t0, t1, t2, t3, tf⟩ := (HX1.out.ext HB.out.1).four
    obtain ⟨ps, hpl, hpm, hpL, hpT⟩ := HP.out
    have HPL := Lib.hid hpl
    have HPM := Lib.hid hpm
    have HLY := Lib.hid hpL
    have HPT := Lib.hid hpT
    have HBW := Lib.hid (Ext.trans' HB2.out (Ext.trans' (Below.refl _ _) HB.out.1))
    have HZ := Lib.hid HB.out.2
    clear hpl hpm hpL hpT HP
    by_cases hlt : j < m
    · obtain ⟨x, hx⟩ : ∃ x, ts[j]? = some x := ⟨_, List.getElem?_eq_getElem (by rw [HM.out]; exact hlt)⟩
      obtain ⟨b, off, xk, xn, xs', xu, rfl, hbb, ek, en, es, c0, c1, c2, c3, _, htx⟩ := HU.out.get hx
      have UN := (Stays.unhide D w).2
      have c0 := cell_later HBW.out (UN _ _ c0)
      have c1 := cell_later HBW.out (UN _ _ c1)
      have c2 := cell_later HBW.out (UN _ _ c2)
      have c3 := cell_later HBW.out (UN _ _ c3)
      have hoD : Old (plusB (plusB D w1.heap.size) w2.heap.size) wr := fun k hk => by
        have h1 := HZ.out; have h2 := HW3.out
        rw [plusB_ne (by omega), plusB_ne (by omega)]; exact HD.out k (by omega)
      have HC := HIH.out x (HSZ.out x (List.mem_of_getElem? hx)) (plusB (plusB D w1.heap.size) w2.heap.size) wr _ _ (formed_mem HF.out (List.mem_of_getElem? hx)) (inVs_mem HI.out (List.mem_of_getElem? hx)) hoD (TmV.stay (Stays.below HBW.out fun k hk hd => by rw [plusB_ne (by omega), plusB_ne (by omega)]; exact hd) _ _ htx) (HV.out.ext HBW.out)
      have HTK := Lib.hid (take_next hx)
      rw [hide_size] at hbb
      have hjj : (j : Int) < m := by omega
      clear ek en es htx hx UN hoD
      (go_wp2_with fail; go_fit (HC); rintro e w5 ⟨v5, rfl, hv5, hb5⟩)
      obtain ⟨k5, n5, s5, a5, m5, c5, rfl, ek, en, es, ep⟩ := four_of hv5
      have HV5 := Lib.hid hv5
      have HEP := Lib.hid ep
      have HEK := Lib.hid (And.intro ek (And.intro en es))
      have HB5 := Lib.hid hb5
      obtain ⟨r0, r1, r2, r3⟩ := (HLY.out.later HB5.out).rest j (by rw [HPL.out]; exact Nat.le_refl _) hlt
      have rf := (HLY.out.later HB5.out).fz
      clear ek en es ep hv5 hb5 HC
      go_wp2
      have hpc : pCells (renT vs x, .slice a5 m5 c5) = [.int .i64 k5, .int .i64 n5, .string s5, .slice a5 m5 c5] := by unfold pCells; rw [← HEK.out.1, ← HEK.out.2.1, ← HEK.out.2.2]
      have hdl : plusB (plusB D w1.heap.size) w2.heap.size w2.heap.size = true := plusB_self _ _
      have hLN := (HLY.out.later HB5.out).put (by rw [HPL.out]; exact hlt) hpc
      rw [HPL.out] at hLN
      have hT4 : ∀ p ∈ ps ++ [(renT vs x, .slice a5 m5 c5)], TmV (hide (plusB (plusB D w1.heap.size) w2.heap.size) (setAt w5 w2.heap.size (j * 4) (.int .i64 k5) (.int .i64 n5) (.string s5) (.slice a5 m5 c5))) p.1 (pVal p) := fun p hp => by
        refine TmV.stay (((((Stays.set (D := plusB (plusB D w1.heap.size) w2.heap.size) ⟨w2.heap.size, j * 4, none⟩ _ hdl).trans (Stays.set ⟨w2.heap.size, j * 4 + 1, none⟩ _ hdl)).trans (Stays.set ⟨w2.heap.size, j * 4 + 2, none⟩ _ hdl)).trans (Stays.set ⟨w2.heap.size, j * 4 + 3, none⟩ _ hdl))) _ _ ?_
        rcases List.mem_append.1 hp with hp | hp
        · exact TmV.later HB5.out (HPT.out p hp)
        · rw [List.mem_singleton] at hp
          subst hp
          rw [← HEP.out]
          exact HV5.out
      have hBN : Below w2.heap.size w2 (setAt w5 w2.heap.size (j * 4) (.int .i64 k5) (.int .i64 n5) (.string s5) (.slice a5 m5 c5)) := ((((Ext.trans' HB.out.1 HB5.out).setCell (Nat.le_refl _) _).setCell (Nat.le_refl _) _).setCell (Nat.le_refl _) _).setCell (Nat.le_refl _) _
      have HL9 := Lib.hid hLN
      have HT9 := Lib.hid hT4
      have HB9 := Lib.hid hBN
      have HZ9 := Lib.hid (show w3.heap.size ≤ (setAt w5 w2.heap.size (j * 4) (.int .i64 k5) (.int .i64 n5) (.string s5) (.slice a5 m5 c5)).heap.size by have h1 := HZ.out; have h2 := HB5.out.size; simp [World.setCell]; omega)
      have HPM9 := Lib.hid (show (ps ++ [(renT vs x, Value.slice a5 m5 c5)]).map (·.1) = renL vs (ts.take (j + 1)) by rw [List.map_append, HTK.out, HPM.out, renL_map, renL_map, List.map_append]; rfl)
      clear hLN hT4 hBN hpc hdl r0 r1 r2 r3 rf t0 t1 t2 t3 tf c0 c1 c2 c3
      go_roundw
      case rel => exact ⟨j + 1, hlt, by go_num, Lib.hid ⟨HB9.out, HZ9.out⟩, Lib.hid ⟨_, by rw [List.length_append, HPL.out]; rfl, HPM9.out, HL9.out, HT9.out⟩⟩
      case measure => simp [intOf]; omega
    · have hjm : j = m := by omega
      subst hjm
      obtain ⟨q0, q1, q2, q3, qf⟩ := (HX2.out.ext HB.out.1).four
      have HR := rcomp_at wr s (some ⟨w2.heap.size, 0, none⟩) j j
      (go_wp2_with fail; go_fit (HR); rintro e w6 ⟨rfl, hb6⟩)
      have HB6 := Lib.hid hb6
      have hq := (HX2.out.ext HB.out.1).ext hb6
      obtain ⟨q0, q1, q2, q3, qf⟩ := hq.four
      clear hb6 hq HR
      go_wp2
      refine bodyPost_ret (v := .agg #[.int .i64 2, .int .i64 0, .string s, .slice (some ⟨w2.heap.size, 0, none⟩) j j]) (by rw [results_cell1 rfl]; go_simp) rfl ⟨_, rfl, ?_, ?_⟩
      · have hd1 : plusB D w1.heap.size w1.heap.size = true := plusB_self _ _
        have hd2 : plusB D w1.heap.size w2.heap.size = false := by rw [plusB_ne (by omega)]; exact HD.out _ (by omega)
        have h1 := (HLY.out.later HB6.out).out (D := plusB D w1.heap.size) HPL.out hd2 (fun p hp => TmV.stay (Stays.less fun k hk => by
          by_cases e : k = w2.heap.size
          · rw [e]; exact hd2
          · rw [plusB_ne e] at hk; exact hk) _ _ (TmV.later HB6.out (HPT.out p hp))) (by unfold BIG; omega)
        rw [HPM.out, List.take_of_length_le (by rw [HM.out]; exact Nat.le_refl _)] at h1
        have h2 := h1.stay ((((Stays.set (D := plusB D w1.heap.size) ⟨w1.heap.size, 0, none⟩ (.int .i64 2) hd1).trans (Stays.set ⟨w1.heap.size, 1, none⟩ (.int .i64 0) hd1)).trans (Stays.set ⟨w1.heap.size, 2, none⟩ (.string s) hd1)).trans (Stays.set ⟨w1.heap.size, 3, none⟩ (.slice (some ⟨w2.heap.size, 0, none⟩) j j) hd1))
        have h3 := h2.stay (Stays.less fun k hk => by
          by_cases e : k = w1.heap.size
          · rw [e]; exact HD.out _ hBB
          · rw [plusB_ne e] at hk; exact hk)
        rw [renT, if_neg (by decide)]
        exact tmV_iff.2 ⟨_, rfl, HS.out, by unfold I64; omega, by unfold I64; omega, h3⟩
      · exact Below.set4 (Ext.trans' HBW.out HB6.out) hBB _ _ _ _
set_option maxHeartbeats 8000000 in
theorem ren_leaf {vs : List Int} {k n : Int} {s : ByteArray} {D : Nat → Bool} {w : World} {au : Option Addr} {cu : Nat} {vv : Value} (hD : Hid (Old D w)) (hk : k ≠ 0) (hv : TmV (hide D w) (.mk k n s []) (.agg #[.int .i64 k, .int .i64 n, .string s, .slice au 0 cu])) :
    Calls Tryz.prog 105 #[.agg #[.int .i64 k, .int .i64 n, .string s, .slice au 0 cu], vv, .int .i64 0] w fun e w' => ∃ v', e = .returned v' ∧ TmV (hide D w') (renT vs (.mk k n s [])) v' ∧ Below w.heap.size w w' := by
  rw [ren_nil vs hk]
  have HV := Lib.hid hv
  have hk0 : (k == 0) = false := beq_false_of_ne hk
  obtain ⟨w1, hw1, hb1, hz1, hx1⟩ := box_new w #[.int .i64 k, .int .i64 n, .string s, .slice au 0 cu] 66
  obtain ⟨w2, hw2, hb2, hz2, hx2⟩ := box_new w1 #[.int .i64 0, .int .i64 0, .string ⟨#[]⟩, .slice none 0 0] 66
  have hBB := hb1.size
  have hB2 := Lib.hid (Ext.trans' hb1 hb2)
  obtain ⟨y0, y1, y2, y3, yf⟩ := (hx1.ext hb2).four
  obtain ⟨q0, q1, q2, q3, qf⟩ := hx2.four
  have h12 : w1.heap.size ≠ w.heap.size := by omega
  clear hv hk hb1 hb2 hx1 hx2 hz1 hz2
  go_enter Tryz.func105, Tryz.ntmps105
  go_wp2_with fail
  (try rw [hw1])
  (try rw [hw2])
  clear hw1 hw2
  go_wp2
  refine bodyPost_ret (v := .agg #[.int .i64 k, .int .i64 n, .string s, .slice au 0 cu]) (by rw [results_cell1 rfl]; go_simp) rfl ⟨_, rfl, ?_, ?_⟩
  · refine TmV.stay (Stays.less (D := plusB D w1.heap.size) fun k hk => ?_) _ _ (TmV.stay ((((Stays.set (D := plusB D w1.heap.size) ⟨w1.heap.size, 0, none⟩ (.int .i64 k) (plusB_self _ _)).trans (Stays.set ⟨w1.heap.size, 1, none⟩ (.int .i64 n) (plusB_self _ _))).trans (Stays.set ⟨w1.heap.size, 2, none⟩ (.string s) (plusB_self _ _))).trans (Stays.set ⟨w1.heap.size, 3, none⟩ (.slice au 0 cu) (plusB_self _ _))) _ _ (TmV.stay (Stays.below hB2.out fun k hk hd => by rw [plusB_ne (by omega)]; exact hd) _ _ HV.out))
    by_cases e : k = w1.heap.size
    · rw [e]; exact hD.out _ hBB
    · rw [plusB_ne e] at hk; exact hk
  · exact Below.set4 hB2.out hBB _ _ _ _
theorem ren_step {vs : List Int} (hvs : vs.length < 2147483648) {N : Nat} (ih : ∀ t, sizeN t < N → ∀ (D : Nat → Bool) (w : World) (v vv : Value), formedT t = true → inV vs t → Old D w → TmV (hide D w) t v → Nums w vv vs → Calls Tryz.prog 105 #[v, vv, .int .i64 0] w fun e w' => ∃ v', e = .returned v' ∧ TmV (hide D w') (renT vs t) v' ∧ Below w.heap.size w w')
    (t : Tm) (ht : sizeN t < N + 1) (D : Nat → Bool) (w : World) (v vv : Value) (hf : formedT t = true) (hi : inV vs t) (hD : Old D w) (hv : TmV (hide D w) t v) (hn : Nums w vv vs) :
    Calls Tryz.prog 105 #[v, vv, .int .i64 0] w fun e w' => ∃ v', e = .returned v' ∧ TmV (hide D w') (renT vs t) v' ∧ Below w.heap.size w w' := by
  cases t with
  | mk k n s ts =>
  obtain ⟨u, rfl, hs, hk64, hn64, hu⟩ := tmV_iff.1 hv
  by_cases hk : k = 0
  · subst hk
    obtain ⟨rfl, rfl, h0, h1⟩ := formed_zero hf
    obtain ⟨au, cu, rfl, _⟩ := hu.len
    obtain ⟨av, cv, rfl, hv1, hv2⟩ := hn.len
    rw [inV] at hi
    exact ren_var hvs (hi.1 rfl) hD h0 h1 hn hv1 hv2 cu au
  · by_cases hne : ts = []
    · subst hne
      obtain ⟨au, cu, rfl, _⟩ := hu.len
      exact ren_leaf (Lib.hid hD) hk hv
    · obtain ⟨rfl, rfl, h8⟩ := formed_args hf hne
      rw [inV] at hi
      rw [formedT, Bool.and_eq_true] at hf
      rw [sizeN] at ht
      exact ren_comp ih hne (by omega) hf.2 hi.2 h8 hs hD hu hn
theorem rename_at (vs : List Int) (hvs : vs.length < 2147483648) (t : Tm) (D : Nat → Bool) (w : World) (v vv : Value) (hf : formedT t = true) (hi : inV vs t) (hD : Old D w) (hv : TmV (hide D w) t v) (hn : Nums w vv vs) :
    Calls Tryz.prog 105 #[v, vv, .int .i64 0] w fun e w' => ∃ v', e = .returned v' ∧ TmV (hide D w') (renT vs t) v' ∧ Below w.heap.size w w' := by
  suffices h : ∀ N (t : Tm), sizeN t < N → ∀ (D : Nat → Bool) (w : World) (v vv : Value), formedT t = true → inV vs t → Old D w → TmV (hide D w) t v → Nums w vv vs → Calls Tryz.prog 105 #[v, vv, .int .i64 0] w fun e w' => ∃ v', e = .returned v' ∧ TmV (hide D w') (renT vs t) v' ∧ Below w.heap.size w w' from
    h _ t (Nat.lt_succ_self _) D w v vv hf hi hD hv hn
  intro N
  induction N with
  | zero => intro t ht; omega
  | succ N ih => intro t ht; exact ren_step hvs ih t ht
end Go.Proofs.YtljgkfdnmikpfaaGreatDoor
/- The document's own From and Alike, walked. -/
namespace Go.Proofs.YtljgkfdnmikpfaaGreatDoor
open Go.Shelf Go.RowKit
set_option linter.unusedVariables false
set_option maxRecDepth 100000

theorem From_at (x : Tm) (w : World) (v : Value) (hg : goodT x = true) (hv : TmV w x v) :
    Calls Tryz.prog 65 #[v, .int .i64 0] w fun e w' => ∃ v' m, e = .returned (.tuple #[v', .int .i64 m, .int .i64 0]) ∧ TmV w' (renT (varsT x []) x) v' ∧ Below w.heap.size w w' := by
  obtain ⟨k, n, s, a, m, c, rfl, ek, en, es, ep⟩ := four_of hv
  obtain ⟨hsz, hdp, hfx⟩ := good_parts hg
  have hvl := wvars_len x []
  have hin := inV_of x [] hfx (fun n hn => hn)
  have HIN := Lib.hid hin
  have HF := Lib.hid hfx
  have HV := Lib.hid hv
  have HG := Lib.hid hg
  have hn2 : (varsT x []).length ≤ 2000 := by simp at hvl; omega
  obtain ⟨w1, hw1, hb1, hz1, hx1⟩ := box_new w #[.int .i64 k, .int .i64 n, .string s, .slice a m c] 66
  obtain ⟨w2, hw2, hb2, hz2, hx2⟩ := box_new w1 #[.int .i64 0, .int .i64 0, .string ⟨#[]⟩, .slice none 0 0] 66
  have HBB := Lib.hid hb1.size
  have HB2 := Lib.hid (Ext.trans' hb1 hb2)
  have h23 : w1.heap.size < w2.heap.size := by omega
  have HX1 := Lib.hid (hx1.ext hb2)
  have HX2 := Lib.hid hx2
  have h12 : w.heap.size ≠ w1.heap.size := by omega
  have hg2 := rgood_at x w2 _ (TmV.ext HB2.out _ _ hv)
  rw [hg] at hg2
  obtain ⟨y0, y1, y2, y3, yf⟩ := (hx1.ext hb2).four
  clear hv ek en es ep hsz hdp hfx hvl hin hb1 hb2 hx1 hx2 hz1 hz2 hg
  go_enter Tryz.func65, Tryz.ntmps65
  go_wp2_with fail
  (try rw [hw1])
  (try rw [hw2])
  clear hw1 hw2
  (go_wp2_with fail; go_fit (hg2); rintro e w3 ⟨rfl, hb3⟩)
  have HB3 := Lib.hid hb3
  obtain ⟨t0, t1, t2, t3, tf⟩ := (HX1.out.ext hb3).four
  have hvr := rVars_at x w3 _ (TmV.ext hb3 _ _ (TmV.ext HB2.out _ _ HV.out))
  rw [HG.out, if_pos rfl] at hvr
  clear y0 y1 y2 y3 yf hb3 hg2
  (go_wp2_with fail; go_fit (hvr); rintro e w4 ⟨r, rfl, hnr, hb4⟩)
  obtain ⟨ar, cr, rfl, _, _⟩ := hnr.len
  obtain ⟨q, hq⟩ : ∃ q, (varsT x []).length = q := ⟨_, rfl⟩
  have HQ := Lib.hid hq
  rw [hq] at hn2 ⊢
  have hB4 : Below w.heap.size w w4 := Ext.trans' (Ext.trans' HB2.out HB3.out) hb4
  have HB4 := Lib.hid hB4
  have h14 : w1.heap.size < w4.heap.size := Nat.lt_of_lt_of_le h23 (Nat.le_trans HB3.out.size hb4.size)
  have hre := rename_at (varsT x []) (by omega) x (plusB noM w1.heap.size) w4 _ _ HF.out HIN.out (fun k hk => by rw [plusB_ne (by have := h14; omega)]) (TmV.stay (Stays.below hB4 fun k hk _ => by rw [plusB_ne (by have := HBB.out; omega)]) _ _ (by rw [hide_none]; exact HV.out)) hnr
  rw [hq] at hre
  have hX1 := (HX1.out.ext HB3.out).ext hb4
  obtain ⟨t0, t1, t2, t3, tf⟩ := hX1.four
  have HX24 := Lib.hid ((HX2.out.ext HB3.out).ext hb4)
  have hwr : IntKind.i64.wrap (0 + (q : Int)) = q := by rw [Int.zero_add]; exact IntWalk.i64_in _ (by omega)
  have hwr' : IntKind.i64.wrap (q : Int) = q := IntWalk.i64_in _ (by omega)
  have hle : ((q : Int) > 2147483648) = False := by simp; omega
  clear hb4 hX1 hB4 hq
  (go_wp2_with fail; go_fit (hre); rintro e w5 ⟨v5, rfl, hv5, hb5⟩)
  obtain ⟨k5, n5, s5, a5, m5, c5, rfl, ek, en, es, ep⟩ := four_of hv5
  have HV5 := Lib.hid hv5
  have HB5 := Lib.hid hb5
  obtain ⟨q0, q1, q2, q3, qf⟩ := (HX24.out.ext hb5).four
  clear hv5 ek en es ep hb5 hre t0 t1 t2 t3 tf
  go_wp2
  refine bodyPost_ret (v := .tuple #[.agg #[.int .i64 k5, .int .i64 n5, .string s5, .slice a5 m5 c5], .int .i64 q, .int .i64 0]) (by rw [results_cell3 rfl]; go_simp) rfl ⟨_, _, rfl, ?_, ?_⟩
  · have hd : plusB noM w1.heap.size w1.heap.size = true := plusB_self _ _
    exact TmV.stay (Stays.unhide (plusB noM w1.heap.size) _) _ _ (TmV.stay ((((Stays.set (D := plusB noM w1.heap.size) ⟨w1.heap.size, 0, none⟩ (.int .i64 k5) hd).trans (Stays.set ⟨w1.heap.size, 1, none⟩ (.int .i64 n5) hd)).trans (Stays.set ⟨w1.heap.size, 2, none⟩ (.string s5) hd)).trans (Stays.set ⟨w1.heap.size, 3, none⟩ (.slice a5 m5 c5) hd)) _ _ HV5.out)
  · exact Below.set4 (Ext.trans' HB4.out HB5.out) HBB.out _ _ _ _
theorem Alike_at (x y : Tm) (w : World) (va vb : Value) (hx : goodT x = true) (hy : goodT y = true) (hva : TmV w x va) (hvb : TmV w y vb) :
    Calls Tryz.prog 35 #[va, vb] w fun e w' => e = .returned (.bool (sameT (renT (varsT x []) x) (renT (varsT y []) y))) ∧ Below w.heap.size w w' := by
  obtain ⟨k1, n1, s1, a1, m1, c1, rfl, e1, e2, e3, e4⟩ := four_of hva
  clear e1 e2 e3 e4
  obtain ⟨k2, n2, s2, a2, m2, c2, rfl, e1, e2, e3, e4⟩ := four_of hvb
  clear e1 e2 e3 e4
  obtain ⟨sb, hsb⟩ : ∃ b, sameT (renT (varsT x []) x) (renT (varsT y []) y) = b := ⟨_, rfl⟩
  rw [hsb]
  have HSB := Lib.hid hsb
  clear hsb
  have HVA := Lib.hid hva
  have HVB := Lib.hid hvb
  obtain ⟨w1, hw1, hb1, hz1, hx1⟩ := box_new w #[.int .i64 k1, .int .i64 n1, .string s1, .slice a1 m1 c1] 66
  obtain ⟨w2, hw2, hb2, hz2, hx2⟩ := box_new w1 #[.int .i64 k2, .int .i64 n2, .string s2, .slice a2 m2 c2] 66
  have HB2 := Lib.hid (Ext.trans' hb1 hb2)
  have HX2 := Lib.hid hx2
  have HX1 := Lib.hid (hx1.ext hb2)
  have F1 := From_at x w2 _ hx (TmV.ext HB2.out _ _ hva)
  have F2 := fun w3 (h : Below w2.heap.size w2 w3) => From_at y w3 _ hy (TmV.ext h _ _ (TmV.ext HB2.out _ _ hvb))
  have HF2 := Lib.hid F2
  obtain ⟨y0, y1, y2, y3, yf⟩ := HX1.out.four
  clear hb1 hb2 hx1 hx2 hz1 hz2 hva hvb hx hy F2
  go_enter Tryz.func35, Tryz.ntmps35
  go_wp2_with fail
  (try rw [hw1])
  (try rw [hw2])
  clear hw1 hw2
  (go_wp2_with fail; go_fit (F1); rintro e w3 ⟨v3, m3, rfl, hv3, hb3⟩)
  obtain ⟨k3, n3, s3, a3, i3, c3, rfl, e1, e2, e3, e4⟩ := four_of hv3
  clear e1 e2 e3 e4
  have HV3 := Lib.hid hv3
  have HB3 := Lib.hid hb3
  clear hv3 hb3 F1 y0 y1 y2 y3 yf
  obtain ⟨w4, hw4, hb4, hz4, hx4⟩ := box_new w3 #[.int .i64 0, .int .i64 0, .string ⟨#[]⟩, .slice none 0 0] 66
  obtain ⟨q0, q1, q2, q3, qf⟩ := hx4.four
  have HB4 := Lib.hid hb4
  have HX4 := Lib.hid hx4
  have HB34 := Lib.hid (show Below w3.heap.size w3 (set4 w4 w3.heap.size (.int .i64 k3) (.int .i64 n3) (.string s3) (.slice a3 i3 c3)) from Below.set4 hb4 (Nat.le_refl _) _ _ _ _)
  have HB24 := Lib.hid (Ext.trans' HB3.out HB34.out)
  have F2 := HF2.out _ HB24.out
  have HX24 := Lib.hid (HX2.out.ext HB24.out)
  obtain ⟨p0, p1, p2, p3, pf⟩ := HX24.out.four
  have hne : w1.heap.size ≠ w3.heap.size := by have := HB3.out.size; have := HX2.out.lt; omega
  obtain ⟨p0', p1', p2', p3', pf'⟩ := ((HX2.out.ext HB3.out).ext HB4.out).four
  have HX54 := Lib.hid (hx4.all4 (.int .i64 k3) (.int .i64 n3) (.string s3) (.slice a3 i3 c3))
  clear hb4 hx4 hz4
  (go_wp2_with fail; go_fit (F2); rintro e w5 ⟨v5, m5, rfl, hv5, hb5⟩)
  obtain ⟨k5, n5, s5, a5, i5, c5, rfl, e1, e2, e3, e4⟩ := four_of hv5
  clear e1 e2 e3 e4
  have HV5 := Lib.hid hv5
  have HB5 := Lib.hid hb5
  have HX55 := Lib.hid (HX54.out.ext hb5)
  clear hv5 hb5 F2 q0 q1 q2 q3 qf p0 p1 p2 p3 pf p0' p1' p2' p3' pf'
  obtain ⟨w6, hw6, hb6, hz6, hx6⟩ := box_new w5 #[.int .i64 0, .int .i64 0, .string ⟨#[]⟩, .slice none 0 0] 66
  obtain ⟨q0, q1, q2, q3, qf⟩ := hx6.four
  have HB56 := Lib.hid (show Below w5.heap.size w5 (set4 w6 w5.heap.size (.int .i64 k5) (.int .i64 n5) (.string s5) (.slice a5 i5 c5)) from Below.set4 hb6 (Nat.le_refl _) _ _ _ _)
  have hne5 : w3.heap.size ≠ w5.heap.size := by have := HX55.out.lt; omega
  obtain ⟨p0, p1, p2, p3, pf⟩ := (HX55.out.ext hb6).four
  have SM := rsame_at _ _ (Nat.le_refl _) _ (set4 w6 w5.heap.size (.int .i64 k5) (.int .i64 n5) (.string s5) (.slice a5 i5 c5)) _ _ (TmV.ext HB56.out _ _ (TmV.ext HB5.out _ _ (TmV.ext HB34.out _ _ HV3.out))) (TmV.ext HB56.out _ _ HV5.out)
  rw [HSB.out] at SM
  clear hb6 hx6 hz6
  (go_wp2_with fail; go_fit (SM); rintro e w7 ⟨rfl, hb7⟩)
  have HB7 := Lib.hid hb7
  clear hb7 SM q0 q1 q2 q3 qf p0 p1 p2 p3 pf
  go_wp2
  go_ret
  exact ⟨rfl, Ext.trans' HB2.out (Ext.trans' (Ext.trans' (Ext.trans' HB24.out HB5.out) HB56.out) HB7.out)⟩
end Go.Proofs.YtljgkfdnmikpfaaGreatDoor
/- Terms: how deep one is asked of. -/
namespace Go.Proofs.YtljgkfdnmikpfaaGreatDoor
open Go.RowKit
set_option linter.unusedVariables false

mutual
def deepT : Tm → Int → Bool
  | .mk _ _ _ ts, left => if left < 1 ∨ 12 < ts.length then true else deepsT ts (left - 1)
def deepsT : List Tm → Int → Bool
  | [], _ => false
  | x :: r, left => deepT x left || deepsT r left
end
end Go.Proofs.YtljgkfdnmikpfaaGreatDoor
/- Stage 9's laws: how deep a term is asked of. -/
namespace Go.Proofs.YtljgkfdnmikpfaaGreatDoor
open Go.RowKit
set_option linter.unusedVariables false

set_option maxHeartbeats 2000000 in
theorem deep9_at : ∀ (N : Nat) (x : Tm), sizeN x ≤ N → ∀ (left : Int), I64 left → ∀ (w : World) (v : Value), TmV w x v →
    Calls Tryz.prog 30 #[v, .int .i64 left] w fun e w' => e = .returned (.bool (deepT x left)) ∧ Below w.heap.size w w'
  | 0, x, h, left, hl, w, v, hv => by have := size_pos x; omega
  | N + 1, .mk k n s ts, h, left, hl, w, v, hv => by
    obtain ⟨u, rfl, hs, hk, hn, hu⟩ := tmV_iff.1 hv
    obtain ⟨a, c, rfl, h1, h2, h3⟩ := hu.len
    unfold BIG at h3
    unfold I64 at hl
    have hD : deepT (.mk k n s ts) left = if left < 1 ∨ 12 < ts.length then true else deepsT ts (left - 1) := by rw [deepT]
    by_cases hlt : left < 1
    · rw [hD, if_pos (Or.inl hlt)]
      clear hD
      go_enter Tryz.func30, Tryz.ntmps30
      go_wp2
      go_ret
      exact ⟨rfl, bel1' _ _⟩
    obtain ⟨m, hm⟩ : ∃ m, ts.length = m := ⟨_, rfl⟩
    by_cases h12 : 12 < m
    · rw [hD, if_pos (Or.inr (by rw [hm]; exact h12))]
      rw [hm] at h1 h3 ⊢
      clear hD hv hu hm
      go_enter Tryz.func30, Tryz.ntmps30
      go_wp2
      go_ret
      exact ⟨rfl, bel1' _ _⟩
    rw [hD, if_neg (by rw [hm]; omega)]
    have hI : I64 (left - 1) := by unfold I64; omega
    have IH := Lib.hid (fun (y : Tm) (hy : y ∈ ts) => deep9_at N y (mem_size h hy) (left - 1) hI)
    have HU := Lib.hid hu
    have HM := Lib.hid hm
    rw [hm] at h1 h3 hu HU ⊢
    obtain ⟨r, hr⟩ : ∃ r, deepsT ts (left - 1) = r := ⟨_, rfl⟩
    rw [hr]
    have HR := Lib.hid hr
    clear hD hv hu hm hr h
    go_enter Tryz.func30, Tryz.ntmps30
    go_wp2_with fail
    go_loopw [5] (fun v wr => ∃ i : Nat, i ≤ m ∧ v = .int .i64 i ∧ Hid (deepsT (ts.drop i) (left - 1) = r) ∧ Hid (Below (w.alloc (.cells #[.int .i64 k, .int .i64 n, .string s, .slice a m c] 27)).heap.size (w.alloc (.cells #[.int .i64 k, .int .i64 n, .string s, .slice a m c] 27)) wr)) (fun v _ => m - (intOf v).toNat)
    case atStart => exact ⟨0, Nat.zero_le _, rfl, Lib.hid (by rw [List.drop_zero]; exact HR.out), Lib.hid (Below.refl _ _)⟩
    case round =>
      obtain ⟨i, hi, rfl, HD, HB⟩ := hrel
      obtain ⟨e0, e1, e2, e3⟩ := box_cells w 27 _ _ _ _ HB.out
      by_cases hil : i < m
      · obtain ⟨y, hy⟩ : ∃ y, ts[i]? = some y := ⟨_, List.getElem?_eq_getElem (by rw [HM.out]; exact hil)⟩
        have hdr : ts.drop i = y :: ts.drop (i + 1) := by
          obtain ⟨hlt', rfl⟩ := List.getElem?_eq_some_iff.1 hy
          exact List.drop_eq_getElem_cons hlt'
        have hd := HD.out
        rw [hdr, deepsT] at hd
        have HBW := Lib.hid (Ext.trans' (bel1' w _) HB.out)
        obtain ⟨b, off, k', n', s', u', rfl, hbb, _, _, _, c0, c1, c2, c3, _, ht⟩ := (HU.out.ext HBW.out).get hy
        have ih := IH.out y (List.mem_of_getElem? hy) wr _ ht
        clear hdr HD ht
        cases hq : deepT y (left - 1)
        · rw [hq, Bool.false_or] at hd
          rw [hq] at ih
          have HD := Lib.hid hd
          clear hq hd hy
          (go_wp2_with fail; go_fit (ih); rintro e w2 ⟨rfl, b2⟩)
          have B2 := Lib.hid (Ext.trans' HB.out b2)
          clear b2
          go_wp2
          go_roundw
          case rel => exact ⟨i + 1, by omega, by go_num, HD, B2⟩
          case measure => simp [intOf]; omega
        · rw [hq, Bool.true_or] at hd
          rw [hq] at ih
          subst hd
          clear hq hy HR
          (go_wp2_with fail; go_fit (ih); rintro e w2 ⟨rfl, b2⟩)
          have B2 := Lib.hid (Ext.trans' HBW.out b2)
          clear b2
          go_wp2
          go_ret
          exact ⟨rfl, B2.out⟩
      · have hd := HD.out
        rw [List.drop_eq_nil_of_le (by rw [HM.out]; omega), deepsT] at hd
        subst hd
        clear HR HD
        go_wp2
        go_ret
        exact ⟨rfl, Ext.trans' (bel1' w _) HB.out⟩
end Go.Proofs.YtljgkfdnmikpfaaGreatDoor
