import Derived.Test.YtjhoekhfikcanaaHoqad
import Derived.Maps.OwnSet
import Derived.Maps.OwnOps
import Derived.Maps.Views
import Derived.Test.YtjhoekhfikcanaaHoqaa
import Derived.Ground.SlgnProg
import Derived.Shelf.SlicesE.Reverse
import Derived.Test.YtjhoekhfikcanaaProg
set_option linter.unusedVariables false
set_option linter.unusedSimpArgs false
/- Package bind: whole, walked. -/
namespace Go.Proofs.Ytjhoekhfikcanaa
open Go.RowKit
set_option linter.unusedVariables false

/-- What whole asks of a term. -/
def WIH (V : World) (F : List Nat) (p : Value) (N : Nat) (R : List (Int × Tm)) (q : Nat) : Prop :=
  ∀ (w : World) (x : Tm) (v : Value) (room rb : Nat), IsB V F w p N R → TmV V x v → goodT x = true → (∀ m ∈ occT x, 0 ≤ m ∧ m < N) → room ≤ 2000 → NumC w rb room → ¬ rb ∈ F → Blind V [rb] →
    Calls Try.prog 50 #[p, v, .int .i64 q, .pointer (some ⟨rb, 0, none⟩)] w (WPost w rb room q (subT (fullB R) x))
theorem sizes_map_drop {S : Int → Tm} {ts : List Tm} {i : Nat} {y : Tm} (h : ts[i]? = some y) : (subL S ts)[i]? = some (subT S y) := by rw [subL_map, List.getElem?_map, h]; rfl
section
variable {V : World} {F : List Nat} {p : Value} {N : Nat} {R : List (Int × Tm)}
set_option maxHeartbeats 8000000 in
set_option maxRecDepth 100000 in
theorem whole_succ (q : Nat) (hq : q + 1 ≤ 64) (ih : WIH V F p N R q) : WIH V F p N R (q + 1) := by
  intro w x v room rb h hv hg ho hroom hc hrb hbl
  by_cases h0 : room = 0
  · obtain ⟨k, n, s, u, rfl⟩ := hv.four
    exact whole_zero (q + 1) room hq hroom (Or.inr h0) w ⟨k, n, s, u, rfl⟩ hc
  obtain ⟨hT, hN⟩ := h.tri
  obtain ⟨T, hTx⟩ : ∃ T, subT (fullB R) x = T := ⟨_, rfl⟩
  rw [hTx]
  have IH := Lib.hid ih
  have HIS := Lib.hid h
  have HWK := fun (w3 : World) (ht : Touch [rb] w w3) => Walk_at (h.touch ht (fun k hk => by simp at hk; subst hk; exact hrb) hbl) hv hg ho
  have HTX := Lib.hid hTx
  have HBL := Lib.hid (And.intro hrb hbl)
  obtain ⟨Q, hQ⟩ : ∃ Q : Int, Q = ((q + 1 : Nat) : Int) := ⟨_, rfl⟩
  have hQ0 : (Q == 0) = false := by simp; omega
  have hQ1 : Q - 1 = (q : Int) := by omega
  have HQ := Lib.hid hQ
  rw [← hQ]
  obtain ⟨kx, nx, sx, ax, mx, cx, rfl⟩ := hv.full
  obtain ⟨w1, e1, B1, z1, X1⟩ := box_new w #[.int .i64 kx, .int .i64 nx, .string sx, .slice ax mx cx] 31
  obtain ⟨w2, e2, B2, z2, X2⟩ := box_new w1 #[.int .i64 0, .int .i64 0, .string ⟨#[]⟩, .slice none 0 0] 31
  have X1 := X1.ext B2
  have B12 := Ext.trans' B1 B2
  rw [z1] at X2 z2
  have hc2 := hc.ext B12
  have hrlt := hc.2.2
  obtain ⟨rm, hrm⟩ : ∃ rm : Nat, room = rm + 1 := ⟨room - 1, by omega⟩
  have hrm0 : ((room : Int) == 0) = false := by simp; omega
  have hrm1 : (room : Int) - 1 = (rm : Int) := by omega
  have HRM := Lib.hid hrm
  obtain ⟨w3, e3⟩ : ∃ w3, w2.setCell ⟨rb, 0, none⟩ (.int .i64 rm) = w3 := ⟨_, rfl⟩
  have T3 : Touch [rb] w w3 := by rw [← e3]; exact (Touch.of_below B12 _).trans (touch_one w2 rb 0 _) (fun k hk => Or.inl hk)
  have s3 : w3.heap.size = w.heap.size + 1 + 1 := by rw [← e3]; simp [World.setCell]; omega
  have N3 : NumC w3 rb rm := by rw [← e3]; exact hc2.put _
  have hne : w.heap.size ≠ rb := by omega
  have hne2 : w.heap.size + 1 ≠ rb := by omega
  have Y1 : Box w3 w.heap.size [.int .i64 kx, .int .i64 nx, .string sx, .slice ax mx cx] := by rw [← e3]; exact X1.far hne
  have Y2 : Box w3 (w.heap.size + 1) [.int .i64 0, .int .i64 0, .string ⟨#[]⟩, .slice none 0 0] := by rw [← e3]; exact X2.far hne2
  have C := HWK w3 T3
  have HT3 := Lib.hid (And.intro T3 (And.intro s3 N3))
  have HY := Lib.hid (And.intro Y1 Y2)
  have r0 := hc2.1
  have rf := hc2.2.1
  obtain ⟨a0, a1, a2, a3, af⟩ := X1.four
  obtain ⟨c0, c1, c2, c3, cf⟩ := Y1.four
  have HGD := Lib.hid (And.intro hg ho)
  have HTN := Lib.hid (And.intro hT hN)
  clear hTx hQ hv ih h HWK hc hrb hbl B1 B2 z2 X1 X2 B12 hc2 hrm s3 T3 N3 Y1 Y2 hg ho hT hN
  go_enter Try.func50, Try.ntmps50
  go_wp2_with fail
  go_fit (C)
  rintro e w4 ⟨y, v4, rfl, hy, hwk, htop, b4⟩
  obtain ⟨k, n, s, a, m, c, rfl, fk, fn, fs, fv⟩ := four_of hy
  clear e1 e2 e3 z1 a0 a1 a2 a3 af c0 c1 c2 c3 cf r0 rf C fv
  have hN3 := HT3.out.2.2.ext b4
  have hs4 : w.heap.size + 1 + 1 ≤ w4.heap.size := by have := b4.size; have := HT3.out.2.1; omega
  have T4 : Touch [rb] w w4 := HT3.out.1.then b4
  have Y1 := HY.out.1.ext b4
  have Y2 := HY.out.2.ext b4
  obtain ⟨Ts, hTs⟩ : ∃ Ts, subL (fullB R) y.args = Ts := ⟨_, rfl⟩
  have hTeq : T = .mk k n s Ts := by rw [← HTX.out, ← hwk.same, topped hwk.good htop, fk, fn, fs, hTs]
  have hlen : Ts.length = m := by
    obtain ⟨yk, yn, ys, yt⟩ := y
    obtain ⟨u, hu, _, _, _, hU⟩ := tmV_iff.1 hy
    obtain ⟨a', c', rfl, _⟩ := hU.len
    simp only [Value.agg.injEq] at hu
    have hu' := congrArg Array.toList hu
    simp only [List.cons.injEq, and_true, Value.slice.injEq] at hu'
    rw [← hTs, subL_len]
    exact hu'.2.2.2.2.1.symm
  have hU : Tms V (.slice a m c) y.args := by
    obtain ⟨yk, yn, ys, yt⟩ := y
    obtain ⟨u, hu, _, _, _, hU⟩ := tmV_iff.1 hy
    simp only [Value.agg.injEq] at hu
    have hu' := congrArg Array.toList hu
    simp only [List.cons.injEq, and_true] at hu'
    rw [hu'.2.2.2]
    exact hU
  have HYB := Lib.hid (show s.size ≤ BIG ∧ I64 k ∧ I64 n by
    obtain ⟨yk, yn, ys, yt⟩ := y
    obtain ⟨u, hu, q1, q2, q3, _⟩ := tmV_iff.1 hy
    simp only [Value.agg.injEq] at hu
    have hu' := congrArg Array.toList hu
    simp only [List.cons.injEq, and_true, Value.int.injEq, true_and, Value.string.injEq] at hu'
    rw [hu'.1, hu'.2.1, hu'.2.2.1]
    exact ⟨q1, q2, q3⟩)
  obtain ⟨w5, e5⟩ : ∃ w5, (((w4.setCell ⟨w.heap.size, 0, none⟩ (.int .i64 k)).setCell ⟨w.heap.size, 1, none⟩ (.int .i64 n)).setCell ⟨w.heap.size, 2, none⟩ (.string s)).setCell ⟨w.heap.size, 3, none⟩ (.slice a m c) = w5 := ⟨_, rfl⟩
  have b5 : Below w.heap.size w4 w5 := by rw [← e5]; exact Below.set4 (Below.refl _ _) (Nat.le_refl _) _ _ _ _
  have Z1 : Box w5 w.heap.size [.int .i64 k, .int .i64 n, .string s, .slice a m c] := by
    rw [← e5]; exact (((Y1.set (k := 0) (by simp)).set (k := 1) (by simp)).set (k := 2) (by simp)).set (k := 3) (by simp)
  have Z2 : Box w5 (w.heap.size + 1) [.int .i64 0, .int .i64 0, .string ⟨#[]⟩, .slice none 0 0] := by
    rw [← e5]; exact (((Y2.far (c := w.heap.size) (by omega)).far (by omega)).far (by omega)).far (by omega)
  have T5 : Touch [rb] w w5 := by
    refine ⟨b5.os.trans T4.os, b5.tape.trans T4.tape, b5.output.trans T4.output, Nat.le_trans T4.size b5.size, fun j hj hn => (b5.block j (by have := T4.size; omega)).trans (T4.block j hj hn)⟩
  have N5 : NumC w5 rb rm := ⟨by rw [b5.cell (p := ⟨rb, 0, none⟩) hrlt]; exact hN3.1, by rw [b5.frozen (p := ⟨rb, 0, none⟩) hrlt]; exact hN3.2.1, by have := b5.size; have := hN3.2.2; omega⟩
  have s5 : w.heap.size + 1 + 1 ≤ w5.heap.size := Nat.le_trans hs4 b5.size
  obtain ⟨d0, d1, d2, d3, df⟩ := Y1.four
  obtain ⟨g0, g1, g2, g3, gf⟩ := Z1.four
  have hbound : m * 56 ≤ BIG ∧ m ≤ c ∧ c ≤ maxLen := by obtain ⟨a', c', e', q1, q2, q3⟩ := hU.len; cases e'; exact ⟨q3, q1, q2⟩
  obtain ⟨hb1, hb2, hb3⟩ := hbound
  unfold BIG at hb1
  have hargs : ∀ (i : Nat) (t : Tm), y.args[i]? = some t → goodT t = true ∧ ∀ j ∈ occT t, 0 ≤ j ∧ j < (N : Int) := fun i t hi => by
    have hm := List.mem_of_getElem? hi
    refine ⟨good_arg hwk.good hm, fun j hj => ?_⟩
    have hr := hwk.rng
    obtain ⟨yk, yn, ys, yt⟩ := y
    by_cases hk0 : yk = 0
    · have := (formed_var (show formedT (.mk 0 yn ys yt) = true by rw [← hk0]; exact (good_parts hwk.good).2.2)).1
      unfold varV at this
      injection this with _ _ _ e
      have hm' : t ∈ yt := hm
      rw [e] at hm'
      cases hm'
    · exact hr j (by rw [occ_not hk0]; exact mem_occL.2 ⟨t, hm, hj⟩)
  have HAR := Lib.hid hargs
  have HU := Lib.hid hU
  have HTS := Lib.hid (And.intro hTs hlen)
  have HTE := Lib.hid hTeq
  have HS := Lib.hid (And.intro T5 (And.intro N5 (And.intro Z1 (And.intro Z2 s5))))
  clear hy hwk htop b4 fk fn fs hN3 hs4 T4 Y1 Y2 hTs hTeq hlen hU b5 Z1 Z2 T5 N5 s5 hargs
  go_wp2_with fail
  (try rw [e5])
  clear e5 d0 d1 d2 d3 df
  go_loopg [10, 35] m (fun g z u wr => ∃ i : Nat, i ≤ m ∧ u = .int .i64 i ∧ g = m - i ∧ Hid (ArgsIn (w.heap.size + 1 + 1) wr z (Ts.take i)) ∧ Hid (Touch [rb] w wr ∧ Box wr w.heap.size [.int .i64 k, .int .i64 n, .string s, .slice a m c] ∧ Box wr (w.heap.size + 1) [.int .i64 0, .int .i64 0, .string ⟨#[]⟩, .slice none 0 0]) ∧
    Hid (sizesN (Ts.take i) ≤ rm ∧ depthsN (Ts.take i) ≤ q ∧ NumC wr rb ((rm : Int) - sizesN (Ts.take i))))
  case atStart => exact ⟨0, Nat.zero_le _, rfl, rfl, Lib.hid (by rw [List.take_zero]; exact ArgsIn.none HS.out.2.2.2.2), Lib.hid ⟨HS.out.1, HS.out.2.2.1, HS.out.2.2.2.1⟩, Lib.hid ⟨by rw [List.take_zero, sizesN]; omega, by rw [List.take_zero, depthsN]; omega, by rw [List.take_zero, sizesN]; simpa using HS.out.2.1⟩⟩
  case round =>
    obtain ⟨i, hi, rfl, hgk, HA, HW, HC⟩ := hrel
    have HGK := Lib.hid hgk
    clear hgk
    by_cases hil : i < m
    · obtain ⟨t, ht⟩ : ∃ t, y.args[i]? = some t := ⟨_, List.getElem?_eq_getElem (by have := HTS.out; rw [← this.1, subL_len] at this; omega)⟩
      obtain ⟨b, off, k1, n1, s1, u1, rfl, hbb, _, _, _, c0, c1, c2, c3, htu, htv⟩ := HU.out.get ht
      obtain ⟨au, cu, rfl, _⟩ := htu.len
      clear htu
      have hI := HIS.out.touch HW.out.1 (fun j hj => by simp at hj; subst hj; exact HBL.out.1) HBL.out.2
      have hS := hI.see.1
      have d0 := hS.2 _ _ c0
      have d1 := hS.2 _ _ c1
      have d2 := hS.2 _ _ c2
      have d3 := hS.2 _ _ c3
      have hTi : Ts[i]? = some (subT (fullB R) t) := by rw [← HTS.out.1]; exact sizes_map_drop ht
      obtain ⟨hz1, hz2, hz3⟩ := HC.out
      obtain ⟨ri, hri⟩ : ∃ ri : Nat, rm = ri + sizesN (Ts.take i) := ⟨rm - sizesN (Ts.take i), by omega⟩
      have hcell : NumC wr rb ri := by rw [show (ri : Int) = (rm : Int) - sizesN (Ts.take i) by omega]; exact hz3
      have hbx := bel1' wr (box4 k1 n1 s1 (.slice au t.args.length cu) 31)
      have C := IH.out _ t _ ri rb (hI.ext hbx) htv (HAR.out i t ht).1 (HAR.out i t ht).2 (by have := HRM.out; omega) (hcell.ext hbx) HBL.out.1 HBL.out.2
      have HRI := Lib.hid hri
      have HTI := Lib.hid hTi
      obtain ⟨g0, g1, g2, g3, gf⟩ := HW.out.2.1.four
      clear hI hS ht htv hTi hz1 hz2 hz3 hri hcell hbx c0 c1 c2 c3
      go_wp2_with fail
      go_fit (C)
      rintro e w7 ⟨v7, bb, rfl, t7, hiff, hok, hno⟩
      clear C d0 d1 d2 d3
      cases bb
      · obtain rfl := hno rfl
        have hnot : ¬ (sizeN T ≤ room ∧ depthN T ≤ q + 1) := by
          rintro ⟨q1, q2⟩
          have h1 := hiff.2
          rw [HTE.out, sizeN] at q1
          rw [HTE.out, depthN] at q2
          have h2 := sizes_drop' HTI.out
          have h3 := sizes_take' Ts (i + 1)
          have h4 := depths_take_succ HTI.out
          have h5 := depths_take_le Ts (i + 1)
          have h6 := HRM.out
          have h7 := HRI.out
          have := h1 ⟨by omega, by omega⟩
          cases this
        have HNT := Lib.hid hnot
        have T7 := Lib.hid ((HW.out.1.then (bel1' _ _)).trans t7 (fun j hj => Or.inl hj))
        have Z2 := HW.out.2.2.ext (bel1' wr (box4 k1 n1 s1 (.slice au t.args.length cu) 31))
        have s7 : w.heap.size + 1 < w7.heap.size := Nat.lt_of_lt_of_le Z2.lt t7.size
        have Z3 : Box w7 (w.heap.size + 1) _ := Z2.block (t7.block _ Z2.lt (by simp; omega)) s7
        obtain ⟨x0, x1, x2, x3, xf⟩ := Z3.four
        clear hiff hok hno hnot Z2 Z3 t7
        go_wp2
        refine bodyPost_ret (v := .tuple #[.agg #[.int .i64 0, .int .i64 0, .string ⟨#[]⟩, .slice none 0 0], .bool false]) (by rw [results_cell_tmp rfl]; go_simp) rfl ?_
        exact WPost.no ((T7.out.four (Nat.le_succ _) _ _ _ _).then (bel1' _ _)) HNT.out
      · obtain ⟨hv7, hn7⟩ := hok rfl
        obtain ⟨hle1, hle2⟩ := hiff.1 rfl
        obtain ⟨tk, tn, tsn, ta, tl, tc, rfl, _, _, _, fv⟩ := four_of hv7
        obtain ⟨D, ps, HD⟩ := HA.out
        have tch7 : Touch [rb] wr w7 := (Touch.of_below (bel1' wr _) [rb]).trans t7 (fun j hj => Or.inl hj)
        obtain ⟨az, cz, rfl, z1, z2, hzo⟩ := HD.form
        have hzl : (Ts.take i).length = i := by rw [List.length_take, HTS.out.2]; omega
        have hpl : ps.length = i := by rw [HD.len]; exact hzl
        rw [hzl] at z1 hzo HD HA ⊢
        have hD7 := HD.touch tch7 (fun j hj => by simp at hj; omega)
        have hrow7 : w7.ownsRow (w.heap.size + 1 + 1) 31 4 (.slice az i cz) i (ps.flatMap pCells) := by have := hD7.row; unfold RowP at this; rw [hpl] at this; exact this
        obtain ⟨i0, hi0, hz0, hs0, hb0⟩ := info_parts infoTerm
        have HROW := Lib.hid hrow7
        have HDD := Lib.hid HD
        have HPL := Lib.hid hpl
        have HFV := Lib.hid fv
        have HV7 := Lib.hid hv7
        have HN7 := Lib.hid hn7
        have HLE := Lib.hid (And.intro hle1 hle2)
        have TCH := Lib.hid tch7
        have HZO := Lib.hid hzo
        have s7 : w.heap.size + 1 + 1 ≤ w7.heap.size := hD7.size
        unfold maxLen at z2
        clear hiff hok hno hv7 hn7 hle1 hle2 fv HA HD tch7 hzo hzl hpl hD7 hrow7 t7
        go_wp2_with (at_builtin; refine wpList_append_k rfl _ _ 29 rfl (w.heap.size + 1 + 1) 31 i0 (.agg #[.int .i64 0, .int .i64 0, .string ⟨#[]⟩, .slice none 0 0]) 4 56 Try.underlying29 hi0 hz0 hs0 (by decide) hb0 rfl (.slice az i cz) i (ps.flatMap pCells) rfl ((HROW.out.alloc _).alloc _) _ 1 1 [.int .i64 tk, .int .i64 tn, .string tsn, .slice ta tl tc] rfl rfl (Or.inr ⟨⟨w7.heap.size + 1, 0, none⟩, rfl, fun j u hu => by have := cell_new2 w7 (box4 tk tn tsn (.slice ta tl tc) 31) #[.int .i64 tk, .int .i64 tn, .string tsn, .slice ta tl tc] 31 j u hu; exact this⟩) (fun u hu => by simp at hu; rcases hu with rfl | rfl | rfl | rfl <;> rfl) (by unfold maxLen; omega) (by omega) (by simp; omega) (i + 1) (ps.flatMap pCells ++ [.int .i64 tk, .int .i64 tn, .string tsn, .slice ta tl tc]) rfl rfl ?_; intro a4 c4 w10 hown10 hgrow10 hat10)
        go_roundg (m - (i + 1))
        case measure => have := HGK.out; omega
        case rel =>
          have bw9 : Below w7.heap.size w7 ((w7.alloc (box4 tk tn tsn (.slice ta tl tc) 31)).alloc (box4 tk tn tsn (.slice ta tl tc) 31)) := Ext.trans' (bel1' _ _) (bel1' _ _)
          obtain ⟨w9, e9⟩ : ∃ w9, (w7.alloc (box4 tk tn tsn (.slice ta tl tc) 31)).alloc (box4 tk tn tsn (.slice ta tl tc) 31) = w9 := ⟨_, rfl⟩
          rw [e9] at hgrow10 hat10 bw9
          have t9 : Touch [rb] wr w9 := TCH.out.then bw9
          have hpc : pCells (subT (fullB R) t, Value.slice ta tl tc) = [.int .i64 tk, .int .i64 tn, .string tsn, .slice ta tl tc] := by
            have h1 := HFV.out
            simp only [pVal, Value.agg.injEq] at h1
            exact (congrArg Array.toList h1).symm
          have hmore := HDD.out.more (w' := w10) (z' := .slice a4 (i + 1) c4) (p := (subT (fullB R) t, .slice ta tl tc)) t9 (fun j hj => by simp at hj; omega)
            (by rw [← HFV.out]; exact TmV.stay (Stays.hide bw9.size fun j hj hd => ⟨hd, bw9.block j hj⟩) _ _ (TmV.stay (Stays.less fun j hj => by simp at hj ⊢; omega) _ _ HV7.out)) hgrow10 hat10 (by rw [hpc, HPL.out]; exact hown10)
          rw [← take_next HTI.out] at hmore
          have hz : ∀ g, (Value.slice az i cz).ownBlock = some g → w.heap.size + 1 + 1 ≤ g := fun g e => (HZO.out g e).1
          have hk9 : ∀ j, j < w.heap.size + 1 + 1 → w10.heap[j]? = w9.heap[j]? := fun j hj => hgrow10.block j (by have := HDD.out.size; have := t9.size; omega) (fun e => by have := hz j e.symm; omega)
          have hkb : ∀ j, j < w.heap.size + 1 + 1 → j ≠ rb → w10.heap[j]? = wr.heap[j]? := fun j hj hne => (hk9 j hj).trans (t9.block j (by have := HDD.out.size; omega) (by simpa using hne))
          have s10 : w.heap.size + 1 + 1 ≤ w10.heap.size := Nat.le_trans HDD.out.size (Nat.le_trans t9.size hgrow10.size)
          have hsz := sizes_drop' HTI.out
          have hdp := depths_take_succ HTI.out
          have hri := HRI.out
          have hle := HLE.out
          have hcc := HC.out
          refine ⟨i + 1, by omega, by go_num, rfl, Lib.hid hmore, Lib.hid ⟨((HW.out.1.trans t9 (fun j hj => Or.inl hj)).more hgrow10 (fun g e => by have := hz g e; omega)), HW.out.2.1.block (hkb _ (by omega) hne) (by omega), HW.out.2.2.block (hkb _ (by omega) hne2) (by omega)⟩, Lib.hid ⟨by omega, by omega, ?_⟩⟩
          have hn9 := (HN7.out.ext bw9).block (hk9 rb (by omega)) (by omega)
          rw [show (rm : Int) - sizesN (Ts.take (i + 1)) = (ri : Int) - sizeN (subT (fullB R) t) by omega]
          exact hn9
    · have him : i = m := by omega
      subst him
      have hfull : Ts.take i = Ts := List.take_of_length_le (by rw [HTS.out.2]; exact Nat.le_refl _)
      rw [hfull] at HA HC
      obtain ⟨D, ps, HD⟩ := HA.out
      obtain ⟨az, cz, rfl, z1, z2, hzo⟩ := HD.form
      rw [HTS.out.2] at z1 HD HA hzo ⊢
      have HDD := Lib.hid HD
      obtain ⟨g0, g1, g2, g3, gf⟩ := HW.out.2.1.four
      obtain ⟨x0, x1, x2, x3, xf⟩ := HW.out.2.2.four
      clear hfull HA HD hzo
      go_wp2
      refine bodyPost_ret (v := .tuple #[.agg #[.int .i64 k, .int .i64 n, .string s, .slice az i cz], .bool true]) (by rw [results_cell_tmp rfl]; go_simp) rfl ?_
      obtain ⟨wE, eE⟩ : ∃ wE, set4 (wr.setCell ⟨w.heap.size, 3, none⟩ (.slice az i cz)) (w.heap.size + 1) (.int .i64 k) (.int .i64 n) (.string s) (.slice az i cz) = wE := ⟨_, rfl⟩
      show WPost w rb room (q + 1) T _ (set4 (wr.setCell ⟨w.heap.size, 3, none⟩ (.slice az i cz)) (w.heap.size + 1) (.int .i64 k) (.int .i64 n) (.string s) (.slice az i cz))
      have tE : Touch [rb] w wE := by rw [← eE]; exact (HW.out.1.setNew _ _ (Nat.le_refl _)).four (Nat.le_succ _) _ _ _ _
      have hkE : ∀ j, j ≠ w.heap.size → j ≠ w.heap.size + 1 → wE.heap[j]? = wr.heap[j]? := fun j h1 h2 => by
        rw [← eE]
        exact ((Below.heap_setCell _ _ _ j h2).trans ((Below.heap_setCell _ _ _ j h2).trans ((Below.heap_setCell _ _ _ j h2).trans (Below.heap_setCell _ _ _ j h2)))).trans (Below.heap_setCell _ _ _ j h1)
      have sE : wE.heap.size = wr.heap.size := by rw [← eE]; simp [World.setCell]
      rw [eE]
      have hcc := HC.out
      have hrm := HRM.out
      refine ⟨_, true, rfl, tE, ⟨fun _ => ?_, fun _ => rfl⟩, fun _ => ⟨?_, ?_⟩, fun h => by cases h⟩
      · rw [HTE.out, sizeN, depthN]; omega
      · rw [HTE.out]
        refine tmV_iff.2 ⟨_, rfl, HYB.out.1, HYB.out.2.1, HYB.out.2.2, HDD.out.done (by omega) (Nat.le_of_eq sE.symm) (fun j h1 h2 => hkE j (by omega) (by omega)) (by rw [HTS.out.2]; unfold BIG; omega)⟩
      · rw [HTE.out, sizeN]
        have hb := (HC.out.2.2).block (hkE rb (by omega) (by omega)) (by rw [sE]; exact HC.out.2.2.2.2)
        rw [show (room : Int) - ((sizesN Ts + 1 : Nat) : Int) = (rm : Int) - sizesN Ts by omega]
        exact hb
theorem whole_any : ∀ q : Nat, q ≤ 64 → WIH V F p N R q
  | 0, hq => fun w x v room rb h hv hg ho hroom hc hrb hbl => by
    obtain ⟨k, n, s, u, rfl⟩ := hv.four
    exact whole_zero 0 room hq hroom (Or.inl rfl) w ⟨k, n, s, u, rfl⟩ hc
  | q + 1, hq => whole_succ q hq (whole_any q (by omega))
end
end Go.Proofs.Ytjhoekhfikcanaa
/- Package bind: Whole; New, Fresh. -/
namespace Go.Proofs.Ytjhoekhfikcanaa
open Go.RowKit
set_option linter.unusedVariables false

/-- What Whole answers. -/
def wholeB (N : Nat) (R : List (Int × Tm)) (x : Tm) : Tm × Int :=
  if fitsB N x = true then (if goodT (subT (fullB R) x) = true then (subT (fullB R) x, 0) else (varV 0, 12)) else (varV 0, 1)
theorem zero_tm (w : World) : TmV w (varV 0) (.agg #[.int .i64 0, .int .i64 0, .string ⟨#[]⟩, .slice none 0 0]) := leaf_tm w (by unfold I64; omega) (by unfold I64; omega) (by unfold BIG; decide)
section
variable {V w : World} {F : List Nat} {p : Value} {N : Nat} {R : List (Int × Tm)}
theorem wpost_good {w w' : World} {rb : Nat} {x : Tm} {e : Ending} (hT : Tri N R) (hN : N ≤ 65536) (hf : fitsB N x = true) (h : WPost w rb 2000 64 (subT (fullB R) x) e w') :
    ∃ v' b, e = .returned (.tuple #[v', .bool b]) ∧ Touch [rb] w w' ∧ b = goodT (subT (fullB R) x) ∧ (b = true → TmV (hide (under w.heap.size) w') (subT (fullB R) x) v') ∧ (b = false → v' = .agg #[.int .i64 0, .int .i64 0, .string ⟨#[]⟩, .slice none 0 0]) := by
  obtain ⟨v', b, h1, h2, h3, h4, h5⟩ := h
  obtain ⟨f1, f2⟩ := fitsB_true.1 hf
  have hfm := subfull_formed hN hT (good_parts f1).2.2 f2
  refine ⟨v', b, h1, h2, ?_, fun e => (h4 e).1, h5⟩
  cases hg : goodT (subT (fullB R) x)
  · cases b
    · rfl
    · obtain ⟨a1, a2⟩ := h3.1 rfl
      rw [good_of a1 a2 hfm] at hg
      cases hg
  · obtain ⟨a1, a2, _⟩ := good_parts hg
    exact h3.2 ⟨a1, a2⟩
set_option maxHeartbeats 4000000 in
theorem Whole_at (h : IsB V F w p N R) {x : Tm} {v : Value} (hv : TmV V x v) :
    Calls Try.prog 15 #[p, v] w fun e w' => ∃ r, e = .returned (.tuple #[r, .int .i64 (wholeB N R x).2]) ∧ TmV (hide (under w.heap.size) w') (wholeB N R x).1 r ∧ Below w.heap.size w w' := by
  obtain ⟨hT, hN⟩ := h.tri
  have FI := fun w1 (hb : Below w.heap.size w w1) => fits_at' (h.ext hb) (TmV.stay (h.see.1.later hb) _ _ hv)
  have HI := Lib.hid h
  have HV := Lib.hid hv
  obtain ⟨kx, nx, sx, ax, mx, cx, rfl⟩ := hv.full
  obtain ⟨w1, e1, B1, z1, X1⟩ := box_new w #[.int .i64 kx, .int .i64 nx, .string sx, .slice ax mx cx] 31
  obtain ⟨w2, e2, B2, z2, X2⟩ := box_new w1 #[.int .i64 0, .int .i64 0, .string ⟨#[]⟩, .slice none 0 0] 31
  have X1 := X1.ext B2
  have B12 := Ext.trans' B1 B2
  rw [z1] at X2
  have C := FI w2 B12
  have HB := Lib.hid (And.intro B12 (And.intro X1 X2))
  obtain ⟨a0, a1, a2, a3, af⟩ := X1.four
  unfold wholeB
  cases hf : fitsB N x
  · rw [hf] at C
    clear FI h hv B1 B2 z2 X1 X2 B12 hf
    go_enter Try.func15, Try.ntmps15
    go_wp2_with fail
    go_fit (C)
    rintro e w4 ⟨rfl, b4⟩
    have Z2 := HB.out.2.2.ext b4
    obtain ⟨x0, x1, x2, x3, xf⟩ := Z2.four
    have HB4 := Lib.hid (HB.out.1.trans (b4.mono HB.out.1.size))
    clear e1 e2 b4 C Z2
    go_wp2
    refine bodyPost_ret (v := .tuple #[.agg #[.int .i64 0, .int .i64 0, .string ⟨#[]⟩, .slice none 0 0], .int .i64 1]) (by rw [results_cell_tmp rfl]; go_simp) rfl ⟨_, rfl, zero_tm _, ?_⟩
    exact Below.set4 HB4.out (Nat.le_succ _) _ _ _ _
  · rw [hf] at C
    have W := fun w6 (hb : Below w.heap.size w w6) rb (h1 : NumC w6 rb 2000) (h2 : ¬ rb ∈ F) (h3 : Blind V [rb]) => whole_any 64 (Nat.le_refl _) w6 x _ 2000 rb (h.ext hb) hv (fitsB_true.1 hf).1 (fitsB_true.1 hf).2 (by omega) h1 h2 h3
    have HG := Lib.hid (fun (w6 w' : World) (rb : Nat) (e : Ending) (hp : WPost w6 rb 2000 64 (subT (fullB R) x) e w') => wpost_good hT hN hf hp)
    have HL := Lib.hid h.lt
    have HSE := Lib.hid h.see
    rw [if_pos rfl]
    obtain ⟨A, hA⟩ : ∃ A : Tm × Int, (if goodT (subT (fullB R) x) = true then (subT (fullB R) x, (0 : Int)) else (varV 0, 12)) = A := ⟨_, rfl⟩
    rw [hA]
    have HA := Lib.hid hA
    clear hA
    clear FI h hv B1 B2 z2 X1 X2 B12 hf
    go_enter Try.func15, Try.ntmps15
    go_wp2_with fail
    go_fit (C)
    rintro e w4 ⟨rfl, b4⟩
    have Z1 := HB.out.2.1.ext b4
    have Z2 := HB.out.2.2.ext b4
    have HB4 := Lib.hid (HB.out.1.trans (b4.mono HB.out.1.size))
    obtain ⟨w5, e5, B5, z5, X5⟩ := box_new w4 #[.int .i64 2000] 3
    have hs4 : w.heap.size ≤ w4.heap.size := HB4.out.size
    have hlt4 : w.heap.size + 1 < w4.heap.size := Z2.lt
    have hbw5 : Below w.heap.size w w5 := HB4.out.trans (B5.mono hs4)
    have hn5 : NumC w5 w4.heap.size 2000 := ⟨X5.cells 0 _ rfl, X5.fz 0, X5.lt⟩
    have hnf : ¬ w4.heap.size ∈ F := fun hm => by have := HL.out _ hm; omega
    have hbl : Blind V [w4.heap.size] := Blind.new (HSE.out.1.later HB4.out) (fun k hk => by simp at hk; omega)
    have C5 := W w5 hbw5 _ hn5 hnf hbl
    have Z1 := Z1.ext B5
    have Z2 := Z2.ext B5
    obtain ⟨y0, y1, y2, y3, yf⟩ := Z1.four
    have H5 := Lib.hid (And.intro hbw5 (And.intro Z1 Z2))
    have hw45 : w4.heap.size < w5.heap.size := X5.lt
    have HG5 := Lib.hid (fun e w' hp => HG.out w5 w' w4.heap.size e hp)
    clear e1 e2 b4 C W B5 X5 hbw5 hn5 hnf hbl Z1 Z2 HG
    go_wp2_with fail
    go_fit (C5)
    rintro e w6 hp
    obtain ⟨v6, b, rfl, t6, hb, hok, hno⟩ := HG5.out e w6 hp
    clear e5 C5 hp y0 y1 y2 y3 yf
    have Z2 := H5.out.2.2.block (w' := w6) (t6.block _ H5.out.2.2.lt (by simp; omega)) (Nat.lt_of_lt_of_le H5.out.2.2.lt t6.size)
    have hb6 : Below w.heap.size w w6 := ⟨t6.os.trans H5.out.1.os, t6.tape.trans H5.out.1.tape, t6.output.trans H5.out.1.output, Nat.le_trans H5.out.1.size t6.size, fun j hj => (t6.block j (Nat.lt_of_lt_of_le hj H5.out.1.size) (by simp; omega)).trans (H5.out.1.block j hj)⟩
    have s6 : w.heap.size + 1 < w6.heap.size := Z2.lt
    obtain ⟨x0, x1, x2, x3, xf⟩ := Z2.four
    have HB6 := Lib.hid hb6
    have HS5 := Lib.hid (show w.heap.size + 1 < w5.heap.size by omega)
    cases b
    · obtain rfl := hno rfl
      obtain rfl : A = (varV 0, 12) := by rw [← HA.out, ← hb]; rfl
      clear hb hok hno t6 hb6 Z2
      go_wp2
      refine bodyPost_ret (v := .tuple #[.agg #[.int .i64 0, .int .i64 0, .string ⟨#[]⟩, .slice none 0 0], .int .i64 12]) (by rw [results_cell_tmp rfl]; go_simp) rfl ⟨_, rfl, zero_tm _, ?_⟩
      exact (Below.set4 HB6.out (Nat.le_succ _) _ _ _ _).alloc (by simp [World.setCell]; omega) _
    · obtain rfl : A = (subT (fullB R) x, 0) := by rw [← HA.out, ← hb]; rfl
      have hv6 := hok rfl
      obtain ⟨k, n, s, a, m, c, rfl, _, _, _, fv⟩ := four_of hv6
      have HV6 := Lib.hid hv6
      clear hb hok hno t6 hb6 Z2 hv6 fv
      go_wp2
      refine bodyPost_ret (v := .tuple #[.agg #[.int .i64 k, .int .i64 n, .string s, .slice a m c], .int .i64 0]) (by rw [results_cell_tmp rfl]; go_simp) rfl ⟨_, rfl, ?_, ?_⟩
      · refine TmV.stay (Stays.less (D := under w5.heap.size) fun j hj => by have := HS5.out; simp at hj ⊢; omega) _ _ (TmV.stay (Stays.hide (w := w6) ?_ fun j hj hd => ⟨hd, ?_⟩) _ _ HV6.out)
        · exact Nat.le_trans (Nat.le_of_eq (set4_size w6 (w.heap.size + 1) (.int .i64 k) (.int .i64 n) (.string s) (.slice a m c)).symm) (bel1' _ _).size
        · have hj5 : w5.heap.size ≤ j := by simpa using hd
          refine ((bel1' (set4 w6 (w.heap.size + 1) (.int .i64 k) (.int .i64 n) (.string s) (.slice a m c)) _).block j (by rw [set4_size]; exact hj)).trans (set4_other _ _ _ _ _ _ j ?_)
          have := HS5.out
          omega
      · exact (Below.set4 HB6.out (Nat.le_succ _) _ _ _ _).alloc (by simp [World.setCell]; omega) _
end
end Go.Proofs.Ytjhoekhfikcanaa
/- Package bind: New, Fresh. -/
namespace Go.Proofs.Ytjhoekhfikcanaa
open Go.RowKit
set_option linter.unusedVariables false

theorem getB_nil (m : Int) : getB [] m = none := rfl
section
variable {V w : World} {F : List Nat} {p : Value} {N : Nat} {R : List (Int × Tm)}
set_option maxHeartbeats 1000000 in
theorem New_at (hs : Stays V w) : Calls Try.prog 31 #[] w fun e w' => ∃ p F, e = .returned p ∧ IsB V F w' p 0 [] ∧ Below w.heap.size w w' ∧ ∀ k ∈ F, w.heap.size ≤ k := by
  have C := newL 65536 65536 (by omega) w
  have HS := Lib.hid hs
  clear hs
  go_enter Try.func31, Try.ntmps31
  (go_wp2_with fail; go_fit (C); rintro e w1 ⟨q, rfl, G, h1, h2, h3⟩)
  obtain ⟨bs, rfl⟩ : ∃ bs, q = .pointer (some ⟨bs, 0, none⟩) := by obtain ⟨bs, _, rfl, _⟩ := h1; exact ⟨bs, rfl⟩
  have hs1 : ∀ k ∈ G, k < w1.heap.size := h1.lt
  have HF : ∀ o, o = Obj.cells #[.slice none 0 0, .pointer (some ⟨bs, 0, none⟩)] 83 → IsB V (w1.heap.size :: G) (w1.alloc o) (.pointer (some ⟨w1.heap.size, 0, none⟩)) 0 [] ∧ Below w.heap.size w (w1.alloc o) ∧ ∀ k ∈ (w1.heap.size :: G), w.heap.size ≤ k := by
    intro o ho
    subst ho
    have hnew : ∀ k ∈ (w1.heap.size :: G), w.heap.size ≤ k := by
      intro k hk
      rcases List.mem_cons.1 hk with rfl | hk
      · exact h2.size
      · exact h3 k hk
    have hb := h2.trans ((bel1' w1 (Obj.cells #[.slice none 0 0, .pointer (some ⟨bs, 0, none⟩)] 83)).mono h2.size)
    refine ⟨⟨w1.heap.size, .slice none 0 0, _, G, [], rfl, by simp [Value.ownBlock], by simp [Value.ownBlock], fun hm => by have := hs1 _ hm; omega, fun k hk => (by cases hk), heap_alloc_new w1 _, rfl, World.ownsRow_nil _ _ _ _, h1.ext (bel1' w1 _), ⟨fun i hi _ => by simp at hi, fun i t hi => by rw [getB_nil] at hi; cases hi⟩, trivial, by omega, HS.out.later hb, Blind.new HS.out hnew⟩, hb, hnew⟩
  have HH := Lib.hid HF
  clear h1 h2 h3 hs1 HF C
  go_wp2
  go_ret
  obtain ⟨a1, a2, a3⟩ := HH.out _ rfl
  exact ⟨_, _, rfl, a1, a2, a3⟩
theorem IsB.grow (h : IsB V F w p N R) (hN : N < 65536) {bt : Nat} (hp : p = .pointer (some ⟨bt, 0, none⟩)) {a : Option Addr} {c : Nat} (hc : w.cell? ⟨bt, 0, none⟩ = some (.slice a N c)) :
    ∃ xs, w.ownsRow 0 79 5 (.slice a N c) N xs ∧ (∀ k, (Value.slice a N c).ownBlock = some k → k < w.heap.size ∧ k ≠ bt ∧ k ∈ F) ∧
      ∀ (w2 w3 : World) (v' : Value), Below w.heap.size w w2 → w2.grownBy w3 (Value.slice a N c).ownBlock → (v'.ownBlock = (Value.slice a N c).ownBlock ∨ v'.ownBlock = some w2.heap.size) → w3.ownsRow 0 79 5 v' (N + 1) (xs ++ slCells none) →
        w3.cell? ⟨bt, 0, none⟩ = some (.slice a N c) ∧ w3.frozen? ⟨bt, 0, none⟩ = false ∧ ∃ F', IsB V F' (w3.setCell ⟨bt, 0, none⟩ v') p (N + 1) R ∧ Touch F w (w3.setCell ⟨bt, 0, none⟩ v') ∧ ∀ k ∈ F', k ∈ F ∨ w2.heap.size ≤ k := by
  have hF := h.lt
  obtain ⟨bt', v, q, G, sl, rfl, rfl, h1, h2, h3, h4, h5, h6, h7, h8, h9, h10, h11, h12⟩ := h
  cases hp
  have hv : v = .slice a N c := by
    have : w.cell? ⟨bt, 0, none⟩ = some v := by simp [blk_cell h4]
    rw [hc] at this
    exact (Option.some.inj this).symm
  subst hv
  refine ⟨_, h6, fun k hk => ⟨(h6.lt k hk).2, fun e => h1 (by rw [hk, e]), by simp [hk]⟩, fun w2 w3 v' hb hg hat hr => ?_⟩
  have hs := hb.size
  have hbl := hF bt (by simp)
  have b3 : w3.heap[bt]? = some (.cells #[.slice a N c, q] 83 (0, 0)) := (hg.block bt (by omega) (fun e => h1 e.symm)).trans ((hb.block bt hbl).trans h4)
  have hne : v'.ownBlock ≠ some bt := by
    rcases hat with e | e <;> rw [e]
    · exact h1
    · intro e'; simp at e'; omega
  have hin : ∀ k ∈ bt :: (v'.ownBlock.toList ++ G), k ∈ bt :: ((Value.slice a N c).ownBlock.toList ++ G) ∨ w2.heap.size ≤ k := by
    intro k hk
    simp only [List.mem_cons, List.mem_append, Option.mem_toList] at hk ⊢
    rcases hk with rfl | hk | hk
    · exact Or.inl (Or.inl rfl)
    · rcases hat with e | e
      · rw [e] at hk; exact Or.inl (Or.inr (Or.inl hk))
      · rw [e] at hk; simp at hk; exact Or.inr (by omega)
    · exact Or.inl (Or.inr (Or.inr hk))
  have tw : Touch (bt :: ((Value.slice a N c).ownBlock.toList ++ G)) w (w3.setCell ⟨bt, 0, none⟩ v') := by
    refine ⟨hg.os.trans hb.os, hg.tape.trans hb.tape, hg.output.trans hb.output, by have := hg.size; simp [World.setCell]; omega, fun j hj hn => ?_⟩
    simp only [List.mem_cons, List.mem_append, Option.mem_toList, not_or] at hn
    exact (Below.heap_setCell w3 ⟨bt, 0, none⟩ v' j hn.1).trans ((hg.block j (by omega) (fun e => hn.2.1 e.symm)).trans (hb.block j hj))
  have hG : ∀ k ∈ G, (w3.setCell ⟨bt, 0, none⟩ v').heap[k]? = w.heap[k]? := fun k hk =>
    (Below.heap_setCell w3 ⟨bt, 0, none⟩ v' k (fun e => h2 (by have e' : k = bt := e; rw [← e']; exact hk))).trans ((hg.block k (by have := hF k (by simp [hk]); omega) (fun e => h3 k e.symm hk)).trans (hb.block k (hF k (by simp [hk]))))
  refine ⟨by simp [blk_cell b3], blk_froz b3 0, _, ⟨bt, v', q, G, sl ++ [none], rfl, rfl, hne, h2, fun k hk hm => ?_, ?_, by simp [h5], ?_, h7.keep hG, ?_, h9.more, by omega, h11.touch h12 tw, h12.some h11 (fun k hk => (hin k hk).imp id (fun e => by omega))⟩, tw, hin⟩
  · rcases hat with e | e
    · rw [e] at hk; exact h3 k hk hm
    · rw [e] at hk; simp at hk; have := hF k (by simp [hm]); omega
  · have := hb
    simp [World.setCell, Array.getElem?_modify, b3]
  · rw [List.flatMap_append]
    have hr2 : w3.ownsRow 0 79 5 v' (N + 1) (sl.flatMap slCells ++ [none].flatMap slCells) := by simpa using hr
    exact row_at hr2 (fun g hg' => Below.heap_setCell w3 ⟨bt, 0, none⟩ v' g (fun e => hne (by rw [hg']; exact congrArg some e)))
  · refine ⟨fun i hi hget => ?_, fun i t hi => ?_⟩
    · by_cases hlt : i < sl.length
      · rw [List.getElem?_append_left hlt]; exact h8.free i hlt hget
      · have : i = sl.length := by simp at hi; omega
        subst this
        simp
    · obtain ⟨u, e1, e2⟩ := h8.held i t hi
      exact ⟨u, by rw [List.getElem?_append_left (List.getElem?_eq_some_iff.1 e1).1]; exact e1, e2⟩
set_option maxHeartbeats 4000000 in
set_option maxRecDepth 100000 in
theorem Fresh_at (h : IsB V F w p N R) (hN : N < 65536) :
    Calls Try.prog 26 #[p] w fun e w' => ∃ F', e = .returned (.tuple #[.agg #[.int .i64 0, .int .i64 N, .string ⟨#[]⟩, .slice none 0 0], .bool true]) ∧ IsB V F' w' p (N + 1) R ∧ Touch F w w' ∧ ∀ k ∈ F', k ∈ F ∨ w.heap.size ≤ k := by
  have HS := Lib.hid h.see
  have HLT := Lib.hid h.lt
  obtain ⟨bt, a, c, bs, rfl, hlt, c0, c1, h1, h2, _⟩ := h.open
  obtain ⟨xs, hrow, hown, hgrow⟩ := h.grow hN rfl c0
  obtain ⟨i0, hi0, hz0, hs0, hb0⟩ := info_parts infoSlot
  have hne : (N : Int) ≠ 65536 := by omega
  have hne' : ((N : Int) == 65536) = false := by simpa using hne
  have hwr : IntKind.i64.wrap (((N + 1 : Nat) : Int) - 1) = (N : Int) := by rw [IntKind.wrap_i64]; omega
  have HR := Lib.hid hrow
  have HO := Lib.hid hown
  have HG := Lib.hid hgrow
  have HH := Lib.hid h
  unfold maxLen at h2
  obtain ⟨w1, e1, B1, z1, X1⟩ := box_new w #[.int .i64 0, .int .i64 0, .string ⟨#[]⟩, .slice none 0 0] 31
  have d0 := cell_later B1 c0
  have d1 := cell_later B1 c1
  obtain ⟨y0, y1, y2, y3, yf⟩ := X1.four
  have HB1 := Lib.hid (And.intro B1 X1)
  have HR1 := Lib.hid (row_ext hrow B1)
  have hs1 : w.heap.size < w1.heap.size := by omega
  clear h hrow hown hgrow B1 X1 c0 c1 z1
  go_enter Try.func26, Try.ntmps26
  go_wp2_with (at_builtin; refine wpList_append_k rfl _ _ 80 rfl 0 79 i0 (.agg #[.bool false, .int .i64 0, .int .i64 0, .string ⟨#[]⟩, .slice none 0 0]) 5 64 Try.underlying80 hi0 hz0 hs0 (by decide) hb0 rfl (.slice a N c) N xs rfl (HR1.out.alloc _) _ 1 1 (slCells none) rfl rfl (Or.inr ⟨⟨w1.heap.size, 0, none⟩, rfl, fun j u hu => cell_new w1 #[.bool false, .int .i64 0, .int .i64 0, .string ⟨#[]⟩, .slice none 0 0] 79 j u hu⟩) (fun u hu => by simp [slCells] at hu; rcases hu with rfl | rfl | rfl | rfl | rfl <;> rfl) (by unfold maxLen; omega) (by omega) (Nat.zero_le _) (N + 1) (xs ++ slCells none) rfl rfl ?_; intro a4 c4 w3 hown4 hgrow4 hat4; obtain ⟨hc3, hf3, F', hI, hT, hin⟩ := HG.out _ w3 (.slice a4 (N + 1) c4) (Ext.trans' HB1.out.1 (bel1' w1 _)) hgrow4 hat4 hown4; have HFIN := Lib.hid (And.intro hI (And.intro hT hin)); have HGR := Lib.hid hgrow4; clear hI hT hin hown4 hgrow4 hat4)
  obtain ⟨wS, eS⟩ : ∃ wS, w3.setCell ⟨bt, 0, none⟩ (.slice a4 (N + 1) c4) = wS := ⟨_, rfl⟩
  have g0 : wS.cell? ⟨bt, 0, none⟩ = some (.slice a4 (N + 1) c4) := by rw [← eS]; exact css hc3
  have hbox : Box wS w.heap.size [.int .i64 0, .int .i64 0, .string ⟨#[]⟩, .slice none 0 0] := by
    have hb2 : Box (w1.alloc (.cells #[.bool false, .int .i64 0, .int .i64 0, .string ⟨#[]⟩, .slice none 0 0] 79)) w.heap.size _ := HB1.out.2.ext (bel1' w1 _)
    have hne : (Value.slice a N c).ownBlock ≠ some w.heap.size := fun e => by have := (HO.out _ e).1; omega
    have hb3 : Box w3 w.heap.size _ := hb2.block (HGR.out.block _ hb2.lt (fun e => hne e.symm)) (Nat.lt_of_lt_of_le hb2.lt HGR.out.size)
    rw [← eS]
    exact hb3.far (by omega)
  have HBX := Lib.hid hbox
  clear hbox
  (try rw [eS])
  rw [eS] at HFIN
  clear eS hc3 hf3
  go_fit (var_at wS N)
  rintro e w5 ⟨rfl, b5⟩
  obtain ⟨x0, x1, x2, x3, xf⟩ := (HBX.out.ext b5).four
  have hI := (HFIN.out.1.ext b5)
  have hFr : ∀ k ∈ [w.heap.size], ¬ k ∈ F' := fun k hk hm => by
    simp at hk
    subst hk
    rcases HFIN.out.2.2 _ hm with h | h
    · have := HLT.out _ h; omega
    · simp at h; omega
  have hBl : Blind V [w.heap.size] := Blind.new HS.out.1 (fun k hk => by simp at hk; omega)
  have HEND := Lib.hid (show ∀ u0 u1 u2 u3, IsB V F' (set4 w5 w.heap.size u0 u1 u2 u3) (.pointer (some ⟨bt, 0, none⟩)) (N + 1) R ∧ Touch F w (set4 w5 w.heap.size u0 u1 u2 u3) ∧ ∀ k ∈ F', k ∈ F ∨ w.heap.size ≤ k from fun u0 u1 u2 u3 => by
    have ht : Touch [w.heap.size] w5 (set4 w5 w.heap.size u0 u1 u2 u3) := ⟨rfl, rfl, rfl, Nat.le_of_eq (set4_size _ _ _ _ _ _).symm, fun j hj hn => set4_other _ _ _ _ _ _ j (by simpa using hn)⟩
    refine ⟨hI.touch ht hFr hBl, (HFIN.out.2.1.then b5).four (Nat.le_refl _) _ _ _ _, fun k hk => (HFIN.out.2.2 k hk).imp id (fun h => ?_)⟩
    have := (bel1' w1 (.cells #[.bool false, .int .i64 0, .int .i64 0, .string ⟨#[]⟩, .slice none 0 0] 79)).size
    omega)
  clear b5 hI hFr hBl
  go_wp2
  refine bodyPost_ret (v := .tuple #[.agg #[.int .i64 0, .int .i64 N, .string ⟨#[]⟩, .slice none 0 0], .bool true]) (by rw [results_cell_tmp rfl]; go_simp) rfl ?_
  obtain ⟨q1, q2, q3⟩ := HEND.out (.int .i64 0) (.int .i64 N) (.string ⟨#[]⟩) (.slice none 0 0)
  exact ⟨F', rfl, q1, q2, q3⟩
end
end Go.Proofs.Ytjhoekhfikcanaa
/- Package bind: reaches. -/
namespace Go.Proofs.Ytjhoekhfikcanaa
open Go.RowKit Go.Maps
set_option linter.unusedVariables false

theorem lKeyed : Keyed Try.prog 2 := int_keyed Try.underlying2
theorem zeroU (w : World) : (zeroValue 112).run Try.prog w = .ok (.agg #[]) w := by kernel_rfl
theorem wf_i64 {n : Int} (h : I64 n) : (Lit.int .i64 n).wf = true := WalkArith.wf_i64 h
theorem lKey {n : Int} (h : I64 n) : keyOf Try.prog 2 (.int .i64 n) = some (.int .i64 n) := keyOf_int_mk Try.underlying2 (wf_i64 h)
/-- A set of numbers that were seen. -/
def SeenM (w : World) (bm : Nat) (seen : List Int) : Prop := ∃ D : DataW Unit, w.ownsMap Try.prog 2 unitElem bm seen.length D ∧ Tidy D ∧ ∀ v, Maps.has D (.int .i64 v) = true ↔ v ∈ seen
theorem SeenM.nil (w : World) : SeenM (w.alloc (.map #[] 0)) w.heap.size [] := ⟨.map [], World.ownsMap_made w _ _ _, tidy_empty, fun v => by simp [Maps.has]⟩
theorem SeenM.put {w' : World} {bm : Nat} {seen : List Int} {v : Int} {D : DataW Unit} (h1 : Tidy D) (h2 : ∀ v, Maps.has D (.int .i64 v) = true ↔ v ∈ seen) (h : w'.ownsMap Try.prog 2 unitElem bm (seen.length + 1) (D.put (.int .i64 v) (.agg []))) : SeenM w' bm (seen ++ [v]) := by
  refine ⟨_, by rw [List.length_append]; exact h, h1.put (by trivial) _, fun u => ?_⟩
  by_cases e : u = v
  · subst e
    rw [has_put_same h1.isMap (by trivial)]
    simp
  · rw [has_put_other (fun e' => e (by injection e')), h2 u]
    simp [e]
theorem bel_grown {w w' : World} (b : Below w.heap.size w w') : w.grownBy w' none := ⟨b.os, b.tape, b.output, b.size, fun k hk _ => b.block k hk⟩
theorem SeenM.ext {w w' : World} {bm : Nat} {seen : List Int} (h : SeenM w bm seen) (b : Below w.heap.size w w') : SeenM w' bm seen := by
  obtain ⟨D, q1, q2, q3⟩ := h
  exact ⟨D, q1.kept (bel_grown b) (by simp), q2, q3⟩
theorem SeenM.block {w w' : World} {bm : Nat} {seen : List Int} (h : SeenM w bm seen) (e : w'.heap[bm]? = w.heap[bm]?) : SeenM w' bm seen := by
  obtain ⟨D, ⟨es, clock, h1, h2⟩, q2, q3⟩ := h
  exact ⟨D, ⟨es, clock, e.trans h1, h2⟩, q2, q3⟩
theorem SeenM.lt {w : World} {bm : Nat} {seen : List Int} (h : SeenM w bm seen) : bm < w.heap.size := by
  obtain ⟨D, q1, q2, q3⟩ := h
  exact q1.lt
/-- A row and a map lie apart. -/
theorem row_map {w : World} {base g k c bm : Nat} {l : List Int} {seen : List Int} (h : RowN w base (.slice (some ⟨g, 0, none⟩) k c) l) (hs : SeenM w bm seen) : g ≠ bm := by
  intro e
  subst e
  obtain ⟨D, ⟨es, clock, h1, _⟩, _, _⟩ := hs
  rcases h.2 with ⟨e, _⟩ | ⟨g', cap, cur, e, _, hh, _⟩
  · cases e
  · cases e
    rw [h1] at hh
    cases hh
/-- The last one is taken off a row. -/
theorem RowN.cut {w : World} {base : Nat} {a : Option Addr} {m c k : Nat} {l : List Int} {x : Int} (h : RowN w base (.slice a m c) (l ++ [x])) (hk : l.length = k) : m = k + 1 ∧ RowN w base (.slice a k c) l ∧ ∃ g, a = some ⟨g, 0, none⟩ ∧ base ≤ g ∧ w.cell? ⟨g, k, none⟩ = some (.int .i64 x) := by
  unfold RowN at h ⊢
  have hf : ∀ l : List Int, (l.flatMap numCells).length = l.length := fun l => by rw [flat_len (S := 1) (fun _ => rfl)]; omega
  obtain ⟨h0, h1⟩ := h
  rcases h1 with ⟨e, h1⟩ | ⟨g, cap, cur, e, hg, hh, q1, q2, q3, q4⟩
  · simp at h1
  · injection e with e1 e2 e3
    subst e1 e2 e3
    rw [List.length_append, List.length_singleton] at q1 q4 h0
    have hl2 : (l.flatMap numCells).length = l.length := hf l
    have q4' : cur.toList.take (l.length + 1) = l.flatMap numCells ++ [.int .i64 x] := by
      have := q4
      rw [List.flatMap_append, Nat.mul_one] at this
      exact this
    refine ⟨by simp [hk], ⟨by rw [hl2]; simp, Or.inr ⟨g, _, cur, by rw [hk], hg, hh, by omega, q2, q3, ?_⟩⟩, g, rfl, hg, ?_⟩
    · rw [Nat.mul_one]
      have := congrArg (List.take l.length) q4'
      rw [List.take_take, Nat.min_eq_left (by omega), List.take_append_of_le_length (by omega), show List.take l.length (l.flatMap numCells) = l.flatMap numCells from List.take_of_length_le (by omega)] at this
      exact this
    · subst hk
      have : cur.toList[l.length]? = some (.int .i64 x) := by
        have h5 : (cur.toList.take (l.length + 1))[l.length]? = some (.int .i64 x) := by
          rw [q4', List.getElem?_append_right (by omega), hl2]
          simp
        rwa [List.getElem?_take, if_pos (by omega)] at h5
      simp only [World.cell?, hh, Option.isSome_none]
      simpa using this
section
variable {V w : World} {F : List Nat} {p : Value} {N : Nat} {R : List (Int × Tm)}
set_option maxHeartbeats 8000000 in
set_option maxRecDepth 100000 in
theorem reaches_at (h : IsB V F w p N R) {n : Int} {x : Tm} {v : Value} (hv : TmV V x v) (hg : goodT x = true) (ho : ∀ m ∈ occT x, 0 ≤ m ∧ m < N) (hn : getB R n = none) {A : Bool} (hA : A = true ↔ n ∈ occT (subT (fullB R) x)) :
    Calls Try.prog 48 #[p, .int .i64 n, v] w fun e w' => e = .returned (.bool A) ∧ Below w.heap.size w w' := by
  obtain ⟨hT, hN⟩ := h.tri
  obtain ⟨r, hr⟩ := high hN hT
  have hmm := @run_makeMap Try.prog
  have AV := fun (w1 : World) (hb : Below w.heap.size w w1) => badd_at _ x (Nat.le_refl _) w w1 v (.slice none 0 0) [] (TmV.stay h.see.1 _ _ hv) hb (RowN.nil _ _) (by have := (good_parts hg).1; simp; omega)
  obtain ⟨kx, nx, sx, ax, mx, cx, rfl⟩ := hv.full
  obtain ⟨w1, e1, B1, z1, X1⟩ := box_new w #[.int .i64 kx, .int .i64 nx, .string sx, .slice ax mx cx] 31
  obtain ⟨w2, e2⟩ : ∃ w2, w1.alloc (.map #[] 0) = w2 := ⟨_, rfl⟩
  have B2 : Below w1.heap.size w1 w2 := by rw [← e2]; exact bel1' _ _
  have S2 : SeenM w2 w1.heap.size [] := by rw [← e2]; exact SeenM.nil w1
  have X1 := X1.ext B2
  have B12 := Ext.trans' B1 B2
  have C := AV w2 B12
  obtain ⟨a0, a1, a2, a3, af⟩ := X1.four
  have HB := Lib.hid (And.intro B12 (And.intro X1 S2))
  obtain ⟨bt, av, cv, bs, rfl, hblt, hbc0, _, hNc, hcm, hslots⟩ := h.open
  have HSL := Lib.hid (And.intro hbc0 (And.intro hblt hslots))
  have HI := Lib.hid h
  have HV := Lib.hid (And.intro hv (And.intro hg ho))
  have HT := Lib.hid (And.intro hT (And.intro hN hr))
  have HA := Lib.hid hA
  have HN := Lib.hid hn
  unfold maxLen at hcm
  clear h hv hg ho hT hN hr hA hn hslots hbc0 hblt AV B1 B2 S2 X1 B12
  go_enter Try.func48, Try.ntmps48
  go_wp2_with fail
  go_fit (C)
  rintro e w3 ⟨z3, rfl, hr3, b3, m3⟩
  rw [List.nil_append] at hr3
  have HR3 := Lib.hid hr3
  have HB3 := Lib.hid (show Below w.heap.size w w3 ∧ SeenM w3 (w.heap.size + 1) [] from ⟨b3, by
    rw [← z1]
    exact HB.out.2.2.block (m3.1.2 _ HB.out.2.2.lt (by simp [Value.ownBlock]))⟩)
  clear e1 e2 C a0 a1 a2 a3 af b3 z1 hr3 m3
  go_wp2_with fail
  go_loopg [8] ((occT x).length + left [] R) (fun g z wr => ∃ (pl seen : List Int), Hid (RowN wr w.heap.size z pl ∧ SeenM wr (w.heap.size + 1) seen ∧ Below w.heap.size w wr) ∧ Hid (Reach R r n (n ∈ occT (subT (fullB R) x)) pl seen ∧ (∀ u ∈ pl, 0 ≤ u ∧ u < N) ∧ g = pl.length + left seen R ∧ seen.length + g ≤ 140000000))
  case atStart =>
    refine ⟨occT x, [], Lib.hid ⟨HR3.out, HB3.out.2, HB3.out.1⟩, Lib.hid ⟨Reach.start R r n x, HV.out.2.2, rfl, ?_⟩⟩
    have h1 := occ_len x
    have h2 := (good_parts HV.out.2.1).1
    have h3 := left_le (seen := []) HT.out.1
    have h4 := dom_len HT.out.1
    have h5 := HT.out.2.1
    simp only [List.length_nil]
    omega
  case round =>
    obtain ⟨pl, seen, HM, HQ⟩ := hrel
    rcases List.eq_nil_or_concat pl with rfl | ⟨pl', u, rfl⟩
    · obtain ⟨hrow, hseen, hbw⟩ := HM.out
      obtain ⟨az, cz, rfl, _⟩ := row_formk hrow
      have hno : A = false := by
        cases A
        · rfl
        · exact absurd (HA.out.1 rfl) HQ.out.1.done
      subst hno
      clear hrow hseen hbw
      go_wp2
      go_ret
      exact ⟨rfl, HM.out.2.2⟩
    · rw [List.concat_eq_append] at HM HQ
      obtain ⟨hrow, hseen, hbw⟩ := HM.out
      obtain ⟨az, cz, rfl, hcz⟩ := row_formk hrow
      obtain ⟨k, hk⟩ : ∃ k, pl'.length = k := ⟨_, rfl⟩
      obtain ⟨m, hm⟩ : ∃ m, (pl' ++ [u]).length = m := ⟨_, rfl⟩
      rw [hm] at hrow hcz HM ⊢
      obtain ⟨hmk, hcut, g, rfl, hgB, hcell⟩ := RowN.cut hrow hk
      have hm0 : (0 : Int) < m := by omega
      have hm1 : (m : Int) - 1 = k := by omega
      have hkm : k < m := by omega
      have hCUT := Lib.hid hcut
      have hu := HQ.out.2.1 u (by simp)
      obtain ⟨ui, hui⟩ : ∃ ui : Nat, u = (ui : Int) := ⟨u.toNat, by omega⟩
      subst hui
      have huN : ui < N := by omega
      have hmb : m ≤ 140000000 := by have h1 := HQ.out.2.2.1; have h2 := HQ.out.2.2.2; rw [hm] at h1; omega
      clear hrow hcut hmk hm
      by_cases hun : (ui : Int) = n
      · have htrue : A = true := HA.out.2 (HQ.out.1.back ui (by simp) (by rw [hun, full_free (get_none.1 HN.out), occ_varV]; simp))
        subst htrue
        subst hun
        clear hseen hbw
        go_wp2
        go_ret
        exact ⟨rfl, HM.out.2.2⟩
      · have hun' : ((ui : Int) == n) = false := beq_false_of_ne hun
        obtain ⟨D, hown, htidy, hhas⟩ := hseen
        have hkey := lKey (n := (ui : Int)) (by unfold I64; omega)
        by_cases hin : (ui : Int) ∈ seen
        · have hD : Maps.has D (.int .i64 (ui : Int)) = true := (hhas ui).2 hin
          have HOWN := Lib.hid (And.intro hown (And.intro htidy hhas))
          have HIN := Lib.hid hin
          clear hown htidy hhas hin hbw hun
          go_wp2_with (first
            | (at_lookup; refine wpList_lookup_own_unit _ rfl _ _ 111 rfl 2 112 lKeyed Try.underlying111 (zeroU _) (w.heap.size + 1) seen.length _ rfl HOWN.out.1 _ _ rfl hkey ?_)
            | fail)
          go_roundg (pl'.length + left seen R)
          case measure => have := HQ.out.2.2.1; simp at this; omega
          case rel =>
            have b1 := bel1' wr (.cells #[] 112)
            refine ⟨pl', seen, Lib.hid ⟨row_ext hCUT.out b1, HM.out.2.1.ext b1, HM.out.2.2.trans (b1.mono HM.out.2.2.size)⟩, Lib.hid ⟨HQ.out.1.skip (Or.inl HIN.out), fun u hu => HQ.out.2.1 u (by simp [hu]), rfl, ?_⟩⟩
            have h1 := HQ.out.2.2.1
            have h2 := HQ.out.2.2.2
            simp at h1
            omega
        · have hD : Maps.has D (.int .i64 (ui : Int)) = false := by
            cases h : Maps.has D (.int .i64 (ui : Int))
            · rfl
            · exact absurd ((hhas ui).1 h) hin
          have HOWN := Lib.hid (And.intro hown (And.intro htidy hhas))
          have HIN := Lib.hid hin
          have HUN := Lib.hid hun
          obtain ⟨gs, rfl, hsl⟩ := HSL.out.2.2 ui huN
          have hb0 : ∀ o, Below w.heap.size w (wr.alloc o) := fun o => hbw.trans ((bel1' wr o).mono hbw.size)
          have d0 := cell_later (hb0 (.cells #[] 112)) HSL.out.1
          rcases hsl with ⟨hg, s0⟩ | ⟨t, tk, tm, ts, ta, tl, tc, hg, s0, s1, s2, s3, s4, htm⟩
          · have d1 := cell_later (hb0 (.cells #[] 112)) s0
            have HG := Lib.hid hg
            clear hown htidy hhas hin hbw hun hb0 s0 hg
            go_wp2_with (first
              | (at_lookup; refine wpList_lookup_own_unit _ rfl _ _ 111 rfl 2 112 lKeyed Try.underlying111 (zeroU _) (w.heap.size + 1) seen.length _ rfl HOWN.out.1 _ _ rfl hkey ?_)
              | fail)
            go_roundg (pl'.length + left seen R)
            case measure => have := HQ.out.2.2.1; simp at this; omega
            case rel =>
              have b1 := bel1' wr (.cells #[] 112)
              refine ⟨pl', seen, Lib.hid ⟨row_ext hCUT.out b1, HM.out.2.1.ext b1, HM.out.2.2.trans (b1.mono HM.out.2.2.size)⟩, Lib.hid ⟨HQ.out.1.skip (Or.inr ?_), fun u hu => HQ.out.2.1 u (by simp [hu]), rfl, ?_⟩⟩
              · rw [full_free (get_none.1 HG.out), occ_varV]
                intro hm
                simp at hm
                exact HUN.out hm.symm
              · have h1 := HQ.out.2.2.1
                have h2 := HQ.out.2.2.2
                simp at h1
                omega
          · have d1 := cell_later (hb0 (.cells #[] 112)) s0
            have HS14 := Lib.hid (And.intro s1 (And.intro s2 (And.intro s3 (And.intro s4 htm))))
            have HG := Lib.hid hg
            have HBW := Lib.hid hbw
            have HKEEP : ∀ w5 : World, w5.ownsMap Try.prog 2 (unitElem (H := Unit)) (w.heap.size + 1) (seen.length + 1) (D.put (.int .i64 (ui : Int)) (.agg [])) → (wr.alloc (.cells #[] 112)).grownBy w5 (some (w.heap.size + 1)) →
                Below w.heap.size w w5 ∧ RowN w5 w.heap.size (.slice (some ⟨g, 0, none⟩) k cz) pl' ∧ SeenM w5 (w.heap.size + 1) (seen ++ [(ui : Int)]) := by
              intro w5 hown5 hgrow5
              refine ⟨(hbw.trans ((bel1' wr (.cells #[] 112)).mono hbw.size)).grown hgrow5 (by have := hbw.size; simp; omega) (fun q hq => by injection hq with hq; omega), ?_, SeenM.put htidy hhas hown5⟩
              have hne := row_map hCUT.out HM.out.2.1
              exact row_at hCUT.out (fun g' e' => by injection e' with e'; subst e'; exact (hgrow5.block g (Nat.lt_of_lt_of_le (row_in hCUT.out rfl).2 (bel1' wr _).size) (fun e => by injection e with e; exact hne e)).trans ((bel1' wr _).block g (row_in hCUT.out rfl).2))
            have HC5 := fun (w5 : World) (hb5 : Below w.heap.size w w5) (hr5 : RowN w5 w.heap.size (.slice (some ⟨g, 0, none⟩) k cz) pl') => badd_at _ t (Nat.le_refl _) w w5 _ _ pl' (TmV.stay HI.out.see.1 _ _ htm) hb5 hr5 (by have h1 := (good_parts (HT.out.1.mem (get_mem hg)).2.2.1).1; have h1 : sizeN t ≤ 2000 := h1; omega)
            have HKK := Lib.hid HKEEP
            have HCC := Lib.hid HC5
            clear HKEEP HC5
            have hseenlt : seen.length < maxLen := by have := HQ.out.2.2.2; unfold maxLen; omega
            clear hown htidy hhas hin hbw hun hb0 s0 s1 s2 s3 s4 htm hg
            go_wp2_with (first
              | (at_lookup; refine wpList_lookup_own_unit _ rfl _ _ 111 rfl 2 112 lKeyed Try.underlying111 (zeroU _) (w.heap.size + 1) seen.length _ rfl HOWN.out.1 _ _ rfl hkey ?_)
              | (at_mapUpdate; refine wpList_mapUpdate_own _ rfl _ _ _ 111 rfl 2 112 lKeyed Try.underlying111 (unitElem (H := Unit)) (w.heap.size + 1) seen.length _ rfl (HOWN.out.1.alloc _) hseenlt _ _ _ rfl rfl hkey _ [] unitElem_mk ?_; intro w5 hown5 hgrow5; obtain ⟨hb5, hr5, hs5⟩ := HKK.out w5 hown5 hgrow5; have e0 := cell_later hb5 HSL.out.1; have e1 := cell_later hb5 HS14.out.1; have e2 := cell_later hb5 HS14.out.2.1; have e3 := cell_later hb5 HS14.out.2.2.1; have e4 := cell_later hb5 HS14.out.2.2.2.1; have HP5 := Lib.hid (And.intro hb5 (And.intro hr5 hs5)); clear hown5 hgrow5 hb5 hr5 hs5)
              | fail)
            go_fit (HCC.out _ HP5.out.1 HP5.out.2.1)
            rintro e w6 ⟨z6, rfl, hr6, b6, m6⟩
            have HP6 := Lib.hid (And.intro hr6 (And.intro b6 m6))
            clear hr6 b6 m6 e0 e1 e2 e3 e4
            go_wp2_with fail
            have hm := get_mem HG.out
            have hleft := left_less HIN.out HT.out.1 hm
            go_roundg ((pl' ++ occT t).length + left (seen ++ [(ui : Int)]) R)
            case measure =>
              have h1 := HQ.out.2.2.1
              simp at h1 ⊢
              omega
            case rel =>
              have hbm : w.heap.size + 1 < w5.heap.size := HP5.out.2.2.lt
              refine ⟨pl' ++ occT t, seen ++ [(ui : Int)], Lib.hid ⟨HP6.out.1, HP5.out.2.2.block (HP6.out.2.2.1.2 _ hbm (fun e => ?_)), HP6.out.2.1⟩, Lib.hid ⟨HQ.out.1.into HT.out.2.1 HT.out.1 HT.out.2.2 hm, fun u hu => ?_, rfl, ?_⟩⟩
              · have e' : g = w.heap.size + 1 := by injection e
                exact row_map HP5.out.2.1 HP5.out.2.2 e'
              · rcases List.mem_append.1 hu with hu | hu
                · exact HQ.out.2.1 u (by simp [hu])
                · exact (HT.out.1.mem hm).2.2.2 u hu
              · have h1 := HQ.out.2.2.1
                have h2 := HQ.out.2.2.2
                simp at h1 ⊢
                omega
end
end Go.Proofs.Ytjhoekhfikcanaa
/- Stacks of int64: Pop, Push, from, All, Undo. -/
namespace Go.Proofs.Ytjhoekhfikcanaa
open Go.RowKit

section
variable {F : List Nat} {w : World} {p : Value} {R : Nat} {xs : List Value}
/-- What the append that a push makes leaves of the stack. -/
theorem push_grownL {w w2 w3 : World} {bt : Nat} {x v v' : Value} (hB : Below w.heap.size w w2) (hbt : bt < w.heap.size) (h1 : v.ownBlock ≠ some bt) (hb : w.heap[bt]? = some (.cells #[x, v] 115 (0, 0)))
    (hg : w2.grownBy w3 v.ownBlock) (hat : v'.ownBlock = v.ownBlock ∨ v'.ownBlock = some w2.heap.size) :
    w3.heap[bt]? = some (.cells #[x, v] 115 (0, 0)) ∧ v'.ownBlock ≠ some bt ∧ Touch (bt :: v.ownBlock.toList) w w3 ∧ ∀ k ∈ (bt :: v'.ownBlock.toList), k ∈ (bt :: v.ownBlock.toList) ∨ w.heap.size ≤ k := by
  have hs := hB.size
  refine ⟨(hg.block bt (by omega) (fun h => h1 h.symm)).trans ((hB.block bt hbt).trans hb), ?_, ⟨hg.os.trans hB.os, hg.tape.trans hB.tape, hg.output.trans hB.output, by have := hg.size; omega, fun j hj hn => ?_⟩, fun k hk => ?_⟩
  · rcases hat with e | e <;> rw [e]
    · exact h1
    · intro e'; simp at e'; omega
  · simp only [List.mem_cons, Option.mem_toList, not_or] at hn
    exact (hg.block j (by omega) (fun e => hn.2 e.symm)).trans (hB.block j hj)
  · simp only [List.mem_cons, Option.mem_toList] at hk ⊢
    rcases hk with rfl | hk
    · exact Or.inl (Or.inl rfl)
    · rcases hat with e | e
      · exact Or.inl (Or.inr (e ▸ hk))
      · rw [e] at hk; right; simp at hk; omega

set_option maxHeartbeats 400000 in
theorem push_yesL (h : StkL F w p R xs) (ao : Option Addr) (m c : Nat) (news : List Value) (hl : news.length = m) (hsrc : m = 0 ∨ ∃ ad, ao = some ad ∧ ∀ j u, news[j]? = some u → w.cell? (ad.add j) = some u) (h1c : ∀ u ∈ news, u.oneCell' = true) (hfit : xs.length + m ≤ R) :
    Calls Try.prog 49 #[p, .slice ao m c] w fun e w' => e = .returned (.bool true) ∧ ∃ F', StkL F' w' p R (xs ++ news) ∧ Touch F w w' ∧ ∀ k ∈ F', k ∈ F ∨ w.heap.size ≤ k := by
  have hroom := h.room
  obtain ⟨bt, v, rfl, h1, rfl, hbt, hr, hN, hR⟩ := h
  have c0 : w.cell? ⟨bt, 0, none⟩ = some (.int .i64 (R : Int)) := by simp [blk_cell hbt]
  have c1 : w.cell? ⟨bt, 1, none⟩ = some v := by simp [blk_cell hbt]
  obtain ⟨i0, hi, hz0, hz1, hz2⟩ := info_parts infoL
  obtain ⟨a, c', rfl, _⟩ := row_form hr
  have hge : decide ((R : Int) - (xs.length : Int) < (m : Int)) = false := by simp; omega
  have hge' : ¬ ((R : Int) - (xs.length : Int) < (m : Int)) := by omega
  have hbl := (Array.getElem?_eq_some_iff.1 hbt).1
  have HB := Lib.hid hbt
  have HR := Lib.hid hr
  have HN := Lib.hid hN
  have HX := Lib.hid h1
  have HS := Lib.hid hsrc
  clear hbt hN hr h1 hsrc
  go_enter Try.func49, Try.ntmps49
  go_wp2_with fail
  go_quiet (fail)
  have c1 : (w.drewN nq).cell? ⟨bt, 1, none⟩ = some (.slice a xs.length c') := by simp [blk_cell (show (w.drewN nq).heap[bt]? = _ from HB.out)]
  go_wp2_with (first
    | (at_builtin
       go_loud (refine wpList_append_any rfl _ _ 51 rfl 0 2 i0 (.int .i64 0) 8 Try.underlying51 hi hz0 hz1 hz2 rfl _ xs.length xs rfl (show (w.drewN nq).ownsRow _ _ _ _ _ _ from HR.out) ao m c news rfl hl HS.out h1c (by unfold maxLen; omega) (by omega) (Nat.zero_le _) (xs.length + m) (xs ++ news) rfl rfl ?_)
       intro a3 c3 w3 hown hgrow hat
       obtain ⟨hb3, hx3, hT3, hF3⟩ := push_grownL (w := w) (belN (Below.refl _ _) nq) hbl HX.out HB.out hgrow hat
       have d1 : w3.cell? ⟨bt, 1, none⟩ = some (.slice a xs.length c') := by simp [blk_cell hb3]
       have d3 : w3.frozen? ⟨bt, 1, none⟩ = false := blk_froz hb3 1
       have HD := Lib.hid (show StkL _ (w3.setCell ⟨bt, 1, none⟩ (.slice a3 (xs.length + m) c3)) (.pointer (some ⟨bt, 0, none⟩)) R (xs ++ news) from
         ⟨bt, _, rfl, hx3, rfl, blk_set hb3 _, owns_row_block (by simpa [hl] using hown) (fun k hk => heap_set_other _ _ _ _ (fun e => hx3 (by rw [hk, e]))), (fun x hx => by rcases List.mem_append.1 hx with h | h; exact HN.out x h; exact h1c x h), hR.1, hR.2.1, by simp; omega⟩)
       have HT := Lib.hid (And.intro hT3 hF3)
       clear hown hgrow hat hb3 hx3 hT3 hF3)
    | go_in)
  go_ret
  exact ⟨rfl, _, HD.out, HT.out.1.trans (F' := [bt]) touch_set (fun k hk => Or.inl (by simp at hk; simp [hk])), HT.out.2⟩
end
end Go.Proofs.Ytjhoekhfikcanaa
