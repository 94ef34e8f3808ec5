import Derived.Test.YtchbbaehdcmcfaaHsoam
import Derived.Test.YtchbbaehdcmcfaaHsoag
import Derived.Test.YtchbbaehdcmcfaaHsoaj
set_option linter.unusedVariables false
set_option linter.unusedSimpArgs false
/- Drawn together by pull.py from XPrN XRen XRenA XRenB. -/
namespace Go.Proofs.Ytchbbaehdcmcfaa
open Go.RowKit
set_option linter.unusedVariables false
theorem near_cell {w : World} {rb j k : Nat} {u : Value} (hk : j ≠ k) : (w.setCell ⟨rb, k, none⟩ u).cell? ⟨rb, j, none⟩ = w.cell? ⟨rb, j, none⟩ := by
 rw [World.cell?_setCell_other]
 intro e; injection e with _ e _; exact hk e.symm
theorem rcomp_at (w : World) (s : ByteArray) (a : Option Addr) (m c : Nat) : Calls Try.prog 75 #[.string s, .slice a m c] w fun e w' => e = .returned (.agg #[.int .i64 2, .int .i64 0, .string s, .slice a m c]) ∧ Below w.heap.size w w' := by
 go_enter Try.func75, Try.ntmps75
 go_wp2
 refine bodyPost_ret (v := .agg #[.int .i64 2, .int .i64 0, .string s, .slice a m c]) (by rw [results_cell1 rfl]; go_simp) rfl ⟨rfl, ?_⟩
 exact bel1' _ _
structure Lay (w : World) (lb m : Nat) (ps : List TmP) : Prop where
 done : ∀ i p, ps[i]? = some p → ∀ j u, (pCells p)[j]? = some u → w.cell? ⟨lb, i * 4 + j, none⟩ = some u
 rest : ∀ i, ps.length ≤ i → i < m → w.cell? ⟨lb, i * 4, none⟩ = some (.int .i64 0) ∧ w.cell? ⟨lb, i * 4 + 1, none⟩ = some (.int .i64 0) ∧ w.cell? ⟨lb, i * 4 + 2, none⟩ = some (.string ⟨#[]⟩) ∧ w.cell? ⟨lb, i * 4 + 3, none⟩ = some (.slice none 0 0)
 fz : ∀ j, w.frozen? ⟨lb, j, none⟩ = false
 lt : lb < w.heap.size
theorem Lay.later {w w' : World} {lb m : Nat} {ps : List TmP} (h : Lay w lb m ps) (hb : Below w.heap.size w w') : Lay w' lb m ps where
 done := fun i p hp j u hu => cell_later hb (h.done i p hp j u hu)
 rest := fun i h1 h2 => by obtain ⟨a, b, c, d⟩ := h.rest i h1 h2; exact ⟨cell_later hb a, cell_later hb b, cell_later hb c, cell_later hb d⟩
 fz := fun j => (hb.frozen (p := ⟨lb, j, none⟩) h.lt).trans (h.fz j)
 lt := Nat.lt_of_lt_of_le h.lt hb.size
abbrev setAt (w : World) (lb o : Nat) (u0 u1 u2 u3 : Value) : World := (((w.setCell ⟨lb, o, none⟩ u0).setCell ⟨lb, o + 1, none⟩ u1).setCell ⟨lb, o + 2, none⟩ u2).setCell ⟨lb, o + 3, none⟩ u3
theorem setAt_off {w : World} {lb o j : Nat} {u0 u1 u2 u3 : Value} (h : j < o ∨ o + 4 ≤ j) : (setAt w lb o u0 u1 u2 u3).cell? ⟨lb, j, none⟩ = w.cell? ⟨lb, j, none⟩ := by
 rw [near_cell (by omega), near_cell (by omega), near_cell (by omega), near_cell (by omega)]
theorem setAt_far {w : World} {lb o b j : Nat} {u0 u1 u2 u3 : Value} (h : b ≠ lb) : (setAt w lb o u0 u1 u2 u3).cell? ⟨b, j, none⟩ = w.cell? ⟨b, j, none⟩ := by
 rw [far_cell h, far_cell h, far_cell h, far_cell h]
theorem Lay.put {w : World} {lb m : Nat} {ps : List TmP} (h : Lay w lb m ps) (hm : ps.length < m) {p : TmP} {u0 u1 u2 u3 : Value} (hp : pCells p = [u0, u1, u2, u3]) : Lay (setAt w lb (ps.length * 4) u0 u1 u2 u3) lb m (ps ++ [p]) where
 done := fun i q hq j u hu => by
  have hj : j < 4 := by
   have := (List.getElem?_eq_some_iff.1 hu).1
   rw [pCells_len] at this
   exact this
  by_cases hi : i < ps.length
  ·rw [setAt_off (by omega)]
   exact h.done i q (by rw [List.getElem?_append_left hi] at hq; exact hq) j u hu
  ·have hi2 : i = ps.length := by
    have := (List.getElem?_eq_some_iff.1 hq).1
    rw [List.length_append, List.length_singleton] at this
    omega
   subst hi2
   have hqp : q = p := by
    rw [List.getElem?_append_right (Nat.le_refl _), Nat.sub_self] at hq
    simpa using hq.symm
   subst hqp
   obtain ⟨r0, r1, r2, r3⟩ := h.rest ps.length (Nat.le_refl _) hm
   rw [hp] at hu
   match j, hj, hu with
   | 0, _, hu =>
    cases hu
    rw [near_cell (by omega), near_cell (by omega), near_cell (by omega)]
    exact css r0
   | 1, _, hu =>
    cases hu
    rw [near_cell (by omega), near_cell (by omega)]
    exact css (u := .int .i64 0) (by rw [near_cell (by omega)]; exact r1)
   | 2, _, hu =>
    cases hu
    rw [near_cell (by omega)]
    exact css (u := .string ⟨#[]⟩) (by rw [near_cell (by omega), near_cell (by omega)]; exact r2)
   | 3, _, hu =>
    cases hu
    exact css (u := .slice none 0 0) (by rw [near_cell (by omega), near_cell (by omega), near_cell (by omega)]; exact r3)
 rest := fun i h1 h2 => by
  rw [List.length_append, List.length_singleton] at h1
  obtain ⟨a, b, c, d⟩ := h.rest i (by omega) h2
  exact ⟨by rw [setAt_off (by omega)]; exact a, by rw [setAt_off (by omega)]; exact b, by rw [setAt_off (by omega)]; exact c, by rw [setAt_off (by omega)]; exact d⟩
 fz := fun j => by rw [World.frozen?_setCell, World.frozen?_setCell, World.frozen?_setCell, World.frozen?_setCell]; exact h.fz j
 lt := by have := h.lt; simpa [World.setCell] using this
theorem made_get (m i j : Nat) (hi : i < m) (hj : j < 4) (z : Array Value) (hz : z.size = 4) : (madeCells z (m * 4))[i * 4 + j]? = some z[j]! := by
 unfold madeCells
 rw [Array.getElem?_map, Array.getElem?_range, if_pos (by omega)]
 simp only [Option.map_some, hz]
 rw [show (i * 4 + j) % 4 = j by omega]
theorem lay_new (w : World) (m : Nat) (ty : TypeId) : Lay (w.alloc (.cells (madeCells #[.int .i64 0, .int .i64 0, .string ⟨#[]⟩, .slice none 0 0] (m * 4)) ty)) w.heap.size m [] where
 done := fun i p hp => by simp at hp
 rest := fun i _ h => by
  have k : ∀ j, j < 4 → (w.alloc (.cells (madeCells #[.int .i64 0, .int .i64 0, .string ⟨#[]⟩, .slice none 0 0] (m * 4)) ty)).cell? ⟨w.heap.size, i * 4 + j, none⟩ = some (#[Value.int .i64 0, .int .i64 0, .string ⟨#[]⟩, .slice none 0 0])[j]! := fun j hj => by
   rw [World.cell?_alloc_at _ _ _ _ rfl]
   exact made_get m i j h hj _ rfl
  exact ⟨k 0 (by omega), k 1 (by omega), k 2 (by omega), k 3 (by omega)⟩
 fz := fun j => by simp
 lt := by simp
theorem formed_args {k n : Int} {s : ByteArray} {ts : List Tm} (h : formedT (.mk k n s ts) = true) (hne : ts ≠ []) : k = 2 ∧ n = 0 ∧ ts.length ≤ 8 := by
 rw [formedT, Bool.and_eq_true] at h
 have h1 := h.1
 have hl : ¬ ts.length = 0 := fun e => hne (List.eq_nil_of_length_eq_zero e)
 unfold plainT at h1
 split at h1
 ·simp [hl] at h1
 split at h1
 ·simp [hl] at h1
 split at h1
 ·rename_i h2
  simp only [Bool.and_eq_true, decide_eq_true_eq] at h1
  exact ⟨h2, h1.1.1.1, h1.1.2⟩
 ·cases h1
theorem Lay.out {w : World} {lb m : Nat} {ps : List TmP} {D : Nat → Bool} (h : Lay w lb m ps) (hm : ps.length = m) (hD : D lb = false) (hp : ∀ p ∈ ps, TmV (hide D w) p.1 (pVal p)) (hl : m * 56 ≤ BIG) : Tms (hide D w) (.slice (some ⟨lb, 0, none⟩) m m) (ps.map (·.1)) := by
 subst hm
 refine ⟨some ⟨lb, 0, none⟩, ps.length, by rw [List.length_map], by rw [List.length_map]; exact Nat.le_refl _, by unfold BIG at hl; unfold maxLen; omega, by rw [List.length_map]; exact hl, Or.inr ⟨_, _, rfl, by rw [hide_size]; exact h.lt, TmRow.mk fun i x hx => ?_⟩⟩
 rw [List.getElem?_map] at hx
 obtain ⟨p, hpi, rfl⟩ := Option.map_eq_some_iff.1 hx
 have hv := hp p (List.mem_of_getElem? hpi)
 have key : ∀ j u, (pCells p)[j]? = some u → (hide D w).cell? ⟨lb, 0 + i * 4 + j, none⟩ = some u := fun j u hu => by
  rw [hide_cell D w _ hD, Nat.zero_add]; exact h.done i p hpi j u hu
 exact ⟨_, _, _, _, key 0 _ rfl, key 1 _ rfl, key 2 _ rfl, key 3 _ rfl, hv⟩
theorem make_terms (m : Nat) (hm : m ≤ 8) (w : World) : (Instr.makeSlice 52 (.int .i64 m) (.int .i64 m)).run Try.prog w = .ok (.slice (some ⟨w.heap.size, 0, none⟩) m m) (w.alloc (.cells (madeCells #[.int .i64 0, .int .i64 0, .string ⟨#[]⟩, .slice none 0 0] (m * 4)) 54)) := by
 obtain ⟨i0, hi0, hz0, hs0, hb0⟩ := info_parts infoTermR
 have h := run_makeSlice (P := Try.prog) w 52 54 i0 _ Try.underlying52 hi0 hz0 .i64 .i64 m m (by omega) (by omega) (by rw [hs0]; omega) (by rw [hb0]; omega) (by omega)
 rw [hs0] at h
 simp only [Int.toNat_natCast] at h
 exact h
end Go.Proofs.Ytchbbaehdcmcfaa
/- The document's side of chapter 11: whole. -/
namespace Go.Proofs.Ytchbbaehdcmcfaa
open Go.RowKit
set_option linter.unusedVariables false
def RWPost (w : World) (cb room q : Nat) (T : Tm) (e : Ending) (w' : World) : Prop :=
 ∃ (k n : Int) (s : ByteArray) (ua : Option Addr) (ul uc : Nat) (b : Bool), e = .returned (.tuple #[.agg #[.int .i64 k, .int .i64 n, .string s, .slice ua ul uc], .bool b]) ∧ Touch [cb] w w' ∧ (b = true ↔ sizeN T ≤ room ∧ depthN T ≤ q) ∧ (b = true → TmV (hide (under w.heap.size) w') T (.agg #[.int .i64 k, .int .i64 n, .string s, .slice ua ul uc]) ∧ NumC w' cb ((room : Int) - sizeN T))
def RWH (V : World) (F : List Nat) (p : Value) (N : Nat) (R : List (Int × Tm)) (cb q : Nat) : Prop :=
 ∀ (w : World) (x : Tm) (v : Value) (room : Nat), IsR V F w p N R → TmV V x v → goodT x = true → (∀ m ∈ occT x, 0 ≤ m ∧ m < (N : Int)) → room ≤ 2000 → NumC w cb room →
  Calls Try.prog 74 #[p, v, .pointer (some ⟨cb, 0, none⟩), .int .i64 (q : Nat)] w (RWPost w cb room q (subT (fullB R) x))
def RWI (Ts : List Tm) (w : World) (cb lb rm m q : Nat) (vs : List Value) (j : Nat) (wr : World) : Prop :=
 ∃ ps : List TmP, ps.length = j ∧ ps.map (·.1) = Ts.take j ∧ Lay wr lb m ps ∧ (∀ p ∈ ps, TmV (hide (under (lb + 1)) wr) p.1 (pVal p)) ∧ Touch [cb] w wr ∧ NumC wr cb ((rm : Int) - sizesN (Ts.take j)) ∧ sizesN (Ts.take j) ≤ rm ∧ depthsN (Ts.take j) ≤ q ∧
  Box wr w.heap.size vs ∧ Box wr (w.heap.size + 1) [.int .i64 0, .int .i64 0, .string ⟨#[]⟩, .slice none 0 0]
section
variable {V : World} {F : List Nat} {p : Value} {N : Nat} {R : List (Int × Tm)} {cb : Nat}
set_option maxHeartbeats 16000000 in
set_option maxRecDepth 100000 in
theorem rwhole_step (q : Nat) (hq : q ≤ 64) (hcF : ¬ cb ∈ F) (hcV : Blind V [cb]) (ih : ∀ q', q = q' + 1 → RWH V F p N R cb q') : RWH V F p N R cb q := by
 intro w x v room h hv hg ho hroom hc
 obtain ⟨hT, hN⟩ := h.tri
 obtain ⟨T, hTx⟩ : ∃ T, subT (fullB R) x = T := ⟨_, rfl⟩
 rw [hTx]
 obtain ⟨kx, nx, sx, ax, mx, cx, rfl, fk, fn, fs, fv⟩ := four_of hv
 clear fk fn fs fv
 obtain ⟨w1, e1, B1, z1, X1⟩ := box_new w #[.int .i64 kx, .int .i64 nx, .string sx, .slice ax mx cx] 54
 obtain ⟨w2, e2, B2, z2, X2⟩ := box_new w1 #[.int .i64 0, .int .i64 0, .string ⟨#[]⟩, .slice none 0 0] 54
 have X1 := X1.ext B2
 have B12 := Ext.trans' B1 B2
 rw [z1] at X2 z2
 have C := RWalk_at (h.ext B12) hv hg ho
 obtain ⟨a0, a1, a2, a3, af⟩ := X1.four
 have HB2 := Lib.hid (And.intro B12 (And.intro X1 (And.intro X2 z2)))
 have HIS := Lib.hid h
 have HTX := Lib.hid hTx
 have HTN := Lib.hid (And.intro hT hN)
 have HC := Lib.hid hc
 have IH := Lib.hid ih
 obtain ⟨Q, hQ⟩ : ∃ Q : Int, Q = (q : Int) := ⟨_, rfl⟩
 have HQ := Lib.hid hQ
 rw [← hQ]
 have hlt := hc.2.2
 clear h hv hg ho hT hN hTx B1 B2 X1 X2 B12 z2 hc ih hQ
 go_enter Try.func74, Try.ntmps74
 (go_wp2_with fail; go_fit (C); rintro e w4 ⟨y, v4, rfl, hy, hwk, htop, b4⟩)
 obtain ⟨k, n, s, a, m, c, rfl, f1, f2, f3, fv⟩ := four_of hy
 clear fv
 have hY1 := HB2.out.2.1.ext b4
 have hY2 := HB2.out.2.2.1.ext b4
 have hB4 := Ext.trans' HB2.out.1 b4
 have hs4 : w.heap.size + 1 + 1 ≤ w4.heap.size := by have := b4.size; have := HB2.out.2.2.2; omega
 obtain ⟨y0, y1, y2, y3, yf⟩ := hY1.four
 obtain ⟨Ts, hTs⟩ : ∃ Ts, subL (fullB R) y.args = Ts := ⟨_, rfl⟩
 have hTeq : T = .mk k n s Ts := by rw [← HTX.out, ← hwk.same, topped hwk.good htop, f1, f2, f3, hTs]
 have hU : Tms V (.slice a m c) y.args ∧ y.args.length = m := by
  obtain ⟨yk, yn, ys, yt⟩ := y
  obtain ⟨u, hu, _, _, _, hU⟩ := tmV_iff.1 hy
  simp only [Value.agg.injEq] at hu
  have hu' := congrArg Array.toList hu
  simp only [List.cons.injEq, and_true] at hu'
  obtain ⟨_, _, _, rfl⟩ := hu'
  obtain ⟨a', c', e, _⟩ := hU.len
  injection e with _ e2 _
  exact ⟨hU, e2.symm⟩
 have HYB := Lib.hid (show s.size ≤ BIG ∧ I64 k ∧ I64 n by
  obtain ⟨yk, yn, ys, yt⟩ := y
  obtain ⟨u, hu, q1, q2, q3, _⟩ := tmV_iff.1 hy
  simp only [Value.agg.injEq] at hu
  have hu' := congrArg Array.toList hu
  simp only [List.cons.injEq, and_true, Value.int.injEq, true_and, Value.string.injEq] at hu'
  rw [hu'.1, hu'.2.1, hu'.2.2.1]
  exact ⟨q1, q2, q3⟩)
 have hlen : Ts.length = m := by rw [← hTs, subL_len]; exact hU.2
 have hm8 : m ≤ 8 := by rw [← hU.2]; exact good_len hwk.good
 obtain ⟨hb2, hb3⟩ : m ≤ c ∧ c ≤ maxLen := by obtain ⟨a', c', e', q1, q2, q3⟩ := hU.1.len; cases e'; exact ⟨by omega, q2⟩
 unfold maxLen at hb3
 have HU := Lib.hid hU
 have HWK := Lib.hid (And.intro hwk htop)
 have HTS := Lib.hid (And.intro hTs (And.intro hTeq (And.intro hlen (And.intro f1 f2))))
 clear hy hwk htop b4 C a0 a1 a2 a3 af e1 e2 z1 hTs hTeq hU hlen f1 f2 f3
 go_upto_region 2 with fail
 obtain ⟨w5, e5⟩ : ∃ w5, (((w4.setCell ⟨w.heap.size, 0, none⟩ (.int .i64 k)).setCell ⟨w.heap.size, 1, none⟩ (.int .i64 n)).setCell ⟨w.heap.size, 2, none⟩ (.string s)).setCell ⟨w.heap.size, 3, none⟩ (.slice a m c) = w5 := ⟨_, rfl⟩
 have hne : cb ≠ w.heap.size := by omega
 have hne1 : cb ≠ w.heap.size + 1 := by omega
 have HB5 := Lib.hid (show Below w.heap.size w w5 ∧ Box w5 w.heap.size [.int .i64 k, .int .i64 n, .string s, .slice a m c] ∧ Box w5 (w.heap.size + 1) [.int .i64 0, .int .i64 0, .string ⟨#[]⟩, .slice none 0 0] ∧ NumC w5 cb room ∧ w.heap.size + 1 + 1 ≤ w5.heap.size from by
  have b5 : Below w.heap.size w w5 := by rw [← e5]; exact Below.set4 hB4 (Nat.le_refl _) _ _ _ _
  refine ⟨b5, ?_, ?_, HC.out.ext b5, ?_⟩
  ·rw [← e5]; exact (((hY1.set (k := 0) (by simp)).set (k := 1) (by simp)).set (k := 2) (by simp)).set (k := 3) (by simp)
  ·rw [← e5]; exact (((hY2.far (c := w.heap.size) (by omega)).far (by omega)).far (by omega)).far (by omega)
  ·rw [← e5]; simpa [World.setCell] using hs4)
 rw [e5]
 clear e5 y0 y1 y2 y3 yf hY1 hY2 hB4 hs4
 have q0 := HB5.out.2.2.2.1.1
 have qf := HB5.out.2.2.2.1.2.1
 obtain ⟨z, hz⟩ : ∃ z : Int, z = (room : Int) - 1 := ⟨_, rfl⟩
 have hwr : IntKind.i64.wrap ((room : Int) - 1) = z := by rw [IntKind.wrap_i64]; omega
 have HZ := Lib.hid hz
 clear hz
 go_upto_region 3 with fail
 obtain ⟨w6, e6⟩ : ∃ w6, w5.setCell ⟨cb, 0, none⟩ (.int .i64 z) = w6 := ⟨_, rfl⟩
 have HB6 := Lib.hid (show Touch [cb] w w6 ∧ Box w6 w.heap.size [.int .i64 k, .int .i64 n, .string s, .slice a m c] ∧ Box w6 (w.heap.size + 1) [.int .i64 0, .int .i64 0, .string ⟨#[]⟩, .slice none 0 0] ∧ NumC w6 cb z ∧ w.heap.size + 1 + 1 ≤ w6.heap.size from by
  rw [← e6]
  exact ⟨(Touch.of_below HB5.out.1 _).trans (touch_one _ cb 0 _) (fun k hk => Or.inl hk), HB5.out.2.1.far (Ne.symm hne), HB5.out.2.2.1.far (Ne.symm hne1), HB5.out.2.2.2.1.put z, by have := HB5.out.2.2.2.2; simpa [World.setCell] using this⟩)
 rw [e6]
 clear e6 q0 qf hwr
 obtain ⟨y0, y1, y2, y3, yf⟩ := HB6.out.2.1.four
 obtain ⟨r0, r1, r2, r3, rf⟩ := HB6.out.2.2.1.four
 have q0 := HB6.out.2.2.2.1.1
 have hbn : w.heap.size + 1 ≠ w.heap.size := by omega
 by_cases hfail : z < 0 ∨ Q < 1
 ·have HFA := Lib.hid (show ∀ w', Touch [cb] w w' → RWPost w cb room q T (.returned (.tuple #[.agg #[.int .i64 k, .int .i64 n, .string s, .slice a m c], .bool false])) w' from fun w' ht => by
   refine ⟨_, _, _, _, _, _, _, rfl, ht, ⟨fun h => (by cases h), fun h => ?_⟩, fun h => (by cases h)⟩
   have h1 := size_pos T
   have h2 := depth_pos T
   have h3 := HZ.out
   have h4 := HQ.out
   omega)
  have HT6 := Lib.hid (show Touch [cb] w (set4 w6 (w.heap.size + 1) (.int .i64 k) (.int .i64 n) (.string s) (.slice a m c)) from HB6.out.1.four (by omega) _ _ _ _)
  by_cases hz0 : z < 0
  ·clear hfail
   go_wp2
   refine bodyPost_ret (v := .tuple #[.agg #[.int .i64 k, .int .i64 n, .string s, .slice a m c], .bool false]) (by rw [results_cell_tmp rfl]; go_simp) rfl ?_
   exact HFA.out _ HT6.out
  ·have hz1 : decide (z < 0) = false := by simpa using hz0
   have hq1 : Q < 1 := by omega
   clear hfail hz0
   go_wp2
   refine bodyPost_ret (v := .tuple #[.agg #[.int .i64 k, .int .i64 n, .string s, .slice a m c], .bool false]) (by rw [results_cell_tmp rfl]; go_simp) rfl ?_
   exact HFA.out _ HT6.out
 ·have hz1 : decide (z < 0) = false := by simp; omega
  have hq1 : decide (Q < 1) = false := by simp; omega
  obtain ⟨rm, hrm⟩ : ∃ rm : Nat, z = rm := ⟨z.toNat, by omega⟩
  obtain ⟨q', hq'⟩ : ∃ q', q = q' + 1 := ⟨q - 1, by have := HQ.out; omega⟩
  have HR := Lib.hid (show room = rm + 1 ∧ z = rm ∧ q = q' + 1 ∧ Q = (q' : Int) + 1 by have h1 := HZ.out; have h2 := HQ.out; refine ⟨by omega, hrm, hq', by omega⟩)
  clear hfail hrm hq'
  by_cases hm0 : m = 0
  ·subst hm0
   have HFA := Lib.hid (show RWPost w cb room q T (.returned (.tuple #[.agg #[.int .i64 k, .int .i64 n, .string s, .slice a 0 c], .bool true])) (set4 w6 (w.heap.size + 1) (.int .i64 k) (.int .i64 n) (.string s) (.slice a 0 c)) from by
    obtain ⟨h1, h2, h3, h4⟩ := HR.out
    have hTs0 : Ts = [] := List.eq_nil_of_length_eq_zero HTS.out.2.2.1
    have hT : T = .mk k n s [] := by rw [HTS.out.2.1, hTs0]
    have hsz : sizeN T = 1 := by rw [hT, sizeN, sizesN]
    have hdp : depthN T = 1 := by rw [hT, depthN, depthsN]
    refine ⟨_, _, _, _, _, _, _, rfl, HB6.out.1.four (by omega) _ _ _ _, ⟨fun _ => by omega, fun _ => rfl⟩, fun _ => ⟨?_, ?_⟩⟩
    ·rw [hT]
     exact tmV_iff.2 ⟨_, rfl, HYB.out.1, HYB.out.2.1, HYB.out.2.2, a, c, rfl, Nat.zero_le _, by unfold maxLen; omega, by simp, Or.inl rfl⟩
    ·rw [hsz, show ((room : Int) - ((1 : Nat) : Int)) = z by omega]
     have hcell := HB6.out.2.2.2.1
     exact ⟨by rw [far_cell hne1, far_cell hne1, far_cell hne1, far_cell hne1]; exact hcell.1, by rw [World.frozen?_setCell, World.frozen?_setCell, World.frozen?_setCell, World.frozen?_setCell]; exact hcell.2.1, by rw [set4_size]; exact hcell.2.2⟩)
   go_wp2
   refine bodyPost_ret (v := .tuple #[.agg #[.int .i64 k, .int .i64 n, .string s, .slice a 0 c], .bool true]) (by rw [results_cell_tmp rfl]; go_simp) rfl ?_
   exact HFA.out
  ·have hm1 : ((m : Int) == 0) = false := beq_false_of_ne (by omega)
   obtain ⟨rfl, rfl, _⟩ : k = 2 ∧ n = 0 ∧ y.args.length ≤ 8 := by
    have hf := (good_parts HWK.out.1.good).2.2
    have hne : y.args ≠ [] := fun e => hm0 (by rw [← HU.out.2, e]; rfl)
    have e1 := HTS.out.2.2.2.1
    have e2 := HTS.out.2.2.2.2
    obtain ⟨yk, yn, ys, yt⟩ := y
    cases (show yk = k from e1)
    cases (show yn = n from e2)
    exact formed_args hf hne
   obtain ⟨w7, e7⟩ : ∃ w7, w6.alloc (.cells (madeCells #[.int .i64 0, .int .i64 0, .string ⟨#[]⟩, .slice none 0 0] (m * 4)) 54) = w7 := ⟨_, rfl⟩
   obtain ⟨lb, hlb⟩ : ∃ lb, w6.heap.size = lb := ⟨_, rfl⟩
   have HMK := make_terms m hm8 w6
   rw [e7, hlb] at HMK
   have hL0 : Lay w7 lb m [] := hlb ▸ e7 ▸ lay_new w6 m _
   have hb7 : Below w6.heap.size w6 w7 := e7 ▸ bel1' w6 _
   have hlbw : w.heap.size + 1 + 1 ≤ lb := by have := HB6.out.2.2.2.2; omega
   have HR2 := Lib.hid (show Q - 1 = (q' : Int) by have := HR.out; omega)
   have hQ1 := HR2.out
   have hwq : IntKind.i64.wrap (q' : Int) = (q' : Int) := by rw [IntKind.wrap_i64]; have := HR.out; omega
   have HI7 := Lib.hid (show RWI Ts w cb lb rm m q' [.int .i64 2, .int .i64 0, .string s, .slice a m c] 0 w7 from
    ⟨[], rfl, by simp, hL0, fun p hp => (by cases hp), HB6.out.1.then hb7, by rw [List.take_zero, sizesN]; have := HB6.out.2.2.2.1.ext hb7; rw [HR.out.2.1] at this; simpa using this, by rw [List.take_zero, sizesN]; omega, by rw [List.take_zero, depthsN]; omega, HB6.out.2.1.ext hb7, HB6.out.2.2.1.ext hb7⟩)
   have HLB := Lib.hid (And.intro hlbw hlt)
   clear hL0 hb7 e7 hlb
   go_upto_region 9 with fail
   clear q0 y0 y1 y2 y3 yf r0 r1 r2 r3 rf HMK hz1 hq1 hm1
   go_loopw [11] (fun z wr => ∃ j : Nat, j ≤ m ∧ z = .int .i64 j ∧ Hid (RWI Ts w cb lb rm m q' [.int .i64 2, .int .i64 0, .string s, .slice a m c] j wr)) (fun z _ => m - (RowKit.intOf z).toNat)
   case atStart => exact ⟨0, Nat.zero_le _, rfl, HI7⟩
   case round =>
    obtain ⟨j, hj, rfl, HP⟩ := hrel
    obtain ⟨ps, hpl, hpm, hLy, hpT, htw, hnc, hsz, hdz, hx5, hx8⟩ := HP.out
    obtain ⟨y0, y1, y2, y3, yf⟩ := hx5.four
    by_cases hjm : j < m
    ·obtain ⟨u, hu⟩ : ∃ u, y.args[j]? = some u := ⟨_, List.getElem?_eq_getElem (by rw [HU.out.2]; exact hjm)⟩
     obtain ⟨gb, go, ku, nu, su, vu, rfl, _, _, _, _, d0, d1, d2, d3, _, htu⟩ := HU.out.1.get hu
     have hI := HIS.out.touch htw (fun k hk => by simp at hk; subst hk; exact hcF) hcV
     have g0 := hI.see.1.2 _ _ d0
     have g1 := hI.see.1.2 _ _ d1
     have g2 := hI.see.1.2 _ _ d2
     have g3 := hI.see.1.2 _ _ d3
     have hok := arg_ok HWK.out.1.good HWK.out.1.rng (List.mem_of_getElem? hu)
     have hTj : Ts[j]? = some (subT (fullB R) u) := by rw [← HTS.out.1]; exact sizes_map_drop hu
     obtain ⟨rm2, hrm2⟩ : ∃ rm2 : Nat, rm2 + sizesN (Ts.take j) = rm := ⟨rm - sizesN (Ts.take j), by omega⟩
     have hnc2 : NumC wr cb (rm2 : Nat) := by
      have e : (rm : Int) - sizesN (Ts.take j) = (rm2 : Nat) := by omega
      rw [e] at hnc
      exact hnc
     have C := IH.out q' HR.out.2.2.1 wr u _ rm2 hI htu hok.1 hok.2 (by have := HR.out.1; omega) hnc2
     have HPS := Lib.hid (And.intro hpl (And.intro hpm (And.intro hLy (And.intro hpT (And.intro htw (And.intro hsz (And.intro hdz (And.intro hx5 (And.intro hx8 (And.intro hTj hrm2))))))))))
     obtain ⟨U, hUU⟩ : ∃ U, subT (fullB R) u = U := ⟨_, rfl⟩
     rw [hUU] at C
     have HUU := Lib.hid hUU
     clear hpl hpm hLy hpT htw hnc hsz hdz hx5 hx8 hI htu d0 d1 d2 d3 hok hTj hrm2 hnc2 hUU hu HP
     go_wp2_with fail
     go_fit (C)
     rintro e w8 ⟨k5, n5, s5, a5, l5, c5, b5, rfl, t8, hiff, hok8⟩
     obtain ⟨hpl, hpm, hLy, hpT, htw, hsz, hdz, hx5, hx8, hTj, hrm2⟩ := HPS.out
     obtain ⟨w9, e9, b9, z9, x9⟩ := box_new w8 #[.int .i64 k5, .int .i64 n5, .string s5, .slice a5 l5 c5] 54
     have hlbl := hLy.lt
     have hne5 : w.heap.size ≠ cb := by have := HLB.out.2; omega
     have hne8 : w.heap.size + 1 ≠ cb := by have := HLB.out.2; omega
     have hnel : lb ≠ cb := by have := HLB.out; omega
     have t9 : Touch [cb] wr w9 := t8.then b9
     have hx59 := hx5.block (t9.block _ hx5.lt (by simp; exact hne5)) (Nat.lt_of_lt_of_le hx5.lt t9.size)
     have hx89 := hx8.block (t9.block _ hx8.lt (by simp; exact hne8)) (Nat.lt_of_lt_of_le hx8.lt t9.size)
     have hblk : w9.heap[lb]? = wr.heap[lb]? := t9.block _ hlbl (by simp; exact hnel)
     have hL9 : Lay w9 lb m ps := ⟨fun i p hp j u hu => by rw [World.cell?_of_block hblk]; exact hLy.done i p hp j u hu, fun i h1 h2 => by
      obtain ⟨e0, e1, e2, e3⟩ := hLy.rest i h1 h2
      exact ⟨(World.cell?_of_block hblk).trans e0, (World.cell?_of_block hblk).trans e1, (World.cell?_of_block hblk).trans e2, (World.cell?_of_block hblk).trans e3⟩, fun j => by rw [World.frozen?_of_block hblk]; exact hLy.fz j, Nat.lt_of_lt_of_le hlbl t9.size⟩
     have HX9 := Lib.hid (And.intro hx59 (And.intro hx89 (And.intro hL9 (And.intro t9 (And.intro x9 (And.intro b9 hlbl))))))
     obtain ⟨v0, v1, v2, v3, vf⟩ := hx59.four
     obtain ⟨u0, u1, u2, u3, uf⟩ := x9.four
     obtain ⟨c0, c1, c2, c3, cf⟩ := hx89.four
     have HOK := Lib.hid (And.intro hiff hok8)
     have HT8 := Lib.hid t8
     have HE9 := Lib.hid e9
     clear hpl hpm hLy hpT htw hsz hdz hx5 hx8 hTj hrm2 t8 hiff hok8 b9 z9 x9 hx59 hx89 hL9 t9 hblk g0 g1 g2 g3 y0 y1 y2 y3 yf C e9
     go_upto_region 12 with fail
     rw [HE9.out]
     cases b5 with
     | false =>
      have HFA := Lib.hid (show RWPost w cb room q T (.returned (.tuple #[.agg #[.int .i64 2, .int .i64 0, .string s, .slice (some ⟨gb, go, none⟩) m c], .bool false])) (set4 w9 (w.heap.size + 1) (.int .i64 2) (.int .i64 0) (.string s) (.slice (some ⟨gb, go, none⟩) m c)) from by
       obtain ⟨hpl, hpm, hLy, hpT, htw, hsz, hdz, hx5, hx8, hTj, hrm2⟩ := HPS.out
       have ht : Touch [cb] w w9 := htw.trans HX9.out.2.2.2.1 (fun k hk => Or.inl hk)
       refine ⟨_, _, _, _, _, _, _, rfl, ht.four (by omega) _ _ _ _, ⟨fun h => (by cases h), fun h => ?_⟩, fun h => (by cases h)⟩
       exfalso
       have hno : ¬ (sizeN U ≤ rm2 ∧ depthN U ≤ q') := fun h2 => by cases HOK.out.1.2 h2
       rw [HUU.out] at hTj
       have e1 := sizes_drop hTj
       have e2 := sizes_take Ts (j + 1)
       have e3 := depths_take_succ hTj
       have e4 := depths_take_le Ts (j + 1)
       have e5 : sizeN T = sizesN Ts + 1 := by rw [HTS.out.2.1, sizeN]
       have e6 : depthN T = depthsN Ts + 1 := by rw [HTS.out.2.1, depthN]
       have e7 := HR.out
       refine hno ⟨by omega, by omega⟩)
      clear hq hroom
      go_wp2
      refine bodyPost_ret (v := .tuple #[.agg #[.int .i64 2, .int .i64 0, .string s, .slice (some ⟨gb, go, none⟩) m c], .bool false]) (by rw [results_cell_tmp rfl]; go_simp) rfl ?_
      exact HFA.out
     | true =>
      have hjl : ps.length = j := HPS.out.1
      obtain ⟨r0, r1, r2, r3⟩ := HX9.out.2.2.1.rest j (by omega) hjm
      have rfz := HX9.out.2.2.1.fz
      have hjm2 : (j : Int) < m := by omega
      have HJL := Lib.hid hjl
      have HN := Lib.hid (show RWI Ts w cb lb rm m q' [.int .i64 2, .int .i64 0, .string s, .slice (some ⟨gb, go, none⟩) m c] (j + 1) (setAt w9 lb (j * 4) (.int .i64 k5) (.int .i64 n5) (.string s5) (.slice a5 l5 c5)) from by
       obtain ⟨_, hpm, hLy, hpT, htw, hsz, hdz, hx5, hx8, hTj, hrm2⟩ := HPS.out
       obtain ⟨hx59, hx89, hL9, t9, x9, b9, hlbl⟩ := HX9.out
       obtain ⟨hTU, hNU⟩ := HOK.out.2 rfl
       obtain ⟨hsU, hdU⟩ := HOK.out.1.1 rfl
       rw [HUU.out] at hTj
       have e1 := sizes_drop hTj
       have e3 := depths_take_succ hTj
       obtain ⟨hl1, hl2⟩ := HLB.out
       have hpv : (Value.agg #[.int .i64 k5, .int .i64 n5, .string s5, .slice a5 l5 c5]) = pVal (U, .slice a5 l5 c5) := by
        obtain ⟨Uk, Un, Us, Ut⟩ := U
        obtain ⟨u, hu, _, _, _, _⟩ := tmV_iff.1 hTU
        rw [hu]
        simp only [Value.agg.injEq] at hu
        have hu' := congrArg Array.toList hu
        simp only [List.cons.injEq, and_true] at hu'
        rw [← hu'.2.2.2]
        rfl
       have hpc : pCells (U, .slice a5 l5 c5) = [.int .i64 k5, .int .i64 n5, .string s5, .slice a5 l5 c5] := by
        have := hpv
        simp only [pVal, Value.agg.injEq] at this
        have h2 := congrArg Array.toList this
        exact h2.symm
       have hd : under (lb + 1) lb = true := by simp
       have hstay : ∀ t v, TmV (hide (under (lb + 1)) w9) t v → TmV (hide (under (lb + 1)) (setAt w9 lb (j * 4) (.int .i64 k5) (.int .i64 n5) (.string s5) (.slice a5 l5 c5))) t v := fun t v ht =>
        TmV.stay (((((Stays.set (D := under (lb + 1)) ⟨lb, j * 4, none⟩ _ hd).trans (Stays.set ⟨lb, j * 4 + 1, none⟩ _ hd)).trans (Stays.set ⟨lb, j * 4 + 2, none⟩ _ hd)).trans (Stays.set ⟨lb, j * 4 + 3, none⟩ _ hd))) _ _ ht
       have hLp := hL9.put (by rw [HJL.out]; exact hjm) hpc
       rw [HJL.out] at hLp
       refine ⟨ps ++ [(U, .slice a5 l5 c5)], by rw [List.length_append, HJL.out]; rfl, by rw [List.map_append, hpm, take_next hTj]; rfl, hLp, fun p hp => hstay _ _ ?_, ((((htw.trans t9 (fun k hk => Or.inl hk)).setNew _ _ (by show w.heap.size ≤ lb; omega)).setNew _ _ (by show w.heap.size ≤ lb; omega)).setNew _ _ (by show w.heap.size ≤ lb; omega)).setNew _ _ (by show w.heap.size ≤ lb; omega), ?_, by omega, by omega, (((hx59.far (by omega)).far (by omega)).far (by omega)).far (by omega), (((hx89.far (by omega)).far (by omega)).far (by omega)).far (by omega)⟩
       ·rcases List.mem_append.1 hp with hp | hp
        ·exact TmV.stay (Stays.hide t9.size fun k hk hd => ⟨hd, t9.block k hk (by simp at hd ⊢; omega)⟩) _ _ (hpT p hp)
        ·rw [List.mem_singleton] at hp
         subst hp
         rw [← hpv]
         exact TmV.stay (Stays.less fun k hk => by simp at hk ⊢; omega) _ _ (TmV.stay (Stays.hide b9.size fun k hk hd => ⟨hd, b9.block k hk⟩) _ _ hTU)
       ·have hN9 := hNU.ext b9
        have e : (rm : Int) - sizesN (Ts.take (j + 1)) = (rm2 : Int) - sizeN U := by omega
        rw [e]
        have hnel2 : cb ≠ lb := by omega
        exact ⟨by rw [setAt_far hnel2]; exact hN9.1, by rw [World.frozen?_setCell, World.frozen?_setCell, World.frozen?_setCell, World.frozen?_setCell]; exact hN9.2.1, by have := hN9.2.2; simpa [World.setCell] using this⟩)
      clear hjl
      go_wp2
      go_roundw
      case rel => exact ⟨j + 1, by omega, by go_num, HN⟩
      case measure => simp [RowKit.intOf]; omega
    ·have hjm2 : j = m := by omega
     subst hjm2
     obtain ⟨x0, x1, x2, x3, xf⟩ := hx8.four
     have HE := Lib.hid HP.out
     clear hpl hpm hLy hpT htw hnc hsz hdz hx5 HP
     have HR9 := rcomp_at wr s (some ⟨lb, 0, none⟩) j j
     (go_wp2_with fail; go_fit (HR9); rintro e w9 ⟨rfl, b9⟩)
     obtain ⟨r0, r1, r2, r3, rf⟩ := (hx8.ext b9).four
     have HB9 := Lib.hid b9
     have HFA := Lib.hid (show RWPost w cb room q T (.returned (.tuple #[.agg #[.int .i64 2, .int .i64 0, .string s, .slice (some ⟨lb, 0, none⟩) j j], .bool true])) (set4 w9 (w.heap.size + 1) (.int .i64 2) (.int .i64 0) (.string s) (.slice (some ⟨lb, 0, none⟩) j j)) from by
      obtain ⟨ps, hpl, hpm, hLy, hpT, htw, hnc, hsz, hdz, hx5, hx8⟩ := HE.out
      obtain ⟨hl1, hl2⟩ := HLB.out
      have htk : Ts.take j = Ts := List.take_of_length_le (by rw [HTS.out.2.2.1]; exact Nat.le_refl _)
      rw [htk] at hpm hnc hsz hdz
      have e5 : sizeN T = sizesN Ts + 1 := by rw [HTS.out.2.1, sizeN]
      have e6 : depthN T = depthsN Ts + 1 := by rw [HTS.out.2.1, depthN]
      have e7 := HR.out
      refine ⟨_, _, _, _, _, _, _, rfl, (htw.then HB9.out).four (by omega) _ _ _ _, ⟨fun _ => ⟨by omega, by omega⟩, fun _ => rfl⟩, fun _ => ⟨?_, ?_⟩⟩
      ·rw [HTS.out.2.1]
       refine tmV_iff.2 ⟨_, rfl, HYB.out.1, HYB.out.2.1, HYB.out.2.2, ?_⟩
       have hlf : under lb lb = false := by simp
       have h1 := (hLy.later HB9.out).out (D := under lb) hpl hlf (fun p hp => TmV.stay (Stays.less fun k hk => by simp at hk ⊢; omega) _ _ (TmV.stay (Stays.hide (D := under (lb + 1)) (D' := under (lb + 1)) HB9.out.size fun k hk hd => ⟨hd, HB9.out.block k hk⟩) _ _ (hpT p hp))) (by unfold BIG; omega)
       rw [hpm] at h1
       have hd1 : under lb (w.heap.size + 1) = true := by simp; omega
       have h2 := h1.stay ((((Stays.set (D := under lb) ⟨w.heap.size + 1, 0, none⟩ (.int .i64 2) hd1).trans (Stays.set ⟨w.heap.size + 1, 1, none⟩ (.int .i64 0) hd1)).trans (Stays.set ⟨w.heap.size + 1, 2, none⟩ (.string s) hd1)).trans (Stays.set ⟨w.heap.size + 1, 3, none⟩ (.slice (some ⟨lb, 0, none⟩) j j) hd1))
       exact h2.stay (Stays.less fun k hk => by simp at hk ⊢; omega)
      ·have hn9 := hnc.ext HB9.out
       rw [show ((room : Int) - ((sizeN T : Nat) : Int)) = (rm : Int) - sizesN Ts by omega]
       exact ⟨by rw [far_cell hne1, far_cell hne1, far_cell hne1, far_cell hne1]; exact hn9.1, by rw [World.frozen?_setCell, World.frozen?_setCell, World.frozen?_setCell, World.frozen?_setCell]; exact hn9.2.1, by rw [set4_size]; exact hn9.2.2⟩)
     clear b9 x0 x1 x2 x3 xf y0 y1 y2 y3 yf hx8
     go_wp2
     refine bodyPost_ret (v := .tuple #[.agg #[.int .i64 2, .int .i64 0, .string s, .slice (some ⟨lb, 0, none⟩) j j], .bool true]) (by rw [results_cell_tmp rfl]; go_simp) rfl ?_
     exact HFA.out
end
end Go.Proofs.Ytchbbaehdcmcfaa
/- The document's side of chapter 11: Whole. -/
namespace Go.Proofs.Ytchbbaehdcmcfaa
open Go.RowKit
set_option linter.unusedVariables false
section
variable {V w : World} {F : List Nat} {p : Value} {N : Nat} {R : List (Int × Tm)} {cb : Nat}
theorem rwhole_at (hcF : ¬ cb ∈ F) (hcV : Blind V [cb]) : ∀ q, q ≤ 64 → RWH V F p N R cb q := by
 intro q
 induction q with
 | zero => exact fun h => rwhole_step 0 h hcF hcV (fun q' e => by omega)
 | succ q ih =>
  refine fun h => rwhole_step (q + 1) h hcF hcV (fun q' e => ?_)
  have e : q' = q := by omega
  subst e
  exact ih (by omega)
theorem rwpost_good {w w' : World} {cb : Nat} {x : Tm} {e : Ending} (hT : Tri N R) (hN : N ≤ 65536) (hf : fitsB N x = true) (h : RWPost w cb 2000 64 (subT (fullB R) x) e w') :
  ∃ (k n : Int) (s : ByteArray) (ua : Option Addr) (ul uc : Nat), e = .returned (.tuple #[.agg #[.int .i64 k, .int .i64 n, .string s, .slice ua ul uc], .bool (goodT (subT (fullB R) x))]) ∧ Touch [cb] w w' ∧ (goodT (subT (fullB R) x) = true → TmV (hide (under w.heap.size) w') (subT (fullB R) x) (.agg #[.int .i64 k, .int .i64 n, .string s, .slice ua ul uc])) := by
 obtain ⟨k, n, s, ua, ul, uc, b, h1, h2, h3, h4⟩ := h
 obtain ⟨f1, f2⟩ := fitsB_true.1 hf
 have hfm := subfull_formed hN hT (good_parts f1).2.2 f2
 have hb : b = goodT (subT (fullB R) x) := by
  rw [Bool.eq_iff_iff, h3]
  exact ⟨fun q => good_of q.1 q.2 hfm, fun q => ⟨(good_parts q).1, (good_parts q).2.1⟩⟩
 subst hb
 exact ⟨k, n, s, ua, ul, uc, h1, h2, fun q => (h4 q).1⟩
set_option maxHeartbeats 8000000 in
set_option maxRecDepth 100000 in
theorem RWhole_at (h : IsR V F w p N R) {x : Tm} {v : Value} (hv : TmV V x v) :
  Calls Try.prog 36 #[p, v] w fun e w' => ∃ v', e = .returned (.tuple #[v', .int .i64 (wholeB N R x).2]) ∧ TmV (hide (under w.heap.size) w') (wholeB N R x).1 v' ∧ Below w.heap.size w w' := by
 obtain ⟨hT, hN⟩ := h.tri
 have hvw := TmV.stay h.see.1 _ _ hv
 obtain ⟨kx, nx, sx, ax, mx, cx, rfl, f1, f2, f3, fv⟩ := four_of hv
 clear f1 f2 f3 fv
 obtain ⟨w1, e1, B1, z1, X1⟩ := box_new w #[.int .i64 kx, .int .i64 nx, .string sx, .slice ax mx cx] 54
 obtain ⟨w2, e2, B2, z2, X2⟩ := box_new w1 #[.int .i64 0, .int .i64 0, .string ⟨#[]⟩, .slice none 0 0] 54
 have X1 := X1.ext B2
 have B12 := Ext.trans' B1 B2
 rw [z1] at X2 z2
 have C := RKnown_at (h.ext B12) (TmV.ext B12 _ _ hvw)
 have HB := Lib.hid (And.intro B12 (And.intro X1 (And.intro X2 z2)))
 obtain ⟨a0, a1, a2, a3, af⟩ := X1.four
 have HI := Lib.hid h
 have HV := Lib.hid hv
 have HT := Lib.hid (And.intro hT hN)
 unfold wholeB
 cases hf : fitsB N x
 ·rw [hf] at C
  clear h hv hvw B1 B2 z2 X1 X2 B12 hf hT hN
  go_enter Try.func36, Try.ntmps36
  go_wp2_with fail
  go_fit (C)
  rintro e w4 ⟨rfl, b4⟩
  have Z2 := HB.out.2.2.1.ext b4
  obtain ⟨x0, x1, x2, x3, xf⟩ := Z2.four
  have HB4 := Lib.hid (HB.out.1.trans (b4.mono HB.out.1.size))
  clear e1 e2 b4 C Z2
  go_wp2
  refine bodyPost_ret (v := .tuple #[.agg #[.int .i64 0, .int .i64 0, .string ⟨#[]⟩, .slice none 0 0], .int .i64 1]) (by rw [results_cell_tmp rfl]; go_simp) rfl ⟨_, rfl, zero_tm _, ?_⟩
  exact Below.set4 HB4.out (Nat.le_succ _) _ _ _ _
 ·rw [hf] at C
  rw [if_pos rfl]
  obtain ⟨RW, hRW⟩ : ∃ q : Tm × Int, (if goodT (subT (fullB R) x) = true then (subT (fullB R) x, 0) else (varV 0, 12)) = q := ⟨_, rfl⟩
  rw [hRW]
  have HRW := Lib.hid hRW
  clear hRW
  have HF := Lib.hid hf
  clear h hv hvw B1 B2 z2 X1 X2 B12 hf hT hN
  go_enter Try.func36, Try.ntmps36
  go_wp2_with fail
  go_fit (C)
  rintro e w4 ⟨rfl, b4⟩
  obtain ⟨w5, e5, b5, z5, x5⟩ := box_new w4 #[.int .i64 2000] 3
  have hb5 := Ext.trans' (Ext.trans' HB.out.1 b4) b5
  have HB5 := Lib.hid (And.intro hb5 (And.intro ((HB.out.2.1.ext b4).ext b5) (And.intro ((HB.out.2.2.1.ext b4).ext b5) z5)))
  have hs4 : w.heap.size + 1 + 1 ≤ w4.heap.size := by have := b4.size; have := HB.out.2.2.2; omega
  have W := rwhole_at (V := V) (F := F) (p := p) (N := N) (R := R) (cb := w4.heap.size) (fun hk => by have := HI.out.lt _ hk; omega) (Blind.new HI.out.see.1 (fun k hk => by simp at hk; omega)) 64 (Nat.le_refl _) w5 x _ 2000 (HI.out.ext hb5) HV.out (fitsB_true.1 HF.out).1 (fitsB_true.1 HF.out).2 (Nat.le_refl _) ⟨x5.cells 0 _ rfl, x5.fz 0, x5.lt⟩
  obtain ⟨y0, y1, y2, y3, yf⟩ := HB5.out.2.1.four
  have HE5 := Lib.hid e5
  have HW := Lib.hid (show Calls Try.prog 74 #[p, .agg #[.int .i64 kx, .int .i64 nx, .string sx, .slice ax mx cx], .pointer (some ⟨w4.heap.size, 0, none⟩), .int .i64 64] w5 _ from W.mono (fun e w' hp => rwpost_good HT.out.1 HT.out.2 HF.out hp))
  clear e1 e2 z1 b4 C b5 z5 x5 hb5 W e5 a0 a1 a2 a3 af
  go_upto_region 4 with fail
  rw [HE5.out]
  go_wp2_with fail
  go_fit (HW.out)
  rintro e w6 ⟨k, n, s, a, m, c, rfl, t6, ht6⟩
  have hlt5 : w4.heap.size < w5.heap.size := by have := HB5.out.2.2.2; omega
  have hx6 := HB5.out.2.2.1.block (t6.block _ HB5.out.2.2.1.lt (by simp; omega)) (Nat.lt_of_lt_of_le HB5.out.2.2.1.lt t6.size)
  obtain ⟨w7, e7, b7, z7, x7⟩ := box_new w6 #[.int .i64 k, .int .i64 n, .string s, .slice a m c] 54
  have HE7 := Lib.hid e7
  obtain ⟨x0, x1, x2, x3, xf⟩ := (hx6.ext b7).four
  obtain ⟨u0, u1, u2, u3, uf⟩ := x7.four
  have hB7 : Below w.heap.size w w7 := HB5.out.1.trans ((t6.then b7).below HB5.out.1.size (fun k hk => by simp at hk; omega))
  have HB7 := Lib.hid hB7
  have HT6 := Lib.hid (And.intro ht6 b7)
  have HS := Lib.hid (And.intro hs4 (And.intro t6.size HB5.out.2.2.2))
  have hne : w.heap.size + 1 ≠ w6.heap.size := by have := t6.size; omega
  clear t6 ht6 hx6 b7 z7 x7 e7 hB7 y0 y1 y2 y3 yf hlt5
  go_upto_region 5 with fail
  rw [HE7.out]
  cases hg : goodT (subT (fullB R) x)
  ·have hrw : RW = (varV 0, 12) := by rw [← HRW.out, hg]; rfl
   subst hrw
   clear hg
   go_wp2
   refine bodyPost_ret (v := .tuple #[.agg #[.int .i64 0, .int .i64 0, .string ⟨#[]⟩, .slice none 0 0], .int .i64 12]) (by rw [results_cell_tmp rfl]; go_simp) rfl ⟨_, rfl, zero_tm _, ?_⟩
   exact Below.set4 HB7.out (Nat.le_succ _) _ _ _ _
  ·have hrw : RW = (subT (fullB R) x, 0) := by rw [← HRW.out, hg]; rfl
   subst hrw
   have HG := Lib.hid hg
   clear hg
   go_wp2
   refine bodyPost_ret (v := .tuple #[.agg #[.int .i64 k, .int .i64 n, .string s, .slice a m c], .int .i64 0]) (by rw [results_cell_tmp rfl]; go_simp) rfl ⟨_, rfl, ?_, ?_⟩
   ·have h1 := HT6.out.1 HG.out
    have h2 := TmV.later HT6.out.2 h1
    have hd : under w5.heap.size (w.heap.size + 1) = true := by have := HS.out; simp; omega
    refine TmV.stay (Stays.less (D := under w5.heap.size) fun k hk => by have := HS.out; simp at hk ⊢; omega) _ _ (TmV.stay ((((Stays.set (D := under w5.heap.size) ⟨w.heap.size + 1, 0, none⟩ _ hd).trans (Stays.set ⟨w.heap.size + 1, 1, none⟩ _ hd)).trans (Stays.set ⟨w.heap.size + 1, 2, none⟩ _ hd)).trans (Stays.set ⟨w.heap.size + 1, 3, none⟩ _ hd)) _ _ h2)
   ·exact Below.set4 HB7.out (Nat.le_succ _) _ _ _ _
end
end Go.Proofs.Ytchbbaehdcmcfaa
/- The document's side of chapter 11: Undo. -/
namespace Go.Proofs.Ytchbbaehdcmcfaa
open Go.RowKit
set_option linter.unusedVariables false
theorem Tri.nodup {N : Nat} : ∀ {R : List (Int × Tm)}, Tri N R → (domB R).Nodup
 | [], _ => List.nodup_nil
 | (n, t) :: R, h => List.nodup_cons.2 ⟨h.2.2.2.1, Tri.nodup h.1⟩
theorem get_of_mem {N : Nat} : ∀ {R : List (Int × Tm)}, Tri N R → ∀ {n : Int} {t : Tm}, (n, t) ∈ R → getB R n = some t
 | (m, u) :: R, h, n, t, hm => by
  rw [get_cons]
  rcases List.mem_cons.1 hm with e | hm
  ·cases e; rw [if_pos rfl]
  ·have hd : n ∈ domB R := List.mem_map.2 ⟨_, hm, rfl⟩
   rw [if_neg (fun e => h.2.2.2.1 (by rw [e]; exact hd))]
   exact get_of_mem h.1 hm
theorem put1_row {w : World} {g c N i : Nat} {e : TypeId} {xs : List Value} {u : Value} (h : w.ownsRow 0 e 1 (.slice (some ⟨g, 0, none⟩) N c) N xs) (hi : i < N) : (w.setCell ⟨g, i, none⟩ u).ownsRow 0 e 1 (.slice (some ⟨g, 0, none⟩) N c) N (xs.set i u) := by
 obtain ⟨h0, h1⟩ := h
 rcases h1 with ⟨e, _⟩ | ⟨g', cap, cur, e, hg, hh, q1, q2, q3, q4⟩
 ·cases e
 ·cases e
  refine ⟨by simpa using h0, Or.inr ⟨g, c, cur.setIfInBounds i u, rfl, hg, blk_setc hh i u, q1, q2, by simpa using q3, ?_⟩⟩
  rw [Array.toList_setIfInBounds, List.take_set, q4]
def namesR (R : List (Int × Tm)) : List Int := R.reverse.map (·.1)
theorem namesR_eq (R : List (Int × Tm)) : namesR R = (domB R).reverse := by unfold namesR domB; rw [List.map_reverse]
theorem namesR_len (R : List (Int × Tm)) : (namesR R).length = R.length := by unfold namesR; simp
def RUI (N : Nat) (nm : List Int) (n : Nat) (v2 : Value) (w : World) (j : Nat) (wr : World) : Prop :=
 ∃ bs : List Bool, bs.length = N ∧ wr.ownsRow 0 4 1 v2 N (bs.map Value.bool) ∧ (∀ i : Nat, i < N → bs[i]? = some (decide ((i : Int) ∈ nm.take n ++ nm.drop j))) ∧ Touch v2.ownBlock.toList w wr
theorem RUI.step {N : Nat} {nm : List Int} {n : Nat} {g c : Nat} {w wr : World} {j x : Nat} (h : RUI N nm n (.slice (some ⟨g, 0, none⟩) N c) w j wr) (hnd : nm.Nodup) (hnj : n ≤ j) (hj : nm[j]? = some (x : Int)) (hx : x < N) :
  RUI N nm n (.slice (some ⟨g, 0, none⟩) N c) w (j + 1) (wr.setCell ⟨g, x, none⟩ (.bool false)).drew := by
 obtain ⟨bs, e1, e2, e3, e4⟩ := h
 obtain ⟨hlt, hge⟩ := List.getElem?_eq_some_iff.1 hj
 have hdr : nm.drop j = (x : Int) :: nm.drop (j + 1) := by rw [List.drop_eq_getElem_cons hlt, hge]
 have hn2 : (nm.take j ++ nm.drop j).Nodup := by rw [List.take_append_drop]; exact hnd
 rw [hdr] at hn2
 have hno : ¬ (x : Int) ∈ nm.take n ++ nm.drop (j + 1) := fun hm => by
  rw [List.nodup_append] at hn2
  obtain ⟨_, h2, h3⟩ := hn2
  rcases List.mem_append.1 hm with hm | hm
  ·have : (x : Int) ∈ nm.take j := (List.take_subset_take_left nm hnj) hm
   exact h3 _ this _ (List.mem_cons_self ..) rfl
  ·exact (List.nodup_cons.1 h2).1 hm
 refine ⟨bs.set x false, by rw [List.length_set]; exact e1, ?_, fun i hi => ?_, ?_⟩
 ·rw [List.map_set]
  exact row_ext (put1_row e2 hx) (Below.refl _ _).drew
 ·by_cases hix : i = x
  ·subst hix
   rw [List.getElem?_set_self (by omega)]
   simp [hno]
  ·rw [List.getElem?_set_ne (Ne.symm hix), e3 i hi, hdr]
   congr 1
   have hne : ¬ (i : Int) = (x : Int) := by omega
   simp [hne]
 ·exact (e4.trans (touch_one wr g x _) (fun k hk => Or.inl (by simpa [Value.ownBlock] using hk))).then (Below.refl _ _).drew
section
variable {V w : World} {F : List Nat} {p : Value} {N : Nat} {R : List (Int × Tm)} {cb : Nat}
theorem IsR.undone (h : IsR V F w p N R) {n m : Nat} (hm : R.length = n + m) {bt : Nat} (hp : p = .pointer (some ⟨bt, 0, none⟩)) {a2 : Option Addr} {c2 : Nat} (h2 : w.cell? ⟨bt, 1, none⟩ = some (.slice a2 N c2)) {wr : World} (hr : RUI N (namesR R) n (.slice a2 N c2) w R.length wr) {w6 w7 : World} {v7 : Value}
  (hb : Below wr.heap.size wr w6) (hg : w6.grownBy w7 (some wr.heap.size)) (hat : v7.ownBlock = some wr.heap.size ∨ v7.ownBlock = some w6.heap.size) (hr7 : w7.ownsRow 0 2 1 v7 n (trailV (R.drop m))) (hlt : wr.heap.size < w6.heap.size) :
  w7.frozen? ⟨bt, 2, none⟩ = false ∧ (∃ u, w7.cell? ⟨bt, 2, none⟩ = some u) ∧ ∃ F', IsR V F' (w7.setCell ⟨bt, 2, none⟩ v7) p N (R.drop m) ∧ Touch F w (w7.setCell ⟨bt, 2, none⟩ v7) ∧ ∀ k ∈ F', k ∈ F ∨ w.heap.size ≤ k := by
 have hF := h.lt
 obtain ⟨bt', v1, v2, v3, ts, bs, rfl, rfl, hn, h1, hl1, hl2, h4, h5, h6, h7, h8, h9, h10, h11⟩ := h
 cases hp
 have hv : v2 = .slice a2 N c2 := by
  have : w.cell? ⟨bt, 1, none⟩ = some v2 := by simp [blk_cell h1]
  rw [h2] at this
  exact (Option.some.inj this).symm
 subst hv
 obtain ⟨bs', e1, e2, e3, e4⟩ := hr
 have hnb := List.nodup_cons.1 hn
 have hbt : bt < w.heap.size := hF bt (by simp)
 have hs := e4.size
 have hown2 : ∀ k, (Value.slice a2 N c2).ownBlock = some k → k < w.heap.size := fun k hk => hF k (by simp [hk])
 have key : ∀ k, k < w.heap.size → (Value.slice a2 N c2).ownBlock ≠ some k → w7.heap[k]? = w.heap[k]? := fun k hk hne => by
  rw [hg.block k (by omega) (fun e => by injection e with e; omega), hb.block k (by omega), e4.block k hk (fun hm => hne (by simpa using hm))]
 have hbt2 : (Value.slice a2 N c2).ownBlock ≠ some bt := fun e => hnb.1 (by simp [e])
 have b7 : w7.heap[bt]? = some (.cells #[v1, .slice a2 N c2, v3] 62 (0, 0)) := (key bt hbt hbt2).trans h1
 have hk7 : ∀ k, v7.ownBlock = some k → w.heap.size ≤ k := fun k hk => by
  rcases hat with e | e <;> rw [hk] at e <;> injection e with e <;> omega
 have hsz7 : w.heap.size ≤ w7.heap.size := by have := hg.size; have := hb.size; omega
 have tw : Touch (bt :: (v1.ownBlock.toList ++ ((Value.slice a2 N c2).ownBlock.toList ++ v3.ownBlock.toList))) w (w7.setCell ⟨bt, 2, none⟩ v7) := by
  refine ⟨hg.os.trans (hb.os.trans e4.os), hg.tape.trans (hb.tape.trans e4.tape), hg.output.trans (hb.output.trans e4.output), by simpa [World.setCell] using hsz7, fun j hj hn => ?_⟩
  simp only [List.mem_cons, List.mem_append, Option.mem_toList, not_or] at hn
  rw [Below.heap_setCell w7 _ _ j hn.1]
  exact key j hj hn.2.2.1
 have hin : ∀ k ∈ bt :: (v1.ownBlock.toList ++ ((Value.slice a2 N c2).ownBlock.toList ++ v7.ownBlock.toList)), k ∈ bt :: (v1.ownBlock.toList ++ ((Value.slice a2 N c2).ownBlock.toList ++ v3.ownBlock.toList)) ∨ w.heap.size ≤ k := fun k hk => by
  simp only [List.mem_cons, List.mem_append, Option.mem_toList] at hk ⊢
  rcases hk with hk | hk | hk | hk
  ·exact Or.inl (Or.inl hk)
  ·exact Or.inl (Or.inr (Or.inl hk))
  ·exact Or.inl (Or.inr (Or.inr (Or.inl hk)))
  ·exact Or.inr (hk7 k hk)
 refine ⟨by simp [World.frozen?, b7], ⟨_, by simp [blk_cell b7]; rfl⟩, _, ⟨bt, v1, .slice a2 N c2, v7, ts, bs', rfl, rfl, ?_, ?_, hl1, e1, ?_, ?_, ?_, ?_, h8.drop m, h9, h10.touch h11 tw, Blind.some h11 h10 hin⟩, tw, hin⟩
 ·have hsub : (bt :: (v1.ownBlock.toList ++ (Value.slice a2 N c2).ownBlock.toList)).Nodup := hn.sublist (List.Sublist.cons_cons _ (List.Sublist.append (List.Sublist.refl _) (List.sublist_append_left _ _)))
  have h8 : ((bt :: (v1.ownBlock.toList ++ (Value.slice a2 N c2).ownBlock.toList)) ++ v7.ownBlock.toList).Nodup := by
   refine List.nodup_append.2 ⟨hsub, by cases v7.ownBlock <;> simp, fun a ha b hb e => ?_⟩
   have hb := hk7 b (by simpa using hb)
   have ha := hF a (by
    simp only [List.mem_cons, List.mem_append, Option.mem_toList] at ha ⊢
    rcases ha with h | h | h
    ·exact Or.inl h
    ·exact Or.inr (Or.inl h)
    ·exact Or.inr (Or.inr (Or.inl h)))
   omega
  simpa using h8
 ·rw [blk_setc b7]; rfl
 ·exact row_at h4 (fun g hg' => by
   have hgF : g < w.heap.size := hF g (by simp [hg'])
   have hgb : g ≠ bt := fun e => hnb.1 (by simp [← e, hg'])
   rw [Below.heap_setCell w7 _ _ g hgb]
   refine key g hgF (fun e => ?_)
   have hn2 := (List.nodup_append.1 hnb.2).2.2
   exact hn2 g (by simp [hg']) g (by simp [e]) rfl)
 ·exact row_at e2 (fun g hg' => by
   have hgb : g ≠ bt := fun e => hbt2 (by rw [← e]; exact hg')
   have := hown2 g hg'
   rw [Below.heap_setCell w7 _ _ g hgb, hg.block g (by omega) (fun e => by injection e with e; omega), hb.block g (by omega)])
 ·have : (R.drop m).length = n := by simp [hm]
  rw [this]
  exact row_at hr7 (fun g hg' => by
   have := hk7 g hg'
   have hgb : g ≠ bt := by omega
   rw [Below.heap_setCell w7 _ _ g hgb])
 ·refine ⟨fun i hi => ?_, fun i t ht => ?_⟩
  ·rw [e3 i hi, List.drop_eq_nil_of_le (by rw [namesR_len]; exact Nat.le_refl _), List.append_nil]
   congr 1
   rw [Bool.eq_iff_iff, decide_eq_true_eq, dom_iff, namesR_eq]
   have e : (domB R).reverse.take n = (domB (R.drop m)).reverse := by
    rw [List.take_reverse]
    unfold domB
    rw [List.map_drop, List.length_map, show R.length - n = m by omega]
   rw [e, List.mem_reverse]
  ·exact h7.held i t (get_of_mem h8 (List.mem_of_mem_drop (get_mem ht)))
end
end Go.Proofs.Ytchbbaehdcmcfaa
