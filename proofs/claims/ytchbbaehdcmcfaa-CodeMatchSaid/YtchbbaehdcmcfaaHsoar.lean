import Derived.Test.YtchbbaehdcmcfaaHsoab
import Derived.Test.YtchbbaehdcmcfaaHsoap
import Derived.Test.YtchbbaehdcmcfaaHsoaj
import Derived.Test.YtchbbaehdcmcfaaHsoai
import Derived.Test.YtchbbaehdcmcfaaHsoao
import Derived.Test.YtchbbaehdcmcfaaHsoad
import Derived.Test.YtchbbaehdcmcfaaHsoaq
import Derived.Test.YtchbbaehdcmcfaaHsoae
import Derived.Deep.RegionHeld3
import Derived.Deep.Quiet
import Derived.Laws.StructEq
set_option linter.unusedVariables false
set_option linter.unusedSimpArgs false
/- The document's side of chapter 13: rename, walked. -/
namespace Go.Proofs.Ytchbbaehdcmcfaa
open Go.RowKit
set_option linter.unusedVariables false
theorem pos_spec {n : Int} : ∀ {l : List Int}, n ∈ l → posI l n < l.length ∧ l[posI l n]? = some n ∧ ∀ (j : Nat) (y : Int), j < posI l n → l[j]? = some y → ¬ y = n
 | x :: r, h => by
  rw [posI]
  by_cases e : x = n
  ·rw [if_pos e]
   exact ⟨by simp, by simp [e], fun j y hj => by omega⟩
  ·rw [if_neg e]
   have hr : n ∈ r := by
    rcases List.mem_cons.1 h with h | h
    ·exact absurd h.symm e
    ·exact h
   obtain ⟨h1, h2, h3⟩ := pos_spec hr
   refine ⟨by simp; omega, by simpa using h2, fun j y hj hy => ?_⟩
   cases j with
   | zero => simp at hy; subst hy; exact e
   | succ j => exact h3 j y (by omega) (by simpa using hy)
def RenI (Ts : List Tm) (w : World) (lb m : Nat) (vs : List Value) (j : Nat) (wr : World) : Prop :=
 ∃ ps : List TmP, ps.length = j ∧ ps.map (·.1) = Ts.take j ∧ Lay wr lb m ps ∧ (∀ p ∈ ps, TmV (hide (under (lb + 1)) wr) p.1 (pVal p)) ∧ Below w.heap.size w wr ∧
  Box wr w.heap.size vs ∧ Box wr (w.heap.size + 1) [.int .i64 0, .int .i64 0, .string ⟨#[]⟩, .slice none 0 0]
def RenP (w : World) (T : Tm) (e : Ending) (w' : World) : Prop := ∃ v', e = .returned v' ∧ TmV (hide (under w.heap.size) w') T v' ∧ Below w.heap.size w w'
set_option maxHeartbeats 8000000 in
set_option maxRecDepth 100000 in
theorem rename_at : ∀ (M : Nat) (x : Tm), sizeN x ≤ M → ∀ (l : List Int) (first : Int), formedT x = true → (∀ m ∈ occT x, m ∈ l) → 0 ≤ first → first + l.length ≤ 4294967296 → ∀ (w : World) (v lv : Value), TmV w x v → Nums w lv l →
  Calls Try.prog 71 #[v, lv, .int .i64 first] w (RenP w (subT (renV l first) x))
 | 0, x, h, l, first, hf, ho, h0, h1, w, v, lv, hv, hl => by have := size_pos x; omega
 | M + 1, .mk k n s ts, h, l, first, hf, ho, h0, h1, w, v, lv, hv, hl => by
  obtain ⟨u, rfl, hss, hkk, hnn, hu⟩ := tmV_iff.1 hv
  obtain ⟨a, c, rfl, hb1, hb2, hb3⟩ := hu.len
  unfold maxLen at hb2
  obtain ⟨la, lc, rfl, hl1, hl2⟩ := hl.len
  unfold maxLen at hl2
  obtain ⟨w1, e1, B1, z1, X1⟩ := box_new w #[.int .i64 k, .int .i64 n, .string s, .slice a ts.length c] 54
  obtain ⟨w2, e2, B2, z2, X2⟩ := box_new w1 #[.int .i64 0, .int .i64 0, .string ⟨#[]⟩, .slice none 0 0] 54
  have X1 := X1.ext B2
  have B12 := Ext.trans' B1 B2
  rw [z1] at X2 z2
  have HE := Lib.hid (And.intro e1 e2)
  have HB2 := Lib.hid (And.intro B12 (And.intro X1 (And.intro X2 z2)))
  have HL := Lib.hid hl
  clear B1 B2 z1 e1 e2 hl B12
  by_cases hk0 : k = 0
  ·subst hk0
   have hT : subT (renV l first) (.mk 0 n s ts) = varV (first + (posI l n : Int)) := by rw [sub_var]; rfl
   rw [hT]
   obtain ⟨hp1, hp2, hp3⟩ := pos_spec (ho n (by rw [occ_var]; simp))
   obtain ⟨P, hP⟩ : ∃ P, posI l n = P := ⟨_, rfl⟩
   rw [hP] at hp1 hp2 hp3 ⊢
   obtain ⟨z, hz⟩ : ∃ z, first + (P : Int) = z := ⟨_, rfl⟩
   have hwz : IntKind.i64.wrap z = z := by rw [IntKind.wrap_i64]; omega
   have HP := Lib.hid (And.intro hp2 hp3)
   have HZ := Lib.hid (show I64 z by unfold I64; omega)
   obtain ⟨q, hq⟩ : ∃ q, l.length = q := ⟨_, rfl⟩
   have HQ := Lib.hid hq
   rw [hq] at hl1 hp1 HL ⊢
   rw [hz]
   have hz2 := hz
   clear hT hP hp2 hp3 hf ho hv hu h hq X1 X2 hss hkk hnn h0 h1 hz
   go_enter Try.func71, Try.ntmps71
   go_upto_region 1 with fail
   (try rw [HE.out.1, HE.out.2])
   obtain ⟨x0, x1, x2, x3, _⟩ := HB2.out.2.1.four
   go_wp2_with fail
   go_loopw [7] (fun v wr => ∃ i : Nat, i ≤ P ∧ v = .int .i64 i ∧ Hid (Below w2.heap.size w2 wr)) (fun v _ => P + 1 - (RowKit.intOf v).toNat)
   case atStart => exact ⟨0, Nat.zero_le _, rfl, Lib.hid (Below.refl _ _)⟩
   case round =>
    obtain ⟨i, hi, rfl, HB⟩ := hrel
    have hiq : (i : Int) < q := by omega
    obtain ⟨y, hy⟩ : ∃ y, l[i]? = some y := ⟨_, List.getElem?_eq_getElem (by rw [HQ.out]; omega)⟩
    obtain ⟨gb, go, rfl, _, c0⟩ := HL.out.get hy
    have c0 := cell_later HB.out (cell_later HB2.out.1 c0)
    have x1 := (HB2.out.2.1.ext HB.out).cells 1 _ rfl
    clear x0 x2 x3
    by_cases hiP : i = P
    ·subst hiP
     obtain rfl : n = y := by have := HP.out.1; rw [hy] at this; exact (Option.some.inj this).symm
     have hnn2 : (n == n) = true := by simp
     clear hy
     go_wp2_with fail
     go_quiet (fail)
     have HBQ := Lib.hid (belN HB.out nq)
     obtain ⟨r0, r1, r2, r3, rf⟩ := (HB2.out.2.2.1.ext HBQ.out).four
     clear c0 x1
     generalize wr.drewN nq = w6 at *
     go_wp2
     refine bodyPost_ret (v := .agg #[.int .i64 0, .int .i64 z, .string ⟨#[]⟩, .slice none 0 0]) (by rw [results_cell1 rfl]; go_simp) rfl ⟨_, rfl, leaf_tm _ i64_0 HZ.out (by unfold BIG; decide), ?_⟩
     exact Below.set4 (Ext.trans' HB2.out.1 HBQ.out) (by omega) _ _ _ _
    ·have hne : (y == n) = false := by have := HP.out.2 i y (by omega) hy; simpa using this
     clear hy
     go_wp2_with fail
     go_quiet (fail)
     have HBQ := Lib.hid (belN HB.out nq)
     go_wp2
     go_roundw
     case rel => exact ⟨i + 1, by omega, by go_num, HBQ⟩
     case measure => simp [RowKit.intOf]; omega
  ·have hk0' : (k == 0) = false := by simpa using hk0
   have hT : subT (renV l first) (.mk k n s ts) = .mk k n s (subL (renV l first) ts) := sub_not _ hk0 _ _ _
   rw [hT]
   obtain ⟨m, hm⟩ : ∃ m, ts.length = m := ⟨_, rfl⟩
   by_cases hm0 : m = 0
   ·subst hm0
    obtain rfl : ts = [] := List.eq_nil_of_length_eq_zero hm
    have HV := Lib.hid (show ∀ w', TmV (hide (under w.heap.size) w') (.mk k n s (subL (renV l first) [])) (.agg #[.int .i64 k, .int .i64 n, .string s, .slice a 0 c]) from fun w' => by rw [subL]; exact tmV_iff.2 ⟨_, rfl, hss, hkk, hnn, a, c, rfl, Nat.zero_le _, by unfold maxLen; omega, by simp, Or.inl rfl⟩)
    obtain ⟨x0, x1, x2, x3, _⟩ := HB2.out.2.1.four
    obtain ⟨r0, r1, r2, r3, rf⟩ := HB2.out.2.2.1.four
    clear hT hm hf ho hv hu h X1 X2 hss hkk hnn h0 h1
    go_enter Try.func71, Try.ntmps71
    go_upto_region 1 with fail
    (try rw [HE.out.1, HE.out.2])
    go_wp2
    refine bodyPost_ret (v := .agg #[.int .i64 k, .int .i64 n, .string s, .slice a 0 c]) (by rw [results_cell1 rfl]; go_simp) rfl ⟨_, rfl, HV.out _, ?_⟩
    first
    | exact Below.set4 (b := w.heap.size + 1) HB2.out.1 (by omega) _ _ _ _
    | exact Ext.trans' (bel1' w _) (bel1' _ _)
   ·have hm1 : ((m : Int) == 0) = false := beq_false_of_ne (by omega)
    obtain ⟨rfl, rfl, hm8'⟩ : k = 2 ∧ n = 0 ∧ ts.length ≤ 8 := formed_args hf (fun e => hm0 (by rw [← hm, e]; rfl))
    have hm8 : m ≤ 8 := by omega
    rw [formedT, Bool.and_eq_true] at hf
    rw [occ_not hk0] at ho
    have IH := Lib.hid (fun (y : Tm) (hy : y ∈ ts) => rename_at M y (mem_size h hy) l first (formed_mem hf.2 hy) (fun i hi => ho i (mem_occL.2 ⟨y, hy, hi⟩)) h0 h1)
    have HU := Lib.hid hu
    have HM := Lib.hid hm
    have HYB := Lib.hid hss
    obtain ⟨Ts, hTs⟩ : ∃ Ts, subL (renV l first) ts = Ts := ⟨_, rfl⟩
    have HTS := Lib.hid (And.intro hTs (show Ts.length = m by rw [← hTs, subL_len, hm]))
    rw [hTs]
    obtain ⟨q, hq⟩ : ∃ q, l.length = q := ⟨_, rfl⟩
    rw [hm] at hb1 hb3 hu HU X1 HB2 HE ⊢
    rw [hq] at hl1 HL ⊢
    have hz2 := HB2.out.2.2.2
    obtain ⟨w7, e7⟩ : ∃ w7, w2.alloc (.cells (madeCells #[.int .i64 0, .int .i64 0, .string ⟨#[]⟩, .slice none 0 0] (m * 4)) 54) = w7 := ⟨_, rfl⟩
    obtain ⟨lb, hlb⟩ : ∃ lb, w2.heap.size = lb := ⟨_, rfl⟩
    have HMK := make_terms m hm8 w2
    rw [e7, hlb] at HMK
    have hL0 : Lay w7 lb m [] := hlb ▸ e7 ▸ lay_new w2 m _
    have hb7 : Below w2.heap.size w2 w7 := e7 ▸ bel1' w2 _
    have hlbw : lb = w.heap.size + 1 + 1 := by omega
    have HI7 := Lib.hid (show RenI Ts w lb m [.int .i64 2, .int .i64 0, .string s, .slice a m c] 0 w7 from
     ⟨[], rfl, by simp, hL0, fun p hp => (by cases hp), Ext.trans' HB2.out.1 hb7, HB2.out.2.1.ext hb7, HB2.out.2.2.1.ext hb7⟩)
    have HLB := Lib.hid hlbw
    obtain ⟨x0, x1, x2, x3, _⟩ := HB2.out.2.1.four
    clear hL0 hb7 e7 hlb hT hm hf ho hv hu h X1 X2 hss hkk hnn h0 h1 hTs hq hm8' hz2 hlbw
    go_enter Try.func71, Try.ntmps71
    go_upto_region 1 with fail
    (try rw [HE.out.1, HE.out.2])
    go_upto_region 11 with fail
    clear x0 x1 x2 x3 HMK hm1
    go_wp2_with fail
    go_loopw [9] (fun z wr => ∃ j : Nat, j ≤ m ∧ z = .int .i64 j ∧ Hid (RenI Ts w lb m [.int .i64 2, .int .i64 0, .string s, .slice a m c] j wr)) (fun z _ => m - (RowKit.intOf z).toNat)
    case atStart => exact ⟨0, Nat.zero_le _, rfl, HI7⟩
    case round =>
     obtain ⟨j, hj, rfl, HP⟩ := hrel
     obtain ⟨ps, hpl, hpm, hLy, hpT, hbw, hx5, hx8⟩ := HP.out
     obtain ⟨y0, y1, y2, y3, yf⟩ := hx5.four
     have hl3 : w.heap.size + 1 < lb := by have := HLB.out; omega
     by_cases hjm : j < m
     ·obtain ⟨y, hy⟩ : ∃ u, ts[j]? = some u := ⟨_, List.getElem?_eq_getElem (by rw [HM.out]; exact hjm)⟩
      obtain ⟨gb, go, ku, nu, su, vu, rfl, _, _, _, _, d0, d1, d2, d3, _, htu⟩ := HU.out.get hy
      have g0 := cell_later hbw d0
      have g1 := cell_later hbw d1
      have g2 := cell_later hbw d2
      have g3 := cell_later hbw d3
      have hTj : Ts[j]? = some (subT (renV l first) y) := by rw [← HTS.out.1]; exact sizes_map_drop hy
      obtain ⟨U, hUU⟩ : ∃ U, subT (renV l first) y = U := ⟨_, rfl⟩
      rw [hUU] at hTj
      have HC := Lib.hid (fun (wq : World) (hb : Below wr.heap.size wr wq) => IH.out y (List.mem_of_getElem? hy) wq _ _ (TmV.ext (Ext.trans' hbw hb) _ _ htu) (HL.out.ext (Ext.trans' hbw hb)))
      rw [hUU] at HC
      have hjm2 : (j : Int) < m := by omega
      obtain ⟨r0, r1, r2, r3⟩ := hLy.rest j (by omega) hjm
      have rfz := hLy.fz
      have HPS := Lib.hid (And.intro hpl (And.intro hpm (And.intro hLy (And.intro hpT (And.intro hbw (And.intro hx5 (And.intro hx8 hTj)))))))
      clear hpl hpm hLy hpT hbw hx5 hx8 hTj hy htu d0 d1 d2 d3 hUU HP y0 y1 y2 yf
      have C := HC.out wr (Below.refl _ _)
      (go_wp2_with fail; go_fit (C); rintro e w8 ⟨v8, rfl, hTU, b8⟩)
      obtain ⟨k5, n5, s5, a5, l5, c5, rfl, _, _, _, hpv⟩ := four_of hTU
      have hpc : pCells (U, .slice a5 l5 c5) = [.int .i64 k5, .int .i64 n5, .string s5, .slice a5 l5 c5] := by
       have := hpv
       simp only [pVal, Value.agg.injEq] at this
       have h2 := congrArg Array.toList this
       exact h2.symm
      have HN := Lib.hid (show RenI Ts w lb m [.int .i64 2, .int .i64 0, .string s, .slice (some ⟨gb, go, none⟩) m c] (j + 1) (setAt w8 lb (j * 4) (.int .i64 k5) (.int .i64 n5) (.string s5) (.slice a5 l5 c5)) from by
       obtain ⟨hpl, hpm, hLy, hpT, hbw, hx5, hx8, hTj⟩ := HPS.out
       have hd : under (lb + 1) lb = true := by simp
       have hstay : ∀ t v, TmV (hide (under (lb + 1)) w8) t v → TmV (hide (under (lb + 1)) (setAt w8 lb (j * 4) (.int .i64 k5) (.int .i64 n5) (.string s5) (.slice a5 l5 c5))) t v := fun t v ht =>
        TmV.stay (((((Stays.set (D := under (lb + 1)) ⟨lb, j * 4, none⟩ _ hd).trans (Stays.set ⟨lb, j * 4 + 1, none⟩ _ hd)).trans (Stays.set ⟨lb, j * 4 + 2, none⟩ _ hd)).trans (Stays.set ⟨lb, j * 4 + 3, none⟩ _ hd))) _ _ ht
       have hlbl := hLy.lt
       have hLp := (hLy.later b8).put (by rw [hpl]; exact hjm) hpc
       rw [hpl] at hLp
       have hb8 := Ext.trans' hbw b8
       refine ⟨ps ++ [(U, .slice a5 l5 c5)], by rw [List.length_append, hpl]; rfl, by rw [List.map_append, hpm, take_next hTj]; rfl, hLp, fun p hp => hstay _ _ ?_, (((hb8.setCell (p := ⟨lb, j * 4, none⟩) (by show w.heap.size ≤ lb; omega) _).setCell (p := ⟨lb, j * 4 + 1, none⟩) (by show w.heap.size ≤ lb; omega) _).setCell (p := ⟨lb, j * 4 + 2, none⟩) (by show w.heap.size ≤ lb; omega) _).setCell (p := ⟨lb, j * 4 + 3, none⟩) (by show w.heap.size ≤ lb; omega) _, ((((hx5.ext b8).far (by omega)).far (by omega)).far (by omega)).far (by omega), ((((hx8.ext b8).far (by omega)).far (by omega)).far (by omega)).far (by omega)⟩
       rcases List.mem_append.1 hp with hp | hp
       ·exact TmV.stay (Stays.hide b8.size fun k hk hd => ⟨hd, b8.block k hk⟩) _ _ (hpT p hp)
       ·rw [List.mem_singleton] at hp
        subst hp
        rw [← hpv]
        exact TmV.stay (Stays.less fun k hk => by simp at hk ⊢; omega) _ _ hTU)
      have hjl : ps.length = j := HPS.out.1
      obtain ⟨r0, r1, r2, r3⟩ := ((HPS.out.2.2.1).later b8).rest j (by omega) hjm
      have rfz := ((HPS.out.2.2.1).later b8).fz
      clear hjl C b8 hTU hpv hpc g0 g1 g2 g3 y3
      go_wp2
      go_roundw
      case rel => exact ⟨j + 1, by omega, by go_num, HN⟩
      case measure => simp [RowKit.intOf]; omega
     ·have hjm2 : j = m := by omega
      subst hjm2
      have HE9 := Lib.hid HP.out
      clear hpl hpm hLy hpT hbw hx5 HP
      have HR9 := rcomp_at wr s (some ⟨lb, 0, none⟩) j j
      (go_wp2_with fail; go_fit (HR9); rintro e w9 ⟨rfl, b9⟩)
      obtain ⟨r0, r1, r2, r3, rf⟩ := (hx8.ext b9).four
      have HB9 := Lib.hid b9
      have HFA := Lib.hid (show TmV (hide (under w.heap.size) (set4 w9 (w.heap.size + 1) (.int .i64 2) (.int .i64 0) (.string s) (.slice (some ⟨lb, 0, none⟩) j j))) (.mk 2 0 s Ts) (.agg #[.int .i64 2, .int .i64 0, .string s, .slice (some ⟨lb, 0, none⟩) j j]) ∧ Below w.heap.size w (set4 w9 (w.heap.size + 1) (.int .i64 2) (.int .i64 0) (.string s) (.slice (some ⟨lb, 0, none⟩) j j)) from by
       obtain ⟨ps, hpl, hpm, hLy, hpT, hbw, hx5, hx8⟩ := HE9.out
       have htk : Ts.take j = Ts := List.take_of_length_le (by rw [HTS.out.2]; exact Nat.le_refl _)
       rw [htk] at hpm
       refine ⟨?_, Below.set4 (b := w.heap.size + 1) (Ext.trans' hbw HB9.out) (by omega) _ _ _ _⟩
       refine tmV_iff.2 ⟨_, rfl, HYB.out, i64_2, i64_0, ?_⟩
       have hlf : under lb lb = false := by simp
       have h1 := (hLy.later HB9.out).out (D := under lb) hpl hlf (fun p hp => TmV.stay (Stays.less fun k hk => by simp at hk ⊢; omega) _ _ (TmV.stay (Stays.hide (D := under (lb + 1)) (D' := under (lb + 1)) HB9.out.size fun k hk hd => ⟨hd, HB9.out.block k hk⟩) _ _ (hpT p hp))) (by unfold BIG; omega)
       rw [hpm] at h1
       have hd1 : under lb (w.heap.size + 1) = true := by simp; omega
       have h2 := h1.stay ((((Stays.set (D := under lb) ⟨w.heap.size + 1, 0, none⟩ (.int .i64 2) hd1).trans (Stays.set ⟨w.heap.size + 1, 1, none⟩ (.int .i64 0) hd1)).trans (Stays.set ⟨w.heap.size + 1, 2, none⟩ (.string s) hd1)).trans (Stays.set ⟨w.heap.size + 1, 3, none⟩ (.slice (some ⟨lb, 0, none⟩) j j) hd1))
       exact h2.stay (Stays.less fun k hk => by simp at hk ⊢; omega))
      clear b9 y0 y1 y2 y3 yf hx8
      go_wp2
      refine bodyPost_ret (v := .agg #[.int .i64 2, .int .i64 0, .string s, .slice (some ⟨lb, 0, none⟩) j j]) (by rw [results_cell1 rfl]; go_simp) rfl ⟨_, rfl, HFA.out.1, HFA.out.2⟩
end Go.Proofs.Ytchbbaehdcmcfaa
/- The document's side of chapter 13: From, Alike, walked. -/
namespace Go.Proofs.Ytchbbaehdcmcfaa
open Go.RowKit
set_option linter.unusedVariables false
def fromB (first : Int) (x : Tm) : Tm × Int × Int := if goodT x = true then (renT first x, first + ((varsT x []).length : Int), 0) else (varV 0, 0, 1)
theorem results_cell3' {fn : Func} {p u v : Tmp} {ty : TypeId} (h : fn.results = #[.cell p ty, .tmp u, .tmp v]) (tmps : Array Value) (P : Program) (w : World) :
  (results fn tmps).run P w =
   ((asAddr (tmps.getD p undef)).run P w).andThen fun a w₁ => ((loadVar ty a).run P w₁).andThen fun x w₂ => .ok (.tuple #[x, tmps.getD u undef, tmps.getD v undef]) w₂ := by
 simp only [results, h]
 simp [Sem.run_bind, Result.andThen]
mutual
theorem xvars_len : ∀ (t : Tm) (l : List Int), (varsT t l).length ≤ l.length + sizeN t
 | .mk k n s ts, l => by
  rw [varsT, sizeN]
  by_cases hk : k = 0
  ·rw [if_pos hk]
   split
   ·omega
   ·simp
  ·rw [if_neg hk]
   have := xvarss_len ts l
   omega
theorem xvarss_len : ∀ (ts : List Tm) (l : List Int), (varsL ts l).length ≤ l.length + sizesN ts
 | [], l => by rw [varsL, sizesN]; omega
 | x :: r, l => by
  rw [varsL, sizesN]
  have h1 := xvars_len x l
  have h2 := xvarss_len r (varsT x l)
  omega
end
set_option maxHeartbeats 8000000 in
set_option maxRecDepth 100000 in
theorem From_at (x : Tm) (first : Int) (h0 : 0 ≤ first) (h1 : first ≤ 1000000000) (w : World) (v : Value) (hv : TmV w x v) :
  Calls Try.prog 34 #[v, .int .i64 first] w fun e w' => ∃ r, e = .returned (.tuple #[r, .int .i64 (fromB first x).2.1, .int .i64 (fromB first x).2.2]) ∧ TmV (hide (under w.heap.size) w') (fromB first x).1 r ∧ Below w.heap.size w w' := by
 obtain ⟨k, n, s, a, m, c, rfl⟩ := hv.full
 obtain ⟨w1, e1, B1, z1, X1⟩ := box_new w #[.int .i64 k, .int .i64 n, .string s, .slice a m c] 54
 obtain ⟨w2, e2, B2, z2, X2⟩ := box_new w1 #[.int .i64 0, .int .i64 0, .string ⟨#[]⟩, .slice none 0 0] 54
 have X1 := X1.ext B2
 have B12 := Ext.trans' B1 B2
 rw [z1] at X2 z2
 have HE := Lib.hid (And.intro e1 e2)
 have HB2 := Lib.hid (And.intro B12 (And.intro X1 (And.intro X2 z2)))
 have HV := Lib.hid (fun (wq : World) (hb : Below w.heap.size w wq) => TmV.ext hb _ _ hv)
 have hfi : ¬ (first < 0) := by omega
 have hfi2 : decide (first < 0) = false := by simp; omega
 have hfi3 : decide ((2147483648 : Int) ≤ first) = false := by simp; omega
 have hfi4 : ¬ ((2147483648 : Int) ≤ first) := by omega
 obtain ⟨x0, x1, x2, x3, _⟩ := X1.four
 have C := rgood_at x w2 _ (HV.out _ B12)
 clear B1 B2 z1 e1 e2 B12 X1 X2 hv
 cases hg : goodT x
 ·have hr : fromB first x = (varV 0, 0, 1) := by unfold fromB; rw [hg]; rfl
  rw [hr]
  rw [hg] at C
  clear hr hg
  go_enter Try.func34, Try.ntmps34
  go_upto_region 1 with fail
  (try rw [HE.out.1, HE.out.2])
  (go_wp2_with fail; go_fit (C); rintro e w3 ⟨rfl, b3⟩)
  have HB3 := Lib.hid (Ext.trans' HB2.out.1 b3)
  obtain ⟨r0, r1, r2, r3, rf⟩ := (HB2.out.2.2.1.ext b3).four
  clear b3
  go_wp2
  refine bodyPost_ret (v := .tuple #[.agg #[.int .i64 0, .int .i64 0, .string ⟨#[]⟩, .slice none 0 0], .int .i64 0, .int .i64 1]) (by rw [results_cell3' rfl]; go_simp) rfl ⟨_, rfl, leaf_tm _ i64_0 i64_0 (by unfold BIG; decide), ?_⟩
  exact Below.set4 (b := w.heap.size + 1) HB3.out (by omega) _ _ _ _
 ·have hlen := xvars_len x []
  have hsz := (good_parts hg).1
  obtain ⟨L, hL⟩ : ∃ L, (varsT x []).length = L := ⟨_, rfl⟩
  have hr : fromB first x = (renT first x, first + (L : Int), 0) := by unfold fromB; rw [hg, hL]; rfl
  rw [hr]
  rw [hg] at C
  have hLb : L ≤ 2000 := by simp at hlen; omega
  obtain ⟨z, hz⟩ : ∃ z, first + (L : Int) = z := ⟨_, rfl⟩
  have hwz : IntKind.i64.wrap z = z := by rw [IntKind.wrap_i64]; omega
  have hz2 : ¬ ((2147483648 : Int) < z) := by omega
  have HVR := Lib.hid (fun (wq : World) (hb : Below w.heap.size w wq) => rVars_at x wq _ (HV.out _ hb))
  rw [hg, if_pos rfl] at HVR
  have HRN := Lib.hid (fun (wq : World) (hb : Below w.heap.size w wq) (lv : Value) (hl : Nums wq lv (varsT x [])) => rename_at _ x (Nat.le_refl _) (varsT x []) first (good_parts hg).2.2 (fun i hi => (mem_vars2 x []).2 (Or.inr hi)) h0 (by rw [hL]; omega) wq _ lv (HV.out _ hb) hl)
  have HL := Lib.hid hL
  rw [hz]
  have HT := Lib.hid (show subT (renV (varsT x []) first) x = renT first x from rfl)
  clear hr hg hlen hsz hL
  go_enter Try.func34, Try.ntmps34
  go_upto_region 1 with fail
  (try rw [HE.out.1, HE.out.2])
  (go_wp2_with fail; go_fit (C); rintro e w3 ⟨rfl, b3⟩)
  have HB3 := Lib.hid (Ext.trans' HB2.out.1 b3)
  have HX3 := Lib.hid (And.intro (HB2.out.2.1.ext b3) (HB2.out.2.2.1.ext b3))
  clear b3 C x0 x1 x2 x3
  obtain ⟨x0, x1, x2, x3, _⟩ := HX3.out.1.four
  have C := HVR.out w3 HB3.out
  (go_wp2_with fail; go_fit (C); rintro e w4 ⟨rv, rfl, hnv, b4⟩)
  obtain ⟨ra, rc, rfl, hrc1, hrc2⟩ := hnv.len
  rw [HL.out] at hrc1 ⊢
  unfold maxLen at hrc2
  have HB4 := Lib.hid (Ext.trans' HB3.out b4)
  have HX4 := Lib.hid (And.intro (HX3.out.1.ext b4) (HX3.out.2.ext b4))
  have HNV := Lib.hid hnv
  clear b4 C x0 x1 x2 x3 hnv
  obtain ⟨x0, x1, x2, x3, _⟩ := HX4.out.1.four
  have C := HRN.out w4 HB4.out _ HNV.out
  rw [HL.out] at C
  (go_wp2_with fail; go_fit (C); rintro e w5 ⟨v5, rfl, ht5, b5⟩)
  obtain ⟨k5, n5, s5, a5, l5, c5, rfl, f1, f2, f3, f4⟩ := four_of ht5
  have HB5 := Lib.hid (Ext.trans' HB4.out b5)
  obtain ⟨r0, r1, r2, r3, rf⟩ := (HX4.out.2.ext b5).four
  have HFA := Lib.hid (show TmV (hide (under w.heap.size) (set4 w5 (w.heap.size + 1) (.int .i64 k5) (.int .i64 n5) (.string s5) (.slice a5 l5 c5))) (renT first x) (.agg #[.int .i64 k5, .int .i64 n5, .string s5, .slice a5 l5 c5]) from by
   have hz := HB2.out.2.2.2
   have hsz4 : w.heap.size + 1 < w4.heap.size := HX4.out.2.lt
   have hd : under w4.heap.size (w.heap.size + 1) = true := by simp; omega
   have hle := HB4.out.size
   exact TmV.stay (Stays.less fun k hk => by simp at hk ⊢; omega) _ _ (TmV.stay ((((Stays.set (D := under w4.heap.size) ⟨w.heap.size + 1, 0, none⟩ (.int .i64 k5) hd).trans (Stays.set ⟨w.heap.size + 1, 1, none⟩ (.int .i64 n5) hd)).trans (Stays.set ⟨w.heap.size + 1, 2, none⟩ (.string s5) hd)).trans (Stays.set ⟨w.heap.size + 1, 3, none⟩ (.slice a5 l5 c5) hd)) _ _ ht5))
  clear b5 C x0 x1 x2 x3 ht5 f1 f2 f3 f4
  go_wp2
  refine bodyPost_ret (v := .tuple #[.agg #[.int .i64 k5, .int .i64 n5, .string s5, .slice a5 l5 c5], .int .i64 z, .int .i64 0]) (by rw [results_cell3' rfl]; go_simp) rfl ⟨_, rfl, HFA.out, ?_⟩
  exact Below.set4 (b := w.heap.size + 1) HB5.out (by omega) _ _ _ _
set_option maxHeartbeats 8000000 in
set_option maxRecDepth 100000 in
theorem Alike_yes (x y : Tm) (hx : goodT x = true) (hy : goodT y = true) (hr : renT 0 x = renT 0 y) (w : World) (vx vy : Value) (hvx : TmV w x vx) (hvy : TmV w y vy) :
  Calls Try.prog 28 #[vx, vy] w fun e w' => e = .returned (.bool true) ∧ Below w.heap.size w w' := by
 obtain ⟨k, n, s, a, m, c, rfl⟩ := hvx.full
 obtain ⟨k', n', s', a', m', c', rfl⟩ := hvy.full
 obtain ⟨w1, e1, B1, z1, X1⟩ := box_new w #[.int .i64 k, .int .i64 n, .string s, .slice a m c] 54
 obtain ⟨w2, e2, B2, z2, X2⟩ := box_new w1 #[.int .i64 k', .int .i64 n', .string s', .slice a' m' c'] 54
 have X1 := X1.ext B2
 have B12 := Ext.trans' B1 B2
 rw [z1] at X2 z2
 obtain ⟨x0, x1, x2, x3, _⟩ := X1.four
 have HE := Lib.hid (And.intro e1 e2)
 have HB2 := Lib.hid (And.intro B12 (And.intro X1 X2))
 have HVY := Lib.hid (fun (wq : World) (hb : Below w.heap.size w wq) => TmV.ext hb _ _ hvy)
 have C := From_at x 0 (by omega) (by omega) w2 _ (TmV.ext B12 _ _ hvx)
 have hfx : fromB 0 x = (renT 0 x, 0 + ((varsT x []).length : Int), 0) := by unfold fromB; rw [hx]; rfl
 have hfy : fromB 0 y = (renT 0 x, 0 + ((varsT y []).length : Int), 0) := by unfold fromB; rw [hy, hr]; rfl
 rw [hfx] at C
 have HFY := Lib.hid (fun (wq : World) (hb : Below w.heap.size w wq) => From_at y 0 (by omega) (by omega) wq _ (HVY.out _ hb))
 rw [hfy] at HFY
 obtain ⟨T, hT⟩ : ∃ T, renT 0 x = T := ⟨_, rfl⟩
 rw [hT] at C HFY
 obtain ⟨zx, hzx⟩ : ∃ z, 0 + ((varsT x []).length : Int) = z := ⟨_, rfl⟩
 obtain ⟨zy, hzy⟩ : ∃ z, 0 + ((varsT y []).length : Int) = z := ⟨_, rfl⟩
 rw [hzx] at C
 rw [hzy] at HFY
 clear B1 B2 z1 e1 e2 B12 X1 X2 hvx hvy hfx hfy hr hT hzx hzy hx hy z2
 go_enter Try.func28, Try.ntmps28
 go_upto_region 1 with fail
 (try rw [HE.out.1, HE.out.2])
 (go_wp2_with fail; go_fit (C); rintro e w3 ⟨r, rfl, ht, b3⟩)
 obtain ⟨k3, n3, s3, a3, m3, c3, rfl, f1, f2, f3, f4⟩ := four_of ht
 obtain ⟨w4, e4, b4, z4, x4⟩ := box_new w3 #[.int .i64 k3, .int .i64 n3, .string s3, .slice a3 m3 c3] 54
 have HB4 := Lib.hid (Ext.trans' HB2.out.1 (Ext.trans' b3 b4))
 have HX4 := Lib.hid (And.intro (HB2.out.2.2.ext (Ext.trans' b3 b4)) x4)
 have HT4 := Lib.hid (TmV.ext b4 _ _ ht.bare)
 have HE4 := Lib.hid e4
 clear f1 f2 f3 f4 ht b3 b4 z4 x4 e4 C x0 x1 x2 x3
 obtain ⟨x0, x1, x2, x3, _⟩ := HX4.out.1.four
 have C := HFY.out w4 HB4.out
 go_upto_region 2 with fail
 (try rw [HE4.out])
 (go_wp2_with fail; go_fit (C); rintro e w5 ⟨r, rfl, ht, b5⟩)
 obtain ⟨k5, n5, s5, a5, m5, c5, rfl, f1, f2, f3, f4⟩ := four_of ht
 obtain ⟨w6, e6, b6, z6, x6⟩ := box_new w5 #[.int .i64 k5, .int .i64 n5, .string s5, .slice a5 m5 c5] 54
 have HB6 := Lib.hid (Ext.trans' HB4.out (Ext.trans' b5 b6))
 have HX6 := Lib.hid (And.intro (HX4.out.2.ext (Ext.trans' b5 b6)) x6)
 have HT6 := Lib.hid (And.intro (TmV.ext (Ext.trans' b5 b6) _ _ HT4.out) (TmV.ext b6 _ _ ht.bare))
 have HE6 := Lib.hid e6
 clear f1 f2 f3 f4 ht b5 b6 z6 x6 e6 C x0 x1 x2 x3
 obtain ⟨x0, x1, x2, x3, _⟩ := HX6.out.1.four
 obtain ⟨y0, y1, y2, y3, _⟩ := HX6.out.2.four
 have C := rsame_at _ T (Nat.le_refl _) T w6 _ _ HT6.out.1 HT6.out.2
 rw [same_self] at C
 go_upto_region 3 with fail
 (try rw [HE6.out])
 (go_wp2_with fail; go_fit (C); rintro e w7 ⟨rfl, b7⟩)
 have HB7 := Lib.hid (Ext.trans' HB6.out b7)
 clear b7
 go_wp2
 go_ret
 exact ⟨rfl, HB7.out⟩
end Go.Proofs.Ytchbbaehdcmcfaa
/- Stage 12's laws: UnifyMakes. -/
namespace Go.Proofs.Ytchbbaehdcmcfaa
open Go.RowKit
set_option linter.unusedVariables false
theorem IsB.old {W V w : World} {F : List Nat} {p : Value} {N : Nat} {R : List (Int × Tm)} (hF : ∀ k ∈ F, W.heap.size ≤ k) (hb : Below W.heap.size W w) : Stays W (hide (awayB F) w) := by
 refine ⟨by rw [hide_size]; exact hb.size, fun a v hv => ?_⟩
 have hl := World.block_lt_of_cell? _ _ hv
 have n1 : ¬ a.block ∈ F := fun hm => by have := hF _ hm; omega
 rw [hide_cell _ _ _ (by simp [awayB, n1])]
 exact cell_later hb hv
end Go.Proofs.Ytchbbaehdcmcfaa
/- Package code: what Good's check holds; slot, first, take, named. -/
namespace Go.Proofs.Ytchbbaehdcmcfaa
open Go.RowKit
set_option linter.unusedVariables false
def insCells (x : InsM) : List Value := [.string x.op, .int .i64 x.a, .int .i64 x.b, .int .i64 x.c, .int .i64 x.n, .string x.s]
def insVal (x : InsM) : Value := .agg #[.string x.op, .int .i64 x.a, .int .i64 x.b, .int .i64 x.c, .int .i64 x.n, .string x.s]
structure InsIn (x : InsM) : Prop where
 a : I64 x.a
 b : I64 x.b
 c : I64 x.c
 n : I64 x.n
 s : x.s.size ≤ BIG
theorem insCells_len (x : InsM) : (insCells x).length = 6 := rfl
theorem eq_ins (op op' s s' : ByteArray) (a b c n a' b' c' n' : Int) (w : World) :
  (Op.equalIn 10000 36 (.agg #[.string op, .int .i64 a, .int .i64 b, .int .i64 c, .int .i64 n, .string s]) (.agg #[.string op', .int .i64 a', .int .i64 b', .int .i64 c', .int .i64 n', .string s'])).run Try.prog w =
   .ok ((op.toList == op'.toList) && ((a == a') && ((b == b') && ((c == c') && ((n == n') && (s.toList == s'.toList)))))) w := by
 have u1 := Try.underlying3
 have a1 := Try.isAgg3
 have z1 := Try.sizeOf3
 have u2 := Try.underlying2
 have a2 := Try.isAgg2
 have z2 := Try.sizeOf2
 have u9 := Try.underlying9
 have a9 := Try.isAgg9
 have z9 := Try.sizeOf9
 have hS : Try.prog.underlying 36 = some (.struct (Try.prog.fieldsOf 36)) := by kernel_rfl
 have hp : Try.prog.stoodInHeld 36 = false := by kernel_rfl
 rw [show (10000 : Nat) = 9999 + 1 from rfl, run_equalIn_agg w 9999 36 _ _ hS hp]
 simp only [Program.fieldsOf, Try.underlying36]
 go_simp
 by_cases h1 : op.toList = op'.toList
 ·by_cases h2 : a = a'
  ·by_cases h3 : b = b'
   ·by_cases h4 : c = c'
    ·by_cases h5 : n = n'
     ·by_cases h6 : s.toList = s'.toList <;> simp [h1, h2, h3, h4, h5, h6]
     ·simp [h1, h2, h3, h4, h5]
    ·simp [h1, h2, h3, h4]
   ·simp [h1, h2, h3]
  ·simp [h1, h2]
 ·simp [h1]
structure CkS (w : World) (kb rb sl next : Nat) (seen : List Int) : Prop where
 box : Box w kb [.int .i64 next, .int .i64 (seen.length : Nat), .slice (some ⟨rb, 0, none⟩) sl sl]
 row : ∀ j : Nat, j < sl → w.cell? ⟨rb, j, none⟩ = some (.bool (seen.contains (j : Int)))
 fz : ∀ j, w.frozen? ⟨rb, j, none⟩ = false
 ne : kb ≠ rb
 lt : rb < w.heap.size
 rng : ∀ v ∈ seen, 0 ≤ v ∧ v < (sl : Int)
 small : sl ≤ 2000 ∧ next ≤ 100000 ∧ seen.length ≤ 100000
section
variable {w : World} {kb rb sl next : Nat} {seen : List Int}
theorem Box.three {w : World} {b : Nat} {v0 v1 v2 : Value} (h : Box w b [v0, v1, v2]) : w.cell? ⟨b, 0, none⟩ = some v0 ∧ w.cell? ⟨b, 1, none⟩ = some v1 ∧ w.cell? ⟨b, 2, none⟩ = some v2 ∧ ∀ j, w.frozen? ⟨b, j, none⟩ = false :=
 ⟨h.cells 0 _ rfl, h.cells 1 _ rfl, h.cells 2 _ rfl, h.fz⟩
theorem CkS.ext {w' : World} (h : CkS w kb rb sl next seen) (hb : Below w.heap.size w w') : CkS w' kb rb sl next seen :=
 ⟨h.box.ext hb, fun j hj => cell_later hb (h.row j hj), fun j => (hb.frozen (p := ⟨rb, j, none⟩) h.lt).trans (h.fz j), h.ne, Nat.lt_of_lt_of_le h.lt hb.size, h.rng, h.small⟩
theorem slot_at (h : CkS w kb rb sl next seen) {b : Int} (hb : I64 b) : Calls Try.prog 90 #[.pointer (some ⟨kb, 0, none⟩), .int .i64 b] w fun e w' => e = .returned (.bool (decide (0 ≤ b) && decide (b < (sl : Int)))) ∧ w = w' := by
 obtain ⟨c0, c1, c2, _⟩ := h.box.three
 have hs := h.small.1
 unfold I64 at hb
 clear h
 by_cases g0 : 0 ≤ b
 ·by_cases g1 : b < (sl : Int)
  ·have hr : (decide (0 ≤ b) && decide (b < (sl : Int))) = true := by simp [g0, g1]
   rw [hr]
   go_enter Try.func90, Try.ntmps90
   go_wp2
   go_ret
   exact ⟨rfl, rfl⟩
  ·have hr : (decide (0 ≤ b) && decide (b < (sl : Int))) = false := by simp [g1]
   have g1' : decide (b < (sl : Int)) = false := by simpa using g1
   rw [hr]
   go_enter Try.func90, Try.ntmps90
   go_wp2
   go_ret
   exact ⟨rfl, rfl⟩
 ·have hr : (decide (0 ≤ b) && decide (b < (sl : Int))) = false := by simp [g0]
  rw [hr]
  go_enter Try.func90, Try.ntmps90
  go_wp2
  go_ret
  exact ⟨rfl, rfl⟩
theorem take_at (h : CkS w kb rb sl next seen) (hn : next ≤ 50000) {b : Int} (hb : I64 b) : Calls Try.prog 92 #[.pointer (some ⟨kb, 0, none⟩), .int .i64 b] w fun e w' => e = .returned (.bool (decide (1 ≤ b) && decide (b ≤ 8))) ∧ Touch [kb] w w' ∧ ((decide (1 ≤ b) && decide (b ≤ 8)) = true → CkS w' kb rb sl (next + b.toNat) seen) := by
 have H := Lib.hid h
 obtain ⟨c0, c1, c2, cf⟩ := h.box.three
 clear h
 have HB := Lib.hid hb
 unfold I64 at hb
 by_cases g0 : 1 ≤ b
 ·by_cases g1 : b ≤ 8
  ·have hr : (decide (1 ≤ b) && decide (b ≤ 8)) = true := by simp [g0, g1]
   rw [hr]
   obtain ⟨z, hz⟩ : ∃ z, next + b.toNat = z := ⟨_, rfl⟩
   have hw : IntKind.i64.wrap ((next : Int) + b) = ((z : Nat) : Int) := by rw [IntKind.wrap_i64]; omega
   have HZ := Lib.hid hz
   have hz2 : z ≤ 100000 := by omega
   rw [hz]
   clear hz hb hr
   go_enter Try.func92, Try.ntmps92
   go_wp2
   go_ret
   refine ⟨rfl, touch_one _ _ _ _, fun _ => ?_⟩
   have hx := H.out
   exact ⟨hx.box.set (k := 0) (u := .int .i64 (z : Nat)) (by simp), fun j hj => by rw [World.cell?_setCell_other]; exact hx.row j hj; intro e; injection e with e; exact hx.ne e, fun j => by rw [World.frozen?_setCell]; exact hx.fz j, hx.ne, by have := hx.lt; simpa [World.setCell] using this, hx.rng, hx.small.1, hz2, hx.small.2.2⟩
  ·have hr : (decide (1 ≤ b) && decide (b ≤ 8)) = false := by simp [g1]
   have g1' : decide (b ≤ 8) = false := by simpa using g1
   rw [hr]
   clear hb hr
   go_enter Try.func92, Try.ntmps92
   go_wp2
   go_ret
   first | exact ⟨rfl, touch_one _ _ _ _, fun e => by cases e⟩ | exact ⟨rfl, touch_one _ _ _ _⟩
 ·have hr : (decide (1 ≤ b) && decide (b ≤ 8)) = false := by simp [g0]
  have g0' : decide (1 ≤ b) = false := by simpa using g0
  rw [hr]
  clear hb hr
  go_enter Try.func92, Try.ntmps92
  go_wp2
  go_ret
  first | exact ⟨rfl, touch_one _ _ _ _, fun e => by cases e⟩ | exact ⟨rfl, touch_one _ _ _ _⟩
theorem named_at (x : InsM) (hs : x.s.size ≤ BIG) (w : World) : Calls Try.prog 91 #[insVal x] w fun e w' => e = .returned (.bool (nmOk x.s)) ∧ Below w.heap.size w w' := by
 obtain ⟨op, a, b, c, n, s⟩ := x
 obtain ⟨w1, e1, B1, z1, X1⟩ := box_new w #[.string op, .int .i64 a, .int .i64 b, .int .i64 c, .int .i64 n, .string s] 36
 have x5 := X1.cells 5 _ rfl
 have HB := Lib.hid B1
 have HE := Lib.hid e1
 have HS := Lib.hid hs
 unfold insVal
 clear B1 z1 e1 X1 hs
 rw [← nm_good]
 go_enter Try.func91, Try.ntmps91
 go_upto_region 1 with fail
 (try rw [HE.out])
 (go_wp2_with fail; go_fit (atom_at _ s); rintro e w2 ⟨rfl, b2⟩)
 have C := Good_at (atomT s) w2 _ (leaf_tm w2 i64_2 i64_0 HS.out)
 have HB2 := Lib.hid (Ext.trans' HB.out b2)
 clear b2 x5
 (go_wp2_with fail; go_fit (C); rintro e w3 ⟨rfl, b3⟩)
 have HB3 := Lib.hid (Ext.trans' HB2.out b3)
 clear b3 C
 go_wp2
 go_ret
 exact ⟨rfl, HB3.out⟩
end
end Go.Proofs.Ytchbbaehdcmcfaa
/- Package code: Good's check of a step. -/
namespace Go.Proofs.Ytchbbaehdcmcfaa
open Go.RowKit
set_option linter.unusedVariables false
section
variable {w : World} {kb rb sl next : Nat} {seen : List Int}
theorem contains_app (l : List Int) (v u : Int) : (l ++ [v]).contains u = (l.contains u || u == v) := by
 rw [Bool.eq_iff_iff]
 simp
def firstB (sl : Nat) (seen : List Int) (b : Int) : Bool := decide (0 ≤ b) && decide (b < (sl : Int)) && !seen.contains b
theorem first_at (h : CkS w kb rb sl next seen) (hl : seen.length ≤ 50000) {b : Int} (hb : I64 b) : Calls Try.prog 89 #[.pointer (some ⟨kb, 0, none⟩), .int .i64 b] w fun e w' => e = .returned (.bool (firstB sl seen b)) ∧ Touch [kb, rb] w w' ∧ (firstB sl seen b = true → CkS w' kb rb sl next (seen ++ [b])) := by
 have H := Lib.hid h
 have C := slot_at h hb
 obtain ⟨c0, c1, c2, cf⟩ := h.box.three
 by_cases g : 0 ≤ b ∧ b < (sl : Int)
 ·obtain ⟨j, rfl⟩ : ∃ j : Nat, b = (j : Int) := ⟨b.toNat, by omega⟩
  have g1 : j < sl := by omega
  have hr1 : (decide (0 ≤ (j : Int)) && decide ((j : Int) < (sl : Int))) = true := by simp [g1]
  rw [hr1] at C
  have hrow := h.row j g1
  have hfz := h.fz j
  have hs := h.small.1
  have hne := h.ne
  have hFB : firstB sl seen (j : Int) = !seen.contains (j : Int) := by unfold firstB; rw [hr1, Bool.true_and]
  rw [hFB]
  obtain ⟨z, hz⟩ : ∃ z, seen.contains (j : Int) = z := ⟨_, rfl⟩
  rw [hz] at hrow ⊢
  have HZ := Lib.hid hz
  clear h hr1 hFB hz g hb
  cases z
  ·have hw : IntKind.i64.wrap (((seen.length : Nat) : Int) + 1) = ((seen ++ [(j : Int)]).length : Nat) := by rw [IntKind.wrap_i64, List.length_append]; simp; omega
   obtain ⟨n2, hn2⟩ : ∃ n2 : Nat, (seen ++ [(j : Int)]).length = n2 := ⟨_, rfl⟩
   have HN := Lib.hid hn2
   rw [hn2] at hw
   obtain ⟨n1, hn1⟩ : ∃ n1 : Nat, seen.length = n1 := ⟨_, rfl⟩
   have HN1 := Lib.hid hn1
   rw [hn1] at hw c1 hl
   clear hn2 hn1
   have d0 : (w.setCell ⟨rb, j, none⟩ (.bool true)).cell? ⟨kb, 0, none⟩ = some (.int .i64 next) := by rw [World.cell?_setCell_other]; exact c0; intro e; injection e with e; exact hne e.symm
   have d1 : (w.setCell ⟨rb, j, none⟩ (.bool true)).cell? ⟨kb, 1, none⟩ = some (.int .i64 (n1 : Nat)) := by rw [World.cell?_setCell_other]; exact c1; intro e; injection e with e; exact hne e.symm
   have d2 : (w.setCell ⟨rb, j, none⟩ (.bool true)).cell? ⟨kb, 2, none⟩ = some (.slice (some ⟨rb, 0, none⟩) sl sl) := by rw [World.cell?_setCell_other]; exact c2; intro e; injection e with e; exact hne e.symm
   have HL := Lib.hid hl
   clear hl
   go_enter Try.func89, Try.ntmps89
   (go_wp2_with fail; go_fit (C); rintro e w' ⟨rfl, rfl⟩)
   go_wp2
   go_ret
   have hx := H.out
   refine ⟨rfl, (touch_one w rb j _).sub (by simp) |>.trans ((touch_one _ kb 1 _).sub (F' := [kb, rb]) (by simp)) (fun k hk => Or.inl hk), ?_⟩
   have hbx : Box (w.setCell ⟨rb, j, none⟩ (.bool true)) kb _ := hx.box.far hx.ne
   have hbx2 := hbx.set (k := 1) (u := .int .i64 (n2 : Nat)) (by simp)
   rw [← HN.out] at hbx2 ⊢
   refine fun _ => ⟨hbx2, fun i hi => ?_, fun i => by rw [World.frozen?_setCell, World.frozen?_setCell]; exact hx.fz i, hx.ne, by have := hx.lt; simpa [World.setCell] using this, fun v hv => ?_, hx.small.1, hx.small.2.1, by rw [List.length_append, HN1.out]; have := HL.out; simp; omega⟩
   ·rw [World.cell?_setCell_other _ _ _ _ (by intro e; injection e with e; exact hx.ne e), contains_app]
    by_cases hij : i = j
    ·subst hij
     rw [show (((i : Nat) : Int) == ((i : Nat) : Int)) = true by simp, Bool.or_true]
     exact css hrow
    ·rw [World.cell?_setCell_other _ _ _ _ (by intro e; injection e with _ e; exact hij e.symm), show (((i : Nat) : Int) == ((j : Nat) : Int)) = false by simp; omega, Bool.or_false]
     exact hx.row i hi
   ·rcases List.mem_append.1 hv with hv | hv
    ·exact hx.rng v hv
    ·simp at hv; omega
  ·go_enter Try.func89, Try.ntmps89
   (go_wp2_with fail; go_fit (C); rintro e w' ⟨rfl, rfl⟩)
   go_wp2
   go_ret
   first | exact ⟨rfl, Touch.refl' _ _, fun e => by cases e⟩ | exact ⟨rfl, Touch.refl' _ _⟩ | exact Touch.refl' _ _
 ·have hr1 : (decide (0 ≤ b) && decide (b < (sl : Int))) = false := by
   rw [Bool.eq_false_iff]
   intro e
   simp only [Bool.and_eq_true, decide_eq_true_eq] at e
   exact g e
  have hFB : firstB sl seen b = false := by unfold firstB; rw [hr1, Bool.false_and]
  rw [hr1] at C
  rw [hFB]
  clear h hr1 hFB
  go_enter Try.func89, Try.ntmps89
  (go_wp2_with fail; go_fit (C); rintro e w' ⟨rfl, rfl⟩)
  go_wp2
  go_ret
  first | exact ⟨rfl, Touch.refl' _ _, fun e => by cases e⟩ | exact ⟨rfl, Touch.refl' _ _⟩ | exact Touch.refl' _ _
end
end Go.Proofs.Ytchbbaehdcmcfaa
/- Package code: Good's check of a step: step. -/
namespace Go.Proofs.Ytchbbaehdcmcfaa
open Go.RowKit
set_option linter.unusedVariables false
def StepP (w : World) (kb rb sl next : Nat) (seen : List Int) (x : InsM) (e : Ending) (w' : World) : Prop :=
 e = .returned (.bool (partK sl next seen x)) ∧ Touch [kb, rb] w w' ∧ (partK sl next seen x = true → CkS w' kb rb sl (nextI next x) (metI seen x))
theorem StepP.no {w w' : World} {kb rb sl next : Nat} {seen : List Int} {x : InsM} (h : partK sl next seen x = false) (ht : Touch [kb, rb] w w') : StepP w kb rb sl next seen x (.returned (.bool false)) w' :=
 ⟨by rw [h], ht, fun e => by rw [h] at e; cases e⟩
theorem op_ne {a b : ByteArray} (h : ¬ a = b) : (a.toList == b.toList) = false := by
 rw [Lib.toList_data, Lib.toList_data]
 exact beq_false_of_ne fun e => h (bytes_eq e)
theorem noS_list (s : ByteArray) : (s.toList == (⟨#[]⟩ : ByteArray).toList) = noS s := by
 rw [Lib.toList_data, Lib.toList_data]
 unfold noS
 cases s.data.toList <;> rfl
section
variable {w : World} {kb rb sl next : Nat} {seen : List Int}
theorem step_out (h : CkS w kb rb sl next seen) (x : InsM) (hx : InsIn x) (ha : ¬ x.a < (next : Int)) : Calls Try.prog 57 #[.pointer (some ⟨kb, 0, none⟩), insVal x] w (StepP w kb rb sl next seen x) := by
 have hP : partK sl next seen x = false := by unfold partK; simp [ha]
 obtain ⟨op, a, b, c, n, s⟩ := x
 obtain ⟨w1, e1, B1, z1, X1⟩ := box_new w #[.string op, .int .i64 a, .int .i64 b, .int .i64 c, .int .i64 n, .string s] 36
 obtain ⟨c0, c1, c2, cf⟩ := (h.ext B1).box.three
 have x1 := X1.cells 1 _ rfl
 have HB := Lib.hid B1
 have HE := Lib.hid e1
 have HP := Lib.hid hP
 have ha' : (next : Int) ≤ a := by
  have : ¬ a < (next : Int) := ha
  omega
 unfold insVal
 clear h B1 z1 X1 e1 hP ha
 go_enter Try.func57, Try.ntmps57
 go_upto_region 1 with fail
 (try rw [HE.out])
 go_wp2_with fail
 go_quiet (fail)
 go_wp2
 go_ret
 exact StepP.no HP.out (Touch.of_below (Ext.trans' HB.out (bel_drewN (Below.refl _ _) _)) _)
theorem step_var (h : CkS w kb rb sl next seen) (hl : seen.length ≤ 50000) (x : InsM) (hx : InsIn x) (ha : x.a < (next : Int)) (hop : x.op = opVar) : Calls Try.prog 57 #[.pointer (some ⟨kb, 0, none⟩), insVal x] w (StepP w kb rb sl next seen x) := by
 obtain ⟨op, a, b, c, n, s⟩ := x
 obtain rfl : op = opVar := hop
 have ha : a < (next : Int) := ha
 have hP : partK sl next seen ⟨opVar, a, b, c, n, s⟩ = ((c == 0 && (n == 0 && noS s)) && firstB sl seen b) := by
  unfold partK partI firstB
  rw [if_pos rfl, decide_eq_true ha, Bool.true_and]
  simp only [Bool.and_assoc]
  generalize decide (0 ≤ b) = p1
  generalize decide (b < (sl : Int)) = p2
  generalize (!seen.contains b) = p3
  generalize (c == 0) = p4
  generalize (n == 0) = p5
  generalize noS s = p6
  cases p1 <;> cases p2 <;> cases p3 <;> cases p4 <;> cases p5 <;> cases p6 <;> rfl
 obtain ⟨w1, e1, B1, z1, X1⟩ := box_new w #[.string opVar, .int .i64 a, .int .i64 b, .int .i64 c, .int .i64 n, .string s] 36
 have H1 := h.ext B1
 obtain ⟨c0, c1, c2, cf⟩ := H1.box.three
 have x0 := X1.cells 0 _ rfl
 have x1 := X1.cells 1 _ rfl
 have x2 := X1.cells 2 _ rfl
 have x3 := X1.cells 3 _ rfl
 have x4 := X1.cells 4 _ rfl
 have x5 := X1.cells 5 _ rfl
 have HB := Lib.hid B1
 have HE := Lib.hid e1
 have HP := Lib.hid hP
 have HX := Lib.hid hx
 have HH := Lib.hid h
 have C := fun (wq : World) (hb : Below w1.heap.size w1 wq) => first_at (H1.ext hb) hl (b := b) HX.out.b
 have HC := Lib.hid C
 have heq : ∀ wq, (Op.equalIn 10000 36 (.agg #[.string opVar, .int .i64 a, .int .i64 b, .int .i64 c, .int .i64 n, .string s]) (.agg #[.string opVar, .int .i64 a, .int .i64 b, .int .i64 0, .int .i64 0, .string ⟨#[]⟩])).run Try.prog wq = .ok (c == 0 && (n == 0 && noS s)) wq := fun wq => by
  rw [eq_ins, noS_list]
  simp
 obtain ⟨z, hz⟩ : ∃ z, (c == 0 && (n == 0 && noS s)) = z := ⟨_, rfl⟩
 rw [hz] at heq hP
 have HZ := Lib.hid hz
 have HPZ := Lib.hid hP
 unfold insVal
 clear h B1 z1 X1 e1 hP hz hx H1 C
 unfold opVar at heq x0 HE ⊢
 go_enter Try.func57, Try.ntmps57
 go_upto_region 1 with fail
 (try rw [HE.out])
 go_wp2_with fail
 go_quiet (fail)
 cases z
 ·go_wp2
  go_ret
  exact StepP.no (HPZ.out.trans rfl) (Touch.of_below (Ext.trans' HB.out (bel_drewN (Below.refl _ _) _)) _)
 ·(go_wp2_with fail; go_fit (HC.out _ (bel_drewN (Below.refl _ _) _)); rintro e w' ⟨rfl, t2, k2⟩)
  have HT := Lib.hid (And.intro t2 k2)
  clear t2 k2
  go_wp2
  go_ret
  have hq : partK sl next seen ⟨opVar, a, b, c, n, s⟩ = firstB sl seen b := HPZ.out.trans (Bool.true_and _)
  refine ⟨congrArg (fun v => Ending.returned (.bool v)) hq.symm, ?_, fun e => ?_⟩
  ·exact ((Touch.of_below (Ext.trans' HB.out (bel_drewN (Below.refl _ _) _)) _).trans HT.out.1 (fun k hk => Or.inl hk))
  ·exact HT.out.2 (hq.symm.trans e)
end
end Go.Proofs.Ytchbbaehdcmcfaa
