import Derived.Test.YtbbbgijlbcmpbaaHjuam
import Derived.Test.YtbbbgijlbcmpbaaHjuae
set_option linter.unusedVariables false
set_option linter.unusedSimpArgs false
/- Package unify: apart. -/
namespace Go.Proofs.Ytbbbgijlbcmpbaa
open Go.RowKit Go.Maps
set_option linter.unusedVariables false

theorem Lay.block {w w' : World} {lb m : Nat} {ps : List TmP} (h : Lay w lb m ps) (hb : w'.heap[lb]? = w.heap[lb]?) (hlt : lb < w'.heap.size) : Lay w' lb m ps where
  done := fun i p hp j u hu => by rw [World.cell?_of_block hb]; exact h.done i p hp j u hu
  rest := fun i h1 h2 => by
    obtain ⟨a, b, c, d⟩ := h.rest i h1 h2
    exact ⟨by rw [World.cell?_of_block hb]; exact a, by rw [World.cell?_of_block hb]; exact b, by rw [World.cell?_of_block hb]; exact c, by rw [World.cell?_of_block hb]; exact d⟩
  fz := fun j => by rw [World.frozen?_of_block hb]; exact h.fz j
  lt := hlt
theorem Lay.touch {F : List Nat} {w w' : World} {lb m : Nat} {ps : List TmP} (h : Lay w lb m ps) (t : Touch F w w') (hn : ¬ lb ∈ F) : Lay w' lb m ps := h.block (t.block lb h.lt hn) (Nat.lt_of_lt_of_le h.lt t.size)
theorem infoTermP : (Try.prog.info? 31).map (fun i => (i.zero, i.size, i.bytes)) = some (some (.agg #[.int .i64 0, .int .i64 0, .string ⟨#[]⟩, .slice none 0 0]), 4, 56) := by kernel_rfl
theorem make_termsP (m : Nat) (hm : m ≤ 8) (w : World) : (Instr.makeSlice 29 (.int .i64 m) (.int .i64 m)).run Try.prog w = .ok (.slice (some ⟨w.heap.size, 0, none⟩) m m) (w.alloc (.cells (madeCells #[.int .i64 0, .int .i64 0, .string ⟨#[]⟩, .slice none 0 0] (m * 4)) 31)) := by
  obtain ⟨i0, hi0, hz0, hs0, hb0⟩ := info_parts infoTermP
  have h := run_makeSlice (P := Try.prog) w 29 31 i0 _ Try.underlying29 hi0 hz0 .i64 .i64 m m (by omega) (by omega) (by rw [hs0]; omega) (by rw [hb0]; omega) (by omega)
  rw [hs0] at h
  simp only [Int.toNat_natCast] at h
  exact h
theorem vars_take {ts : List Tm} {j : Nat} {y : Tm} (hy : ts[j]? = some y) (l : List Int) : varsL (ts.take (j + 1)) l = varsT y (varsL (ts.take j) l) := by rw [take_next hy, avarss_app, varsL, varsL]
theorem vars_takep (ts : List Tm) (j : Nat) (l : List Int) : varsL (ts.take j) l <+: varsL ts l := by
  have h := avarss_app (ts.take j) (ts.drop j) l
  rw [List.take_append_drop] at h
  rw [h]
  exact avarss_pre _ _
theorem touch_setAt (w : World) (b o : Nat) (u0 u1 u2 u3 : Value) : Touch [b] w (setAt w b o u0 u1 u2 u3) :=
  (((touch_one w b o u0).trans (touch_one _ b (o + 1) u1) (fun k hk => Or.inl hk)).trans (touch_one _ b (o + 2) u2) (fun k hk => Or.inl hk)).trans (touch_one _ b (o + 3) u3) (fun k hk => Or.inl hk)
/-- What holds as the Args are gone through. -/
def ApI (V w : World) (F : List Nat) (p : Value) (N0 mb : Nat) (ts Ts : List Tm) (l : List Int) (lb m : Nat) (vs : List Value) (j : Nat) (wr : World) : Prop :=
  ∃ (F' : List Nat) (ps : List TmP), IsB V F' wr p (N0 + (varsL (ts.take j) l).length) [] ∧ NamedM wr mb N0 (varsL (ts.take j) l) ∧ ps.length = j ∧ ps.map (·.1) = Ts.take j ∧ Lay wr lb m ps ∧ (∀ q ∈ ps, TmV (hide (newU F' (lb + 1)) wr) q.1 (pVal q)) ∧ Touch (mb :: F) w wr ∧ (∀ k ∈ F', k ∈ F ∨ lb < k) ∧
    Box wr w.heap.size vs ∧ Box wr (w.heap.size + 1) [.int .i64 0, .int .i64 0, .string ⟨#[]⟩, .slice none 0 0]
set_option maxHeartbeats 8000000 in
set_option maxRecDepth 100000 in
theorem apart_at (V : World) : ∀ (M : Nat) (x : Tm), sizeN x ≤ M → formedT x = true → ∀ (L l : List Int), varsT x l <+: L → ∀ (N0 : Nat), N0 + L.length ≤ 65536 → ∀ (w : World) (F : List Nat) (p : Value) (mb : Nat) (v : Value),
    IsB V F w p (N0 + l.length) [] → NamedM w mb N0 l → ¬ mb ∈ F → Blind V [mb] → TmV V x v → Calls Try.prog 83 #[p, v, .map (some mb)] w (ApartP V F w p N0 mb L (varsT x l) x)
  | 0, x, h, _, L, l, _, N0, _, w, F, p, mb, v, _, _, _, _, hv => by have := size_pos x; omega
  | M + 1, .mk k n s ts, h, hf, L, l, hpre, N0, hL, w, F, p, mb, v, hB, hm, hmF, hmV, hv => by
    by_cases hk0 : k = 0
    · subst hk0
      exact apart_var hpre hL hB hm hmF hmV hv
    · obtain ⟨u, rfl, hss, hkk, hnn, hu⟩ := tmV_iff.1 hv
      obtain ⟨a, c, rfl, hb1, hb2, hb3⟩ := hu.len
      unfold maxLen at hb2
      obtain ⟨w1, e1, B1, z1, X1⟩ := box_new w #[.int .i64 k, .int .i64 n, .string s, .slice a ts.length c] 31
      obtain ⟨w2, e2, B2, z2, X2⟩ := box_new w1 #[.int .i64 0, .int .i64 0, .string ⟨#[]⟩, .slice none 0 0] 31
      have X1 := X1.ext B2
      have B12 := Ext.trans' B1 B2
      rw [z1] at X2 z2
      have HE := Lib.hid (And.intro e1 e2)
      have HB2 := Lib.hid (And.intro B12 (And.intro X1 (And.intro X2 z2)))
      have HI := Lib.hid (And.intro hB (And.intro hm (And.intro hmF hmV)))
      have hmlt := hm.lt
      have hk0' : (k != 0) = true := by simpa using hk0
      have hT : subT (renV L N0) (.mk k n s ts) = .mk k n s (subL (renV L N0) ts) := sub_not _ hk0 _ _ _
      have hvt : varsT (.mk k n s ts) l = varsL ts l := by rw [varsT, if_neg hk0]
      rw [hvt] at hpre ⊢
      unfold ApartP
      rw [hT]
      have hm8' : ts.length ≤ 8 := by
        by_cases hne : ts = []
        · simp [hne]
        · exact (formed_args hf hne).2.2
      rw [formedT, Bool.and_eq_true] at hf
      have IH := Lib.hid (fun (y : Tm) (hy : y ∈ ts) => apart_at V M y (mem_size h hy) (formed_mem hf.2 hy) L)
      have HU := Lib.hid hu
      obtain ⟨m, hm0⟩ : ∃ m, ts.length = m := ⟨_, rfl⟩
      have HM := Lib.hid hm0
      have HYB := Lib.hid (And.intro hss (And.intro hkk hnn))
      have HPR := Lib.hid (And.intro hpre hL)
      obtain ⟨Ts, hTs⟩ : ∃ Ts, subL (renV L N0) ts = Ts := ⟨_, rfl⟩
      have HTS := Lib.hid (And.intro hTs (show Ts.length = m by rw [← hTs, subL_len, hm0]))
      rw [hTs]
      rw [hm0] at hb1 hb3 hu HU X1 HB2 HE hm8' ⊢
      obtain ⟨w7, e7⟩ : ∃ w7, w2.alloc (.cells (madeCells #[.int .i64 0, .int .i64 0, .string ⟨#[]⟩, .slice none 0 0] (m * 4)) 31) = w7 := ⟨_, rfl⟩
      obtain ⟨lb, hlb⟩ : ∃ lb, w2.heap.size = lb := ⟨_, rfl⟩
      have HMK := make_termsP m hm8' w2
      rw [e7, hlb] at HMK
      have hL0 : Lay w7 lb m [] := hlb ▸ e7 ▸ lay_new w2 m _
      have hb7 : Below w2.heap.size w2 w7 := e7 ▸ bel1' w2 _
      have hlbw : w.heap.size + 1 < lb := by omega
      have hb27 := Ext.trans' HB2.out.1 hb7
      have HI7 := Lib.hid (show ApI V w F p N0 mb ts Ts l lb m [.int .i64 k, .int .i64 n, .string s, .slice a m c] 0 w7 from
        ⟨F, [], by rw [List.take_zero, varsL]; exact hB.ext hb27, by rw [List.take_zero, varsL]; exact hm.ext hb27, rfl, by simp, hL0, fun q hq => (by cases hq), Touch.of_below hb27 _, fun k hk => Or.inl hk, HB2.out.2.1.ext hb7, HB2.out.2.2.1.ext hb7⟩)
      obtain ⟨x0, x1, x2, x3, _⟩ := HB2.out.2.1.four
      have HLW := Lib.hid hlbw
      clear hL0 hb7 e7 hlb hT hm0 hf hv hu h X1 X2 hss hkk hnn hTs z2 hb27 hpre hvt hB hm hmF hmV B1 B2 z1 e1 e2 B12 hL hk0
      go_enter Try.func83, Try.ntmps83
      go_upto_region 1 with fail
      (try rw [HE.out.1, HE.out.2])
      go_upto_region 3 with fail
      clear x0 x1 x2 x3 HMK hk0'
      obtain ⟨x0, x1, x2, x3, _⟩ : w7.cell? ⟨w.heap.size, 0, none⟩ = some (.int .i64 k) ∧ w7.cell? ⟨w.heap.size, 1, none⟩ = some (.int .i64 n) ∧ w7.cell? ⟨w.heap.size, 2, none⟩ = some (.string s) ∧ w7.cell? ⟨w.heap.size, 3, none⟩ = some (.slice a m c) ∧ True := by
        obtain ⟨_, _, _, _, _, _, _, _, _, _, hx, _⟩ := HI7.out
        obtain ⟨q0, q1, q2, q3, _⟩ := hx.four
        exact ⟨q0, q1, q2, q3, trivial⟩
      go_wp2_with fail
      clear x0 x1 x2 x3
      go_loopw [8, 9, 22] (fun _ _ z wr => ∃ j : Nat, j ≤ m ∧ z = .int .i64 j ∧ Hid (ApI V w F p N0 mb ts Ts l lb m [.int .i64 k, .int .i64 n, .string s, .slice a m c] j wr)) (fun _ _ z _ => m - (intOf z).toNat)
      case atStart => exact ⟨0, Nat.zero_le _, rfl, HI7⟩
      case round =>
        obtain ⟨j, hj, rfl, HP⟩ := hrel
        by_cases hjm : j < m
        · have hjm2 : (j : Int) < m := by omega
          obtain ⟨y, hy⟩ : ∃ y, ts[j]? = some y := ⟨_, List.getElem?_eq_getElem (by rw [HM.out]; exact hjm)⟩
          obtain ⟨F', ps, hib, hnm, hpl, hpm, hLy, hpT, htc, hF', hx5, hx8⟩ := HP.out
          obtain ⟨gb, go, ku, nu, su, vu, rfl, _, _, _, _, d0, d1, d2, d3, hvu, htu⟩ := HU.out.get hy
          obtain ⟨a5, m5, c5, rfl⟩ : ∃ a5 m5 c5, vu = .slice a5 m5 c5 := by obtain ⟨a5, c5, e, _⟩ := hvu.len; exact ⟨_, _, _, e⟩
          have hst := hib.see.1
          have g0 := hst.2 _ _ d0
          have g1 := hst.2 _ _ d1
          have g2 := hst.2 _ _ d2
          have g3 := hst.2 _ _ d3
          obtain ⟨w5, e5, b5, z5, x5⟩ := box_new wr #[.int .i64 ku, .int .i64 nu, .string su, .slice a5 m5 c5] 31
          obtain ⟨y0, y1, y2, y3, _⟩ := x5.four
          have hvj := vars_take hy l
          have hpj : varsT y (varsL (ts.take j) l) <+: L := by rw [← hvj]; exact (vars_takep ts (j + 1) l).trans HPR.out.1
          have hmF' : ¬ mb ∈ F' := fun hm => (hF' mb hm).elim HI.out.2.2.1 (fun h => by omega)
          have C := IH.out y (List.mem_of_getElem? hy) _ hpj N0 HPR.out.2 w5 F' p mb _ (hib.ext b5) (hnm.ext b5) hmF' HI.out.2.2.2 htu
          have hTj : Ts[j]? = some (subT (renV L N0) y) := by rw [← HTS.out.1]; exact sizes_map_drop hy
          rw [← hvj] at C
          obtain ⟨U, hUU⟩ : ∃ U, subT (renV L N0) y = U := ⟨_, rfl⟩
          unfold ApartP at C
          rw [hUU] at hTj C
          have HPS := Lib.hid (And.intro hib (And.intro hpl (And.intro hpm (And.intro hLy (And.intro hpT (And.intro htc (And.intro hF' (And.intro hx5 (And.intro hx8 (And.intro hTj (And.intro b5 hmF')))))))))))
          have HE5 := Lib.hid e5
          clear hib hnm hpl hpm hLy hpT htc hx5 hx8 hTj b5 z5 x5 e5 hy d0 d1 d2 d3 hvu htu hst hvj hpj hUU HP hmF' hF'
          go_upto_region 6 with fail
          (try rw [HE5.out])
          (go_wp2_with fail; go_fit (C); rintro e w8 ⟨F8, v8, rfl, i8, m8, hT8, t8, in8⟩)
          obtain ⟨k6, n6, s6, a6, l6, c6, rfl, _, _, _, hpv⟩ := four_of hT8
          have hpc : pCells (U, .slice a6 l6 c6) = [.int .i64 k6, .int .i64 n6, .string s6, .slice a6 l6 c6] := by
            have := hpv
            simp only [pVal, Value.agg.injEq] at this
            have h2 := congrArg Array.toList this
            exact h2.symm
          obtain ⟨hib, hpl, hpm, hLy, hpT, htc, hF', hx5, hx8, hTj, b5, hmF'⟩ := HPS.out
          have hlt := hLy.lt
          have hb5s := b5.size
          have hFw : ∀ k ∈ F, k < w.heap.size := HI.out.1.lt
          have hnF' : ∀ q, w.heap.size ≤ q → q ≤ lb → ¬ q ∈ (mb :: F') := fun q h1 h2 hm => by
            rcases List.mem_cons.1 hm with e | hm
            · omega
            · exact (hF' q hm).elim (fun h => by have := hFw q h; omega) (fun h => by omega)
          have hLy8 : Lay w8 lb m ps := (hLy.later b5).touch t8 (hnF' lb (by omega) (Nat.le_refl _))
          have hx58 := t8.box (hnF' w.heap.size (Nat.le_refl _) (by omega)) (hx5.ext b5)
          have hx88 := t8.box (hnF' (w.heap.size + 1) (by omega) (by omega)) (hx8.ext b5)
          obtain ⟨r0, r1, r2, r3⟩ := hLy8.rest j (by rw [hpl]; exact Nat.le_refl _) hjm
          have rfz := hLy8.fz
          have HN := Lib.hid (show ApI V w F p N0 mb ts Ts l lb m [.int .i64 k, .int .i64 n, .string s, .slice (some ⟨gb, go, none⟩) m c] (j + 1) (setAt w8 lb (j * 4) (.int .i64 k6) (.int .i64 n6) (.string s6) (.slice a6 l6 c6)) from by
            have hin8 : ∀ q ∈ F8, q ∈ F ∨ lb < q := fun q hq => (in8 q hq).elim (hF' q) (fun h => Or.inr (by omega))
            have hs := touch_setAt w8 lb (j * 4) (.int .i64 k6) (.int .i64 n6) (.string s6) (.slice a6 l6 c6)
            have hLp := hLy8.put (by rw [hpl]; exact hjm) hpc
            rw [hpl] at hLp
            have hd : newU F8 (lb + 1) lb = true := by simp [newU]
            have hstay : ∀ t v, TmV (hide (newU F8 (lb + 1)) w8) t v → TmV (hide (newU F8 (lb + 1)) (setAt w8 lb (j * 4) (.int .i64 k6) (.int .i64 n6) (.string s6) (.slice a6 l6 c6))) t v := fun t v ht =>
              TmV.stay (((((Stays.set (D := newU F8 (lb + 1)) ⟨lb, j * 4, none⟩ _ hd).trans (Stays.set ⟨lb, j * 4 + 1, none⟩ _ hd)).trans (Stays.set ⟨lb, j * 4 + 2, none⟩ _ hd)).trans (Stays.set ⟨lb, j * 4 + 3, none⟩ _ hd))) _ _ ht
            refine ⟨F8, ps ++ [(U, .slice a6 l6 c6)], i8.touch hs (fun q hq hm => by simp at hq; subst hq; exact (hin8 q hm).elim (fun h => by have := hFw q h; omega) (fun h => by omega)) (Blind.new HI.out.1.see.1 (fun q hq => by simp at hq; omega)), m8.touch hs (by simp; omega), by rw [List.length_append, hpl]; rfl, by rw [List.map_append, hpm, take_next hTj]; rfl, hLp, fun q hq => hstay _ _ ?_, ?_, hin8, (((hx58.far (by omega)).far (by omega)).far (by omega)).far (by omega), (((hx88.far (by omega)).far (by omega)).far (by omega)).far (by omega)⟩
            · rcases List.mem_append.1 hq with hq | hq
              · refine TmV.stay (Stays.hide (Nat.le_trans hb5s t8.size) fun q hq hd => ?_) _ _ (hpT _ hq)
                obtain ⟨h1, h2⟩ := newU_false.1 hd
                refine ⟨newU_false.2 ⟨h1, fun hm => (in8 q hm).elim h2 (fun h => by omega)⟩, (t8.block q (by omega) (fun hm => ?_)).trans (b5.block q hq)⟩
                rcases List.mem_cons.1 hm with e | hm
                · omega
                · exact h2 hm
              · rw [List.mem_singleton] at hq
                subst hq
                rw [← hpv]
                exact TmV.stay (Stays.less fun q hq => by obtain ⟨h1, h2⟩ := newU_false.1 hq; exact newU_false.2 ⟨by omega, h2⟩) _ _ hT8
            · have t2 : Touch (mb :: F) w w8 := (htc.trans (Touch.of_below b5 (mb :: F)) (fun q hq => Or.inl hq)).trans t8 (fun q hq => by
                rcases List.mem_cons.1 hq with e | hq
                · exact Or.inl (by simp [e])
                · exact (hF' q hq).elim (fun h => Or.inl (List.mem_cons_of_mem _ h)) (fun h => Or.inr (by omega)))
              exact t2.trans hs (fun q hq => by simp at hq; exact Or.inr (by omega)))
          clear hib hpl hpm hLy hpT htc hF' hx5 hx8 hTj b5 hmF' hLy8 hx58 hx88 hFw hnF' i8 m8 hT8 t8 in8 hpv hpc C g0 g1 g2 g3 y0 y1 y2 y3
          go_wp2
          go_roundw
          case rel => exact ⟨j + 1, by omega, by go_num, HN⟩
          case measure => simp [intOf]; omega
        · have hjm2 : j = m := by omega
          subst hjm2
          obtain ⟨F', ps, hib, hnm, hpl, hpm, hLy, hpT, htc, hF', hx5, hx8⟩ := HP.out
          obtain ⟨x0, x1, x2, x3, xf⟩ := hx5.four
          have hx8' := hx8.far (c := w.heap.size) (k := 3) (u := .slice (some ⟨lb, 0, none⟩) j j) (by omega)
          obtain ⟨y0, y1, y2, y3, yf⟩ := hx8'.four
          have HEND := Lib.hid HP.out
          clear hib hnm hpl hpm hLy hpT htc hF' hx5 hx8 hx8' HP
          go_wp2
          refine bodyPost_ret (v := .agg #[.int .i64 k, .int .i64 n, .string s, .slice (some ⟨lb, 0, none⟩) j j]) (by rw [results_cell1 rfl]; go_simp) rfl ?_
          clear x0 x1 x2 x3 xf y0 y1 y2 y3 yf
          obtain ⟨F', ps, hib, hnm, hpl, hpm, hLy, hpT, htc, hF', hx5, hx8⟩ := HEND.out
          have htk : ts.take j = ts := List.take_of_length_le (by rw [HM.out]; exact Nat.le_refl _)
          have htk2 : Ts.take j = Ts := List.take_of_length_le (by rw [HTS.out.2]; exact Nat.le_refl _)
          rw [htk] at hib hnm
          rw [htk2] at hpm
          have hFw : ∀ k ∈ F, k < w.heap.size := HI.out.1.lt
          have hs1 := touch_one wr w.heap.size 3 (.slice (some ⟨lb, 0, none⟩) j j)
          have hs2 := touch_set4 (wr.setCell ⟨w.heap.size, 3, none⟩ (.slice (some ⟨lb, 0, none⟩) j j)) (w.heap.size + 1) (.int .i64 k) (.int .i64 n) (.string s) (.slice (some ⟨lb, 0, none⟩) j j)
          have hs := (hs1.sub (F' := [w.heap.size, w.heap.size + 1]) (fun k hk => by simp at hk; simp [hk])).trans (hs2.sub (F' := [w.heap.size, w.heap.size + 1]) (fun k hk => by simp at hk; simp [hk])) (fun k hk => Or.inl hk)
          refine ⟨F', _, rfl, hib.touch hs (fun q hq hm => ?_) (Blind.new HI.out.1.see.1 (fun q hq => by simp at hq; omega)), hnm.touch hs (by simp; omega), ?_, htc.trans hs (fun q hq => by simp at hq; exact Or.inr (by omega)), fun q hq => (hF' q hq).imp id (fun h => by omega)⟩
          · simp at hq
            exact (hF' q hm).elim (fun h => by have := hFw q h; omega) (fun h => by omega)
          · refine tmV_iff.2 ⟨_, rfl, HYB.out.1, HYB.out.2.1, HYB.out.2.2, ?_⟩
            have hlf : newU F' lb lb = false := newU_false.2 ⟨Nat.le_refl _, fun hm => (hF' lb hm).elim (fun h => by have := hFw lb h; omega) (fun h => by omega)⟩
            have h1 := hLy.out (D := newU F' lb) hpl hlf (fun q hq => TmV.stay (Stays.less fun k hk => by obtain ⟨h1, h2⟩ := newU_false.1 hk; exact newU_false.2 ⟨by omega, h2⟩) _ _ (hpT q hq)) (by unfold BIG; omega)
            rw [hpm] at h1
            have hd0 : newU F' lb w.heap.size = true := by unfold newU; simp; omega
            have hd1 : newU F' lb (w.heap.size + 1) = true := by unfold newU; simp; omega
            have h2 := h1.stay (((((Stays.set (D := newU F' lb) ⟨w.heap.size, 3, none⟩ (.slice (some ⟨lb, 0, none⟩) j j) hd0).trans (Stays.set ⟨w.heap.size + 1, 0, none⟩ (.int .i64 k) hd1)).trans (Stays.set ⟨w.heap.size + 1, 1, none⟩ (.int .i64 n) hd1)).trans (Stays.set ⟨w.heap.size + 1, 2, none⟩ (.string s) hd1)).trans (Stays.set ⟨w.heap.size + 1, 3, none⟩ (.slice (some ⟨lb, 0, none⟩) j j) hd1))
            exact h2.stay (Stays.less fun q hq => by obtain ⟨h1, h2⟩ := newU_false.1 hq; exact newU_false.2 ⟨by omega, h2⟩)
end Go.Proofs.Ytbbbgijlbcmpbaa
/- Package unify: what Could carries from call to call. -/
namespace Go.Proofs.Ytbbbgijlbcmpbaa
open Go.RowKit Go.Maps
set_option linter.unusedVariables false

/-- Binds with so many variables beside two boxes and empty maps of names. -/
def CB (w : World) (p : Value) (N : Nat) (xs ys : List Value) (ms : List (Nat × Nat)) (F : List Nat) (wq : World) : Prop :=
  IsB w F wq p N [] ∧ (∀ k ∈ F, w.heap.size + 2 ≤ k) ∧ Below w.heap.size w wq ∧ Box wq w.heap.size xs ∧ Box wq (w.heap.size + 1) ys ∧ ∀ q ∈ ms, NamedM wq q.1 q.2 [] ∧ w.heap.size + 2 ≤ q.1 ∧ ¬ q.1 ∈ F
section
variable {w wq w' : World} {p : Value} {N : Nat} {xs ys : List Value} {ms : List (Nat × Nat)} {F : List Nat}
theorem CB.bel (h : CB w p N xs ys ms F wq) : Below w.heap.size w wq := h.2.2.1
theorem CB.ext (h : CB w p N xs ys ms F wq) (hb : Below wq.heap.size wq w') : CB w p N xs ys ms F w' := by
  obtain ⟨h1, h2, h3, h4, h5, h6⟩ := h
  exact ⟨h1.ext hb, h2, Ext.trans' h3 hb, h4.ext hb, h5.ext hb, fun q hq => ⟨(h6 q hq).1.ext hb, (h6 q hq).2⟩⟩
theorem CB.map (h : CB w p N xs ys ms F wq) (N0 : Nat) (hz : w.heap.size + 2 ≤ wq.heap.size) : CB w p N xs ys ((wq.heap.size, N0) :: ms) F (wq.alloc (.map #[] 0)) := by
  obtain ⟨h1, h2, h3, h4, h5, h6⟩ := h.ext (bel1' wq (.map #[] 0))
  have hlt := h.1.lt
  refine ⟨h1, h2, h3, h4, h5, fun q hq => ?_⟩
  rcases List.mem_cons.1 hq with rfl | hq
  · exact ⟨NamedM.nil wq N0, hz, fun hm => by have := hlt _ hm; simp at this⟩
  · exact h6 q hq
theorem CB.apart {N0 mb : Nat} (h : CB w p N0 xs ys ((mb, N0) :: ms) F wq) (hne : ∀ q ∈ ms, q.1 ≠ mb) {x : Tm} {v : Value} (hx : TmV w x v) (hf : formedT x = true) {K : Nat} (hK : N0 + (varsT x []).length = K) (hK2 : K ≤ 65536) :
    Calls Try.prog 83 #[p, v, .map (some mb)] wq fun e w' => ∃ F' v', e = .returned v' ∧ CB w p K xs ys ms F' w' ∧ TmV (hide (newU F' wq.heap.size) w') (renT N0 x) v' ∧ Touch (mb :: F) wq w' ∧ ∀ k ∈ F', k ∈ F ∨ wq.heap.size ≤ k := by
  obtain ⟨h1, h2, h3, h4, h5, h6⟩ := h
  obtain ⟨hm, hmw, hmF⟩ := h6 (mb, N0) (by simp)
  refine (apart_at w _ x (Nat.le_refl _) hf (varsT x []) [] (List.prefix_refl _) N0 (by omega) wq F p mb v (by simpa using h1) hm hmF (Blind.new (Stays.refl w) (fun k hk => by simp at hk; simp at hmw; omega)) hx).mono ?_
  rintro e w' ⟨F', v', rfl, i, n, t, tt, hin⟩
  rw [hK] at i
  have hq : w.heap.size ≤ wq.heap.size := h3.size
  have hlt5 := h5.lt
  have hF0 : ∀ k ∈ (mb :: F), w.heap.size + 2 ≤ k := fun k hk => by
    rcases List.mem_cons.1 hk with e | hk
    · subst e; exact hmw
    · exact h2 k hk
  refine ⟨F', v', rfl, ⟨i, fun k hk => (hin k hk).elim (h2 k) (fun h => by omega), Below.trans h3 (tt.below hq (fun k hk => by have := hF0 k hk; omega)), tt.box (fun hm => by have := hF0 _ hm; omega) h4, tt.box (fun hm => by have := hF0 _ hm; omega) h5, fun q hq => ?_⟩, t, tt, hin⟩
  obtain ⟨k1, k2, k3⟩ := h6 q (List.mem_cons_of_mem _ hq)
  exact ⟨k1.touch tt (fun hm => by
    rcases List.mem_cons.1 hm with e | hm
    · exact hne q hq e
    · exact k3 hm), k2, fun hm => (hin _ hm).elim k3 (fun h => by have := k1.lt; omega)⟩
/-- A term made apart, later: its blocks are not turned. -/
theorem apart_later {n : Nat} {F F8 : List Nat} {mb : Nat} {w6 w7 w8 : World} {T : Tm} {v : Value} (ht : TmV (hide (newU F n) w6) T v) (hb : Below w6.heap.size w6 w7) (hmb : mb < n ∨ w6.heap.size ≤ mb) (t : Touch (mb :: F) w7 w8) (hin : ∀ k ∈ F8, k ∈ F ∨ w7.heap.size ≤ k) : TmV (hide (awayB F8) w8) T v := by
  refine TmV.stay (Stays.hide (Nat.le_trans hb.size t.size) fun k hk hd => ?_) _ _ ht
  obtain ⟨h1, h2⟩ := newU_false.1 hd
  have hs := hb.size
  refine ⟨by simp only [awayB, decide_eq_false_iff_not]; exact fun hm => (hin k hm).elim h2 (fun h => by omega), (t.block k (by omega) (fun hm => ?_)).trans (hb.block k hk)⟩
  rcases List.mem_cons.1 hm with e | hm
  · omega
  · exact h2 hm
theorem CB.both (h : CB w p N xs ys ms F wq) {x y : Tm} {vx vy : Value} (hx : TmV (hide (awayB F) wq) x vx) (hy : TmV (hide (awayB F) wq) y vy) :
    Calls Try.prog 42 #[p, vx, vy] wq fun e w' => e = .returned (.tuple #[.bool (bothB N [] x y).ok, .int .i64 (bothB N [] x y).cost, .int .i64 (bothB N [] x y).err]) ∧ Below w.heap.size w w' ∧ Box w' w.heap.size xs ∧ Box w' (w.heap.size + 1) ys := by
  refine (Both_at (S := []) h.1.rebase trivial hx hy).mono ?_
  rintro e w' ⟨F', R', rfl, _, _, t, _⟩
  exact ⟨rfl, Below.trans h.bel (t.below h.bel.size (fun k hk => by have := h.2.1 k hk; omega)), t.box (fun hm => by have := h.2.1 _ hm; omega) h.2.2.2.1, t.box (fun hm => by have := h.2.1 _ hm; omega) h.2.2.2.2.1⟩
theorem CB.swap {q1 q2 : Nat × Nat} (h : CB w p N xs ys [q1, q2] F wq) : CB w p N xs ys [q2, q1] F wq :=
  ⟨h.1, h.2.1, h.2.2.1, h.2.2.2.1, h.2.2.2.2.1, fun q hq => h.2.2.2.2.2 q (by simp at hq ⊢; rcases hq with e | e <;> simp [e])⟩
end
end Go.Proofs.Ytbbbgijlbcmpbaa
/- Package unify: Could, walked. -/
namespace Go.Proofs.Ytbbbgijlbcmpbaa
open Go.RowKit Go.Maps
set_option linter.unusedVariables false

set_option maxHeartbeats 8000000 in
set_option maxRecDepth 100000 in
theorem Could_at (x y : Tm) (w : World) (vx vy : Value) (hvx : TmV w x vx) (hvy : TmV w y vy) : Calls Try.prog 44 #[vx, vy] w fun e w' => e = .returned (.bool (couldB x y)) ∧ Below w.heap.size w w' := by
  have hmm := @run_makeMap Try.prog
  obtain ⟨k, n, s, a, m, c, rfl⟩ := hvx.full
  obtain ⟨k', n', s', a', m', c', rfl⟩ := hvy.full
  obtain ⟨w1, e1, B1, z1, X1⟩ := box_new w #[.int .i64 k, .int .i64 n, .string s, .slice a m c] 31
  obtain ⟨w2, e2, B2, z2, X2⟩ := box_new w1 #[.int .i64 k', .int .i64 n', .string s', .slice a' m' c'] 31
  have X1 := X1.ext B2
  have B12 := Ext.trans' B1 B2
  rw [z1] at X2 z2
  obtain ⟨x0, x1, x2, x3, _⟩ := X1.four
  obtain ⟨y0, y1, y2, y3, _⟩ := X2.four
  have HE := Lib.hid (And.intro e1 e2)
  have HB2 := Lib.hid (And.intro B12 (And.intro X1 (And.intro X2 z2)))
  have HV := Lib.hid (And.intro hvx hvy)
  have C := Good_at x w2 _ (TmV.ext B12 _ _ hvx)
  have HGY := Lib.hid (fun (wq : World) (hb : Below w.heap.size w wq) => Good_at y wq _ (TmV.ext hb _ _ hvy))
  clear B1 B2 z1 e1 e2 B12 X1 X2 hvx hvy z2
  cases hgx : goodT x
  · have hr : couldB x y = false := by unfold couldB; rw [hgx]; rfl
    rw [hr]
    rw [hgx] at C
    clear hr hgx hmm
    go_enter Try.func44, Try.ntmps44
    go_upto_region 1 with fail
    (try rw [HE.out.1, HE.out.2])
    (go_wp2_with fail; go_fit (C); rintro e w3 ⟨rfl, b3⟩)
    have HB3 := Lib.hid (Ext.trans' HB2.out.1 b3)
    clear b3 C
    go_wp2
    go_ret
    exact ⟨rfl, HB3.out⟩
  · rw [hgx] at C
    cases hgy : goodT y
    · have hr : couldB x y = false := by unfold couldB; rw [hgx, hgy]; rfl
      rw [hr]
      rw [hgy] at HGY
      clear hr hgx hgy hmm
      go_enter Try.func44, Try.ntmps44
      go_upto_region 1 with fail
      (try rw [HE.out.1, HE.out.2])
      (go_wp2_with fail; go_fit (C); rintro e w3 ⟨rfl, b3⟩)
      have HB3 := Lib.hid (Ext.trans' HB2.out.1 b3)
      obtain ⟨y0, y1, y2, y3, _⟩ := (HB2.out.2.2.1.ext b3).four
      clear b3 C
      have C := HGY.out w3 HB3.out
      (go_wp2_with fail; go_fit (C); rintro e w4 ⟨rfl, b4⟩)
      have HB4 := Lib.hid (Ext.trans' HB3.out b4)
      clear b4 C
      go_wp2
      go_ret
      exact ⟨rfl, HB4.out⟩
    · rw [hgy] at HGY
      obtain ⟨Lx, hlx⟩ : ∃ L, numV x = L := ⟨_, rfl⟩
      obtain ⟨Ly, hly⟩ : ∃ L, numV y = L := ⟨_, rfl⟩
      have hLx := numV_le x
      have hLy := numV_le y
      rw [hlx] at hLx
      rw [hly] at hLy
      have hr : couldB x y = (bothB (Lx + Ly) [] (renT 0 x) (renT Lx y)).ok := by unfold couldB; rw [hgx, hgy, hlx, hly]; rfl
      rw [hr]
      have hvx2 : (varsT x []).length = Lx := by rw [← hlx]; unfold numV; rw [hgx, if_pos rfl]
      have hvy2 : (varsT y []).length = Ly := by rw [← hly]; unfold numV; rw [hgy, if_pos rfl]
      have HL := Lib.hid (And.intro hvx2 (And.intro hvy2 (And.intro (good_parts hgx).2.2 (good_parts hgy).2.2)))
      obtain ⟨BR, hbr⟩ : ∃ B, bothB (Lx + Ly) [] (renT 0 x) (renT Lx y) = B := ⟨_, rfl⟩
      have HBR := Lib.hid hbr
      rw [hbr]
      clear hr hgx hgy hlx hly hvx2 hvy2 hbr
      go_enter Try.func44, Try.ntmps44
      go_upto_region 1 with fail
      (try rw [HE.out.1, HE.out.2])
      (go_wp2_with fail; go_fit (C); rintro e w3 ⟨rfl, b3⟩)
      have HB3 := Lib.hid (Ext.trans' HB2.out.1 b3)
      have HX3 := Lib.hid (And.intro (HB2.out.2.1.ext b3) (HB2.out.2.2.1.ext b3))
      clear b3 C x0 x1 x2 x3 y0 y1 y2 y3
      obtain ⟨y0, y1, y2, y3, _⟩ := HX3.out.2.four
      have C := HGY.out w3 HB3.out
      (go_wp2_with fail; go_fit (C); rintro e w4 ⟨rfl, b4⟩)
      have HB4 := Lib.hid (Ext.trans' HB3.out b4)
      have HX4 := Lib.hid (And.intro (HX3.out.1.ext b4) (HX3.out.2.ext b4))
      clear b4 C y0 y1 y2 y3
      have C := New_at (V := w) ((Stays.refl w).later HB4.out)
      (go_wp2_with fail; go_fit (C); rintro e w5 ⟨p, F, rfl, i5, b5, f5⟩)
      have hz4 : w.heap.size + 2 ≤ w4.heap.size := HX4.out.2.lt
      have H5 := Lib.hid (show CB w p 0 [.int .i64 k, .int .i64 n, .string s, .slice a m c] [.int .i64 k', .int .i64 n', .string s', .slice a' m' c'] [] F w5 from ⟨i5, fun k hk => by have := f5 k hk; omega, Ext.trans' HB4.out b5, HX4.out.1.ext b5, HX4.out.2.ext b5, fun q hq => by cases hq⟩)
      have hz5 : w.heap.size + 2 ≤ w5.heap.size := Nat.le_trans hz4 b5.size
      clear i5 b5 f5 C hz4
      have HCC := Lib.hid (fun (wq : World) (hx : Box wq w.heap.size [.int .i64 k, .int .i64 n, .string s, .slice a m c]) (hy : Box wq (w.heap.size + 1) [.int .i64 k', .int .i64 n', .string s', .slice a' m' c']) => (show (wq.cell? ⟨w.heap.size, 0, none⟩ = some (.int .i64 k) ∧ wq.cell? ⟨w.heap.size, 1, none⟩ = some (.int .i64 n) ∧ wq.cell? ⟨w.heap.size, 2, none⟩ = some (.string s) ∧ wq.cell? ⟨w.heap.size, 3, none⟩ = some (.slice a m c)) ∧ (wq.cell? ⟨w.heap.size + 1, 0, none⟩ = some (.int .i64 k') ∧ wq.cell? ⟨w.heap.size + 1, 1, none⟩ = some (.int .i64 n') ∧ wq.cell? ⟨w.heap.size + 1, 2, none⟩ = some (.string s') ∧ wq.cell? ⟨w.heap.size + 1, 3, none⟩ = some (.slice a' m' c')) from by
        obtain ⟨p0, p1, p2, p3, _⟩ := hx.four
        obtain ⟨q0, q1, q2, q3, _⟩ := hy.four
        exact ⟨⟨p0, p1, p2, p3⟩, q0, q1, q2, q3⟩))
      have HCB := Lib.hid (fun (wq : World) (N : Nat) (ms : List (Nat × Nat)) (G : List Nat) (h : CB w p N [.int .i64 k, .int .i64 n, .string s, .slice a m c] [.int .i64 k', .int .i64 n', .string s', .slice a' m' c'] ms G wq) => HCC.out wq h.2.2.2.1 h.2.2.2.2.1)
      go_upto_region 4 with fail
      refine wp_region_held_drew (S := fun wq => (wq.cell? ⟨w.heap.size, 0, none⟩ = some (.int .i64 k) ∧ wq.cell? ⟨w.heap.size, 1, none⟩ = some (.int .i64 n) ∧ wq.cell? ⟨w.heap.size, 2, none⟩ = some (.string s) ∧ wq.cell? ⟨w.heap.size, 3, none⟩ = some (.slice a m c)) ∧ (wq.cell? ⟨w.heap.size + 1, 0, none⟩ = some (.int .i64 k') ∧ wq.cell? ⟨w.heap.size + 1, 1, none⟩ = some (.int .i64 n') ∧ wq.cell? ⟨w.heap.size + 1, 2, none⟩ = some (.string s') ∧ wq.cell? ⟨w.heap.size + 1, 3, none⟩ = some (.slice a' m' c'))) (by kernel_rfl) (HCB.out _ _ _ _ (H5.out.ext (Below.refl _ _).drew)) (fun hHeld => ?_)
      first | (refine held_t (i := 0) hHeld ?_; apply Exists.intro; refine ⟨fun wq hq => ?_, ?_⟩; (focus ((try dsimp only at hq); go_simp; (first | done | with_reducible rfl | fail)))) | refine held_s (i := 0) hHeld ?_ | fail
      first | (refine held_t (i := 1) hHeld ?_; apply Exists.intro; refine ⟨fun wq hq => ?_, ?_⟩; (focus ((try dsimp only at hq); go_simp; (first | done | with_reducible rfl | fail)))) | refine held_s (i := 1) hHeld ?_ | fail
      first | (refine held_t (i := 2) hHeld ?_; apply Exists.intro; refine ⟨fun wq hq => ?_, ?_⟩; (focus ((try dsimp only at hq); go_simp; (first | done | with_reducible rfl | fail)))) | refine held_s (i := 2) hHeld ?_ | fail
      first | (refine held_t (i := 5) hHeld ?_; apply Exists.intro; refine ⟨fun wq hq => ?_, ?_⟩; (focus ((try dsimp only at hq); go_simp; (first | done | with_reducible rfl | fail)))) | refine held_s (i := 5) hHeld ?_ | fail
      first | (refine held_t (i := 6) hHeld ?_; apply Exists.intro; refine ⟨fun wq hq => ?_, ?_⟩; (focus ((try dsimp only at hq); go_simp; (first | done | with_reducible rfl | fail)))) | refine held_s (i := 6) hHeld ?_ | fail
      try simp only [Act.put, List.setIfInBounds_toArray, List.set_cons_zero, List.set_cons_succ]
      obtain ⟨wd, hwd⟩ : ∃ wd, w5.drew = wd := ⟨_, rfl⟩
      have HD := Lib.hid (show CB w p 0 [.int .i64 k, .int .i64 n, .string s, .slice a m c] [.int .i64 k', .int .i64 n', .string s', .slice a' m' c'] [] F wd from by rw [← hwd]; exact H5.out.ext (Below.refl _ _).drew)
      have hzd : w.heap.size + 2 ≤ wd.heap.size := by rw [← hwd]; exact hz5
      rw [hwd] at hHeld ⊢
      clear hwd
      refine wpAnyH_ready (rs := [3, 7]) (by kernel_rfl) (by simp) ?_
      refine AllReadyH.cons (by simp only [List.getElem?_toArray, List.getElem?_cons_zero, List.getElem?_cons_succ]; rfl) (fun K hK => ?_) (AllReadyH.cons (by simp only [List.getElem?_toArray, List.getElem?_cons_zero, List.getElem?_cons_succ]; rfl) (fun K hK => ?_) AllReadyH.nil)
      · have HA0 := Lib.hid (HD.out.map 0 hzd)
        go_simp
        skip
        refine hK.out _ _ (HCB.out _ _ _ _ HA0.out) (fun hHeld => ?_)
        clear hK K
        try simp only [Act.put, List.setIfInBounds_toArray, List.set_cons_zero, List.set_cons_succ]
        obtain ⟨wa, ewa⟩ : ∃ q, wd.alloc (.map #[] 0) = q := ⟨_, rfl⟩
        have HA := HA0
        rw [ewa] at HA hHeld ⊢
        have hza : w.heap.size + 2 ≤ wa.heap.size := by rw [← ewa]; exact Nat.le_trans hzd (bel1' wd _).size
        have hswa : wd.heap.size < wa.heap.size := by rw [← ewa]; simp
        have hbwa : Below wd.heap.size wd wa := by rw [← ewa]; exact bel1' wd _
        clear ewa HA0
        refine wpAnyH_ready (rs := [4, 7]) (by kernel_rfl) (by simp) ?_
        refine AllReadyH.cons (by simp only [List.getElem?_toArray, List.getElem?_cons_zero, List.getElem?_cons_succ]; rfl) (fun K hK => ?_) (AllReadyH.cons (by simp only [List.getElem?_toArray, List.getElem?_cons_zero, List.getElem?_cons_succ]; rfl) (fun K hK => ?_) AllReadyH.nil)
        · have CH6 := HA.out.apart (fun q hq => by simp at hq <;> (try (subst hq; simp; omega))) HV.out.1 HL.out.2.2.1 (K := Lx) (by rw [HL.out.1]; omega) (by omega)
          go_simp
          (go_at_call 83; refine CH6.mono ?_; rintro e w6 ⟨F6, r6, rfl, c_, t_, tt_, in_⟩; have H6 := Lib.hid c_; have TH6 := Lib.hid (And.intro t_ (And.intro tt_ in_)); clear c_ t_ tt_ in_)
          refine hK.out _ _ (HCB.out _ _ _ _ H6.out) (fun hHeld => ?_)
          clear hK K
          try simp only [Act.put, List.setIfInBounds_toArray, List.set_cons_zero, List.set_cons_succ]
          have hz6 : w.heap.size + 2 ≤ w6.heap.size := Nat.le_trans hza TH6.out.2.1.size
          clear CH6
          have HB0 := Lib.hid (H6.out.map Lx hz6)
          refine held_c 7 fun K hK => ?_
          go_simp
          skip
          refine hK.out _ _ (HCB.out _ _ _ _ HB0.out) (fun hHeld => ?_)
          clear hK K
          try simp only [Act.put, List.setIfInBounds_toArray, List.set_cons_zero, List.set_cons_succ]
          obtain ⟨wb, ewb⟩ : ∃ q, w6.alloc (.map #[] 0) = q := ⟨_, rfl⟩
          have HB := HB0
          rw [ewb] at HB hHeld ⊢
          have hzb : w.heap.size + 2 ≤ wb.heap.size := by rw [← ewb]; exact Nat.le_trans hz6 (bel1' w6 _).size
          have hswb : w6.heap.size < wb.heap.size := by rw [← ewb]; simp
          have hbwb : Below w6.heap.size w6 wb := by rw [← ewb]; exact bel1' w6 _
          clear ewb HB0
          have CH8 := HB.out.apart (fun q hq => by simp at hq <;> (try (subst hq; simp; omega))) HV.out.2 HL.out.2.2.2 (K := (Lx + Ly)) (by rw [HL.out.2.1]) (by omega)
          refine held_c 8 fun K hK => ?_
          go_simp
          (go_at_call 83; refine CH8.mono ?_; rintro e w8 ⟨F8, r8, rfl, c_, t_, tt_, in_⟩; have H8 := Lib.hid c_; have TH8 := Lib.hid (And.intro t_ (And.intro tt_ in_)); clear c_ t_ tt_ in_)
          refine hK.out _ _ (HCB.out _ _ _ _ H8.out) (fun hHeld => ?_)
          clear hK K
          try simp only [Act.put, List.setIfInBounds_toArray, List.set_cons_zero, List.set_cons_succ]
          have hz8 : w.heap.size + 2 ≤ w8.heap.size := Nat.le_trans hzb TH8.out.2.1.size
          clear CH8
          have tx := apart_later TH6.out.1 hbwb (Or.inr (Nat.le_refl _)) TH8.out.2.1 TH8.out.2.2
          have ty := TmV.stay (Stays.less (D' := awayB F8) fun q hq => by obtain ⟨_, h2⟩ := newU_false.1 hq; simpa [awayB] using h2) _ _ TH8.out.1
          have C9 := H8.out.both tx ty
          rw [show bothB (Lx + Ly) [] (renT ((0 : Nat) : Int) x) (renT (Lx : Int) y) = BR from HBR.out] at C9
          clear tx ty
          refine held_c 9 fun K hK => ?_
          go_simp
          (go_at_call 42; refine C9.mono ?_; rintro e w9 ⟨rfl, b9, p9, q9⟩; have HB9 := Lib.hid b9; clear b9)
          refine hK.out _ _ (HCC.out _ p9 q9) (fun hHeld => ?_)
          clear hK K
          try simp only [Act.put, List.setIfInBounds_toArray, List.set_cons_zero, List.set_cons_succ]
          clear p9 q9 C9
          first | (refine held_t (i := 10) hHeld ?_; apply Exists.intro; refine ⟨fun wq hq => ?_, ?_⟩; (focus ((try dsimp only at hq); go_simp; (first | done | with_reducible rfl | fail)))) | refine held_s (i := 10) hHeld ?_ | fail
          first | (refine held_t (i := 11) hHeld ?_; apply Exists.intro; refine ⟨fun wq hq => ?_, ?_⟩; (focus ((try dsimp only at hq); go_simp; (first | done | with_reducible rfl | fail)))) | refine held_s (i := 11) hHeld ?_ | fail
          first | (refine held_t (i := 12) hHeld ?_; apply Exists.intro; refine ⟨fun wq hq => ?_, ?_⟩; (focus ((try dsimp only at hq); go_simp; (first | done | with_reducible rfl | fail)))) | refine held_s (i := 12) hHeld ?_ | fail
          first | (refine held_t (i := 13) hHeld ?_; apply Exists.intro; refine ⟨fun wq hq => ?_, ?_⟩; (focus ((try dsimp only at hq); go_simp; (first | done | with_reducible rfl | fail)))) | refine held_s (i := 13) hHeld ?_ | fail
          first | (refine held_t (i := 14) hHeld ?_; apply Exists.intro; refine ⟨fun wq hq => ?_, ?_⟩; (focus ((try dsimp only at hq); go_simp; (first | done | with_reducible rfl | fail)))) | refine held_s (i := 14) hHeld ?_ | fail
          first | (refine held_t (i := 15) hHeld ?_; apply Exists.intro; refine ⟨fun wq hq => ?_, ?_⟩; (focus ((try dsimp only at hq); go_simp; (first | done | with_reducible rfl | fail)))) | refine held_s (i := 15) hHeld ?_ | fail
          first | (refine held_t (i := 16) hHeld ?_; apply Exists.intro; refine ⟨fun wq hq => ?_, ?_⟩; (focus ((try dsimp only at hq); go_simp; (first | done | with_reducible rfl | fail)))) | refine held_s (i := 16) hHeld ?_ | fail
          try simp only [Act.put, List.setIfInBounds_toArray, List.set_cons_zero, List.set_cons_succ]
          refine wpAnyH_done (by kernel_rfl) ?_ _
          clear hHeld
          go_wp2
          go_ret
          exact ⟨rfl, HB9.out⟩
        · have HB0 := Lib.hid (HA.out.map Lx hza)
          go_simp
          skip
          refine hK.out _ _ (HCB.out _ _ _ _ HB0.out) (fun hHeld => ?_)
          clear hK K
          try simp only [Act.put, List.setIfInBounds_toArray, List.set_cons_zero, List.set_cons_succ]
          obtain ⟨wb, ewb⟩ : ∃ q, wa.alloc (.map #[] 0) = q := ⟨_, rfl⟩
          have HB := HB0
          rw [ewb] at HB hHeld ⊢
          have hzb : w.heap.size + 2 ≤ wb.heap.size := by rw [← ewb]; exact Nat.le_trans hza (bel1' wa _).size
          have hswb : wa.heap.size < wb.heap.size := by rw [← ewb]; simp
          have hbwb : Below wa.heap.size wa wb := by rw [← ewb]; exact bel1' wa _
          clear ewb HB0
          have CH6 := (CB.swap HB.out).apart (fun q hq => by simp at hq <;> (try (subst hq; simp; omega))) HV.out.1 HL.out.2.2.1 (K := Lx) (by rw [HL.out.1]; omega) (by omega)
          refine held_c 4 fun K hK => ?_
          go_simp
          (go_at_call 83; refine CH6.mono ?_; rintro e w6 ⟨F6, r6, rfl, c_, t_, tt_, in_⟩; have H6 := Lib.hid c_; have TH6 := Lib.hid (And.intro t_ (And.intro tt_ in_)); clear c_ t_ tt_ in_)
          refine hK.out _ _ (HCB.out _ _ _ _ H6.out) (fun hHeld => ?_)
          clear hK K
          try simp only [Act.put, List.setIfInBounds_toArray, List.set_cons_zero, List.set_cons_succ]
          have hz6 : w.heap.size + 2 ≤ w6.heap.size := Nat.le_trans hzb TH6.out.2.1.size
          clear CH6
          have CH8 := H6.out.apart (fun q hq => by simp at hq <;> (try (subst hq; simp; omega))) HV.out.2 HL.out.2.2.2 (K := (Lx + Ly)) (by rw [HL.out.2.1]) (by omega)
          refine held_c 8 fun K hK => ?_
          go_simp
          (go_at_call 83; refine CH8.mono ?_; rintro e w8 ⟨F8, r8, rfl, c_, t_, tt_, in_⟩; have H8 := Lib.hid c_; have TH8 := Lib.hid (And.intro t_ (And.intro tt_ in_)); clear c_ t_ tt_ in_)
          refine hK.out _ _ (HCB.out _ _ _ _ H8.out) (fun hHeld => ?_)
          clear hK K
          try simp only [Act.put, List.setIfInBounds_toArray, List.set_cons_zero, List.set_cons_succ]
          have hz8 : w.heap.size + 2 ≤ w8.heap.size := Nat.le_trans hz6 TH8.out.2.1.size
          clear CH8
          have tx := apart_later TH6.out.1 (Below.refl _ _) (Or.inl hswb) TH8.out.2.1 TH8.out.2.2
          have ty := TmV.stay (Stays.less (D' := awayB F8) fun q hq => by obtain ⟨_, h2⟩ := newU_false.1 hq; simpa [awayB] using h2) _ _ TH8.out.1
          have C9 := H8.out.both tx ty
          rw [show bothB (Lx + Ly) [] (renT ((0 : Nat) : Int) x) (renT (Lx : Int) y) = BR from HBR.out] at C9
          clear tx ty
          refine held_c 9 fun K hK => ?_
          go_simp
          (go_at_call 42; refine C9.mono ?_; rintro e w9 ⟨rfl, b9, p9, q9⟩; have HB9 := Lib.hid b9; clear b9)
          refine hK.out _ _ (HCC.out _ p9 q9) (fun hHeld => ?_)
          clear hK K
          try simp only [Act.put, List.setIfInBounds_toArray, List.set_cons_zero, List.set_cons_succ]
          clear p9 q9 C9
          first | (refine held_t (i := 10) hHeld ?_; apply Exists.intro; refine ⟨fun wq hq => ?_, ?_⟩; (focus ((try dsimp only at hq); go_simp; (first | done | with_reducible rfl | fail)))) | refine held_s (i := 10) hHeld ?_ | fail
          first | (refine held_t (i := 11) hHeld ?_; apply Exists.intro; refine ⟨fun wq hq => ?_, ?_⟩; (focus ((try dsimp only at hq); go_simp; (first | done | with_reducible rfl | fail)))) | refine held_s (i := 11) hHeld ?_ | fail
          first | (refine held_t (i := 12) hHeld ?_; apply Exists.intro; refine ⟨fun wq hq => ?_, ?_⟩; (focus ((try dsimp only at hq); go_simp; (first | done | with_reducible rfl | fail)))) | refine held_s (i := 12) hHeld ?_ | fail
          first | (refine held_t (i := 13) hHeld ?_; apply Exists.intro; refine ⟨fun wq hq => ?_, ?_⟩; (focus ((try dsimp only at hq); go_simp; (first | done | with_reducible rfl | fail)))) | refine held_s (i := 13) hHeld ?_ | fail
          first | (refine held_t (i := 14) hHeld ?_; apply Exists.intro; refine ⟨fun wq hq => ?_, ?_⟩; (focus ((try dsimp only at hq); go_simp; (first | done | with_reducible rfl | fail)))) | refine held_s (i := 14) hHeld ?_ | fail
          first | (refine held_t (i := 15) hHeld ?_; apply Exists.intro; refine ⟨fun wq hq => ?_, ?_⟩; (focus ((try dsimp only at hq); go_simp; (first | done | with_reducible rfl | fail)))) | refine held_s (i := 15) hHeld ?_ | fail
          first | (refine held_t (i := 16) hHeld ?_; apply Exists.intro; refine ⟨fun wq hq => ?_, ?_⟩; (focus ((try dsimp only at hq); go_simp; (first | done | with_reducible rfl | fail)))) | refine held_s (i := 16) hHeld ?_ | fail
          try simp only [Act.put, List.setIfInBounds_toArray, List.set_cons_zero, List.set_cons_succ]
          refine wpAnyH_done (by kernel_rfl) ?_ _
          clear hHeld
          go_wp2
          go_ret
          exact ⟨rfl, HB9.out⟩
      · have HA0 := Lib.hid (HD.out.map Lx hzd)
        go_simp
        skip
        refine hK.out _ _ (HCB.out _ _ _ _ HA0.out) (fun hHeld => ?_)
        clear hK K
        try simp only [Act.put, List.setIfInBounds_toArray, List.set_cons_zero, List.set_cons_succ]
        obtain ⟨wa, ewa⟩ : ∃ q, wd.alloc (.map #[] 0) = q := ⟨_, rfl⟩
        have HA := HA0
        rw [ewa] at HA hHeld ⊢
        have hza : w.heap.size + 2 ≤ wa.heap.size := by rw [← ewa]; exact Nat.le_trans hzd (bel1' wd _).size
        have hswa : wd.heap.size < wa.heap.size := by rw [← ewa]; simp
        have hbwa : Below wd.heap.size wd wa := by rw [← ewa]; exact bel1' wd _
        clear ewa HA0
        have HB0 := Lib.hid (HA.out.map 0 hza)
        refine held_c 3 fun K hK => ?_
        go_simp
        skip
        refine hK.out _ _ (HCB.out _ _ _ _ HB0.out) (fun hHeld => ?_)
        clear hK K
        try simp only [Act.put, List.setIfInBounds_toArray, List.set_cons_zero, List.set_cons_succ]
        obtain ⟨wb, ewb⟩ : ∃ q, wa.alloc (.map #[] 0) = q := ⟨_, rfl⟩
        have HB := HB0
        rw [ewb] at HB hHeld ⊢
        have hzb : w.heap.size + 2 ≤ wb.heap.size := by rw [← ewb]; exact Nat.le_trans hza (bel1' wa _).size
        have hswb : wa.heap.size < wb.heap.size := by rw [← ewb]; simp
        have hbwb : Below wa.heap.size wa wb := by rw [← ewb]; exact bel1' wa _
        clear ewb HB0
        have CH6 := HB.out.apart (fun q hq => by simp at hq <;> (try (subst hq; simp; omega))) HV.out.1 HL.out.2.2.1 (K := Lx) (by rw [HL.out.1]; omega) (by omega)
        refine held_c 4 fun K hK => ?_
        go_simp
        (go_at_call 83; refine CH6.mono ?_; rintro e w6 ⟨F6, r6, rfl, c_, t_, tt_, in_⟩; have H6 := Lib.hid c_; have TH6 := Lib.hid (And.intro t_ (And.intro tt_ in_)); clear c_ t_ tt_ in_)
        refine hK.out _ _ (HCB.out _ _ _ _ H6.out) (fun hHeld => ?_)
        clear hK K
        try simp only [Act.put, List.setIfInBounds_toArray, List.set_cons_zero, List.set_cons_succ]
        have hz6 : w.heap.size + 2 ≤ w6.heap.size := Nat.le_trans hzb TH6.out.2.1.size
        clear CH6
        have CH8 := H6.out.apart (fun q hq => by simp at hq <;> (try (subst hq; simp; omega))) HV.out.2 HL.out.2.2.2 (K := (Lx + Ly)) (by rw [HL.out.2.1]) (by omega)
        refine held_c 8 fun K hK => ?_
        go_simp
        (go_at_call 83; refine CH8.mono ?_; rintro e w8 ⟨F8, r8, rfl, c_, t_, tt_, in_⟩; have H8 := Lib.hid c_; have TH8 := Lib.hid (And.intro t_ (And.intro tt_ in_)); clear c_ t_ tt_ in_)
        refine hK.out _ _ (HCB.out _ _ _ _ H8.out) (fun hHeld => ?_)
        clear hK K
        try simp only [Act.put, List.setIfInBounds_toArray, List.set_cons_zero, List.set_cons_succ]
        have hz8 : w.heap.size + 2 ≤ w8.heap.size := Nat.le_trans hz6 TH8.out.2.1.size
        clear CH8
        have tx := apart_later TH6.out.1 (Below.refl _ _) (Or.inl (by omega)) TH8.out.2.1 TH8.out.2.2
        have ty := TmV.stay (Stays.less (D' := awayB F8) fun q hq => by obtain ⟨_, h2⟩ := newU_false.1 hq; simpa [awayB] using h2) _ _ TH8.out.1
        have C9 := H8.out.both tx ty
        rw [show bothB (Lx + Ly) [] (renT ((0 : Nat) : Int) x) (renT (Lx : Int) y) = BR from HBR.out] at C9
        clear tx ty
        refine held_c 9 fun K hK => ?_
        go_simp
        (go_at_call 42; refine C9.mono ?_; rintro e w9 ⟨rfl, b9, p9, q9⟩; have HB9 := Lib.hid b9; clear b9)
        refine hK.out _ _ (HCC.out _ p9 q9) (fun hHeld => ?_)
        clear hK K
        try simp only [Act.put, List.setIfInBounds_toArray, List.set_cons_zero, List.set_cons_succ]
        clear p9 q9 C9
        first | (refine held_t (i := 10) hHeld ?_; apply Exists.intro; refine ⟨fun wq hq => ?_, ?_⟩; (focus ((try dsimp only at hq); go_simp; (first | done | with_reducible rfl | fail)))) | refine held_s (i := 10) hHeld ?_ | fail
        first | (refine held_t (i := 11) hHeld ?_; apply Exists.intro; refine ⟨fun wq hq => ?_, ?_⟩; (focus ((try dsimp only at hq); go_simp; (first | done | with_reducible rfl | fail)))) | refine held_s (i := 11) hHeld ?_ | fail
        first | (refine held_t (i := 12) hHeld ?_; apply Exists.intro; refine ⟨fun wq hq => ?_, ?_⟩; (focus ((try dsimp only at hq); go_simp; (first | done | with_reducible rfl | fail)))) | refine held_s (i := 12) hHeld ?_ | fail
        first | (refine held_t (i := 13) hHeld ?_; apply Exists.intro; refine ⟨fun wq hq => ?_, ?_⟩; (focus ((try dsimp only at hq); go_simp; (first | done | with_reducible rfl | fail)))) | refine held_s (i := 13) hHeld ?_ | fail
        first | (refine held_t (i := 14) hHeld ?_; apply Exists.intro; refine ⟨fun wq hq => ?_, ?_⟩; (focus ((try dsimp only at hq); go_simp; (first | done | with_reducible rfl | fail)))) | refine held_s (i := 14) hHeld ?_ | fail
        first | (refine held_t (i := 15) hHeld ?_; apply Exists.intro; refine ⟨fun wq hq => ?_, ?_⟩; (focus ((try dsimp only at hq); go_simp; (first | done | with_reducible rfl | fail)))) | refine held_s (i := 15) hHeld ?_ | fail
        first | (refine held_t (i := 16) hHeld ?_; apply Exists.intro; refine ⟨fun wq hq => ?_, ?_⟩; (focus ((try dsimp only at hq); go_simp; (first | done | with_reducible rfl | fail)))) | refine held_s (i := 16) hHeld ?_ | fail
        try simp only [Act.put, List.setIfInBounds_toArray, List.set_cons_zero, List.set_cons_succ]
        refine wpAnyH_done (by kernel_rfl) ?_ _
        clear hHeld
        go_wp2
        go_ret
        exact ⟨rfl, HB9.out⟩
end Go.Proofs.Ytbbbgijlbcmpbaa
