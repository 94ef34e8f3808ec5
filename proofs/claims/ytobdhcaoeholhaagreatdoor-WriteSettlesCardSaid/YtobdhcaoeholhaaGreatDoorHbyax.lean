import Derived.Test.YtobdhcaoeholhaaGreatDoorHbyav
import Derived.Test.YtobdhcaoeholhaaGreatDoorHbyac
import Derived.Test.YtobdhcaoeholhaaGreatDoorHbyaw
import Derived.Test.YtobdhcaoeholhaaGreatDoorHbyai
import Derived.Test.YtobdhcaoeholhaaGreatDoorHbyaj
import Derived.Lib.LaidTab
set_option linter.unusedVariables false
set_option linter.unusedSimpArgs false
/- WriteSettles: the law, walked. -/
namespace Go.Proofs.YtobdhcaoeholhaaGreatDoor
open Go.Shelf Go.RowKit
set_option linter.unusedVariables false
set_option maxRecDepth 100000

theorem read_bad {xs : List O} {s : List UInt8} {k : Int} (h : readB oneR xs s = .bad k) : k ≠ 0 := by
  unfold readB at h
  split at h
  · split at h
    · unfold oneR at h
      split at h
      · cases h; decide
      · split at h
        · split at h
          · cases h
          · cases h; decide
        · cases h; decide
    · cases h
      split <;> decide
  · cases h; decide
theorem read_any {xs : List O} {s : ByteArray} (hs : s.size ≤ 140737488351232) {w : World} (he : Err w) {v : Value} (ho : Ops w v xs) :
    Calls Tryz.prog 15 #[.agg #[v], .string s] w fun e w' => ∃ k n b a m c vn i, e = .returned (.tuple #[.agg #[.int .i64 k, .int .i64 n, .string b, .slice a m c], vn, .int .i64 i]) ∧ (i ≠ 0 ∨ (i = 0 ∧ ∃ t ns, readB oneR xs (bl s) = .ok (t, ns) ∧ TmV w' t (.agg #[.int .i64 k, .int .i64 n, .string b, .slice a m c]))) ∧ Below w.heap.size w w' :=
  (term8_at ho s he hs).mono fun e w' (h : TermX w (readB oneR xs (bl s)) e w') => by
    cases hX : readB oneR xs (bl s) with
    | ok p =>
      obtain ⟨t, nm⟩ := p
      rw [hX] at h
      obtain ⟨⟨v, vn, h1, h2, h3⟩, h4⟩ := h
      obtain ⟨k, n, b, a, m, c, rfl⟩ := h2.full
      exact ⟨k, n, b, a, m, c, vn, 0, h1, Or.inr ⟨rfl, t, nm, rfl, h2⟩, h4⟩
    | bad i =>
      rw [hX] at h
      obtain ⟨h1, h4⟩ := h
      exact ⟨0, 0, ⟨#[]⟩, none, 0, 0, _, i, h1, Or.inl (read_bad hX), h4⟩
def ReadS (xs : List O) (s : List UInt8) (i : Int) (w : World) (v : Value) : Prop := i ≠ 0 ∨ (i = 0 ∧ ∃ t ns, readB oneR xs s = .ok (t, ns) ∧ TmV w t v)
theorem settle_ext {xs : List O} {s : List UInt8} {i : Int} {w w' : World} {v : Value} (hb : Below w.heap.size w w') (h : ReadS xs s i w v) : ReadS xs s i w' v := by
  rcases h with h | ⟨e, t, ns, h1, h2⟩
  · exact Or.inl h
  · exact Or.inr ⟨e, t, ns, h1, TmV.ext hb _ _ h2⟩
theorem tx_cases {t : Tm} (hg : goodT t = true) : ∃ ta g, termTx opsB t = .tuple #[.string ta, .int .i64 g] ∧ (g ≠ 0 ∨ (g = 0 ∧ ta = ⟨(writeT opsB t).toArray⟩ ∧ (writeT opsB t).length ≤ 4096)) := by
  have hgb : goodB opsB = true := by kernel_rfl
  by_cases h : 4096 < (writeT opsB t).length
  · refine ⟨⟨#[]⟩, 3, ?_, Or.inl (by decide)⟩
    unfold termTx; rw [hgb, hg]; exact textX_far h
  · refine ⟨⟨(writeT opsB t).toArray⟩, 0, ?_, Or.inr ⟨rfl, rfl, by omega⟩⟩
    unfold termTx; rw [hgb, hg]; exact textX_ok (by omega)
theorem str_settle {t u : List UInt8} : (((⟨t.toArray⟩ : ByteArray).toList == (⟨u.toArray⟩ : ByteArray).toList) = true) ↔ t = u := by
  rw [Lib.toList_data, Lib.toList_data, beq_iff_eq]
set_option maxHeartbeats 8000000 in
theorem settles_walk {w : World} (hc : Con w) (s r : ByteArray) : Calls Tryz.prog 11 #[.string s, .string r] w fun e w' => e = .returned (.bool true) ∧ Below w.heap.size w w' := by
  have HAW := Lib.hid (awake9_at hc)
  have HE := Lib.hid hc
  clear hc
  go_enter Tryz.func11, Tryz.ntmps11
  (go_wp2_with fail; go_fit (HAW.out); rintro e w1 ⟨rfl, b1⟩)
  have B1 := Lib.hid b1
  clear b1 HAW
  by_cases h1 : 600 < s.size
  · have hd : decide ((600 : Int) < (s.size : Int)) = true := decide_eq_true (by omega)
    go_wp2
    go_ret
    exact ⟨rfl, B1.out⟩
  by_cases h2 : 600 < r.size
  · have hd : decide ((600 : Int) < (s.size : Int)) = false := decide_eq_false (by omega)
    have hd2 : decide ((600 : Int) < (r.size : Int)) = true := decide_eq_true (by omega)
    go_wp2
    go_ret
    exact ⟨rfl, B1.out⟩
  have hd : decide ((600 : Int) < (s.size : Int)) = false := decide_eq_false (by omega)
  have hd2 : decide ((600 : Int) < (r.size : Int)) = false := decide_eq_false (by omega)
  have hss : ¬ 9223372036854775807 < s.size + 2 := by omega
  have hss2 : ¬ 9223372036854775807 < 2 + s.size := by omega
  have hrr : ¬ 9223372036854775807 < r.size + 2 := by omega
  have hrr2 : ¬ 9223372036854775807 < 2 + r.size := by omega
  have HS := Lib.hid (show (s ++ spdot).size ≤ 140737488351232 from by rw [ByteArray.size_append]; show s.size + 2 ≤ _; omega)
  have HR := Lib.hid (show (r ++ spdot).size ≤ 140737488351232 from by rw [ByteArray.size_append]; show r.size + 2 ≤ _; omega)
  have HZS := Lib.hid (show s.size ≤ 600 from by omega)
  have HZR := Lib.hid (show r.size ≤ 600 from by omega)
  clear h1 h2
  have HP := plain_walk w1
  (go_wp2_with fail; go_fit (HP); rintro e w2 ⟨v2, rfl, oA, hb2⟩)
  have HB2 := Lib.hid (Ext.trans' B1.out hb2)
  clear HP hb2
  have hRA := read_any HS.out (HE.out.err.ext HB2.out) oA
  clear oA
  (go_wp2_with fail; go_fit (hRA); rintro e w3 ⟨k, n, b, a, m, c, vn, i, rfl, hi, hb3⟩)
  have HB3 := Lib.hid (Ext.trans' HB2.out hb3)
  have HI := Lib.hid (show ReadS opsB (bl (s ++ spdot)) i w3 (.agg #[.int .i64 k, .int .i64 n, .string b, .slice a m c]) from hi)
  clear hb3 hi hRA
  obtain ⟨w4, hw4, hb4, hz4, hx4⟩ := box_new w3 #[.int .i64 0, .int .i64 0, .string ⟨#[]⟩, .slice none 0 0] 27
  obtain ⟨w5, hw5⟩ : ∃ q, set4 w4 w3.heap.size (.int .i64 k) (.int .i64 n) (.string b) (.slice a m c) = q := ⟨_, rfl⟩
  have hb5 : Below w3.heap.size w3 w5 := hw5 ▸ Below.set4 hb4 (Nat.le_refl _) _ _ _ _
  have HB5 := Lib.hid (Ext.trans' HB3.out hb5)
  have HX5 := Lib.hid (show Box w5 w3.heap.size [.int .i64 k, .int .i64 n, .string b, .slice a m c] from hw5 ▸ hx4.all4 _ _ _ _)
  have HI5 := Lib.hid (settle_ext hb5 HI.out)
  obtain ⟨q0, q1, q2, q3, qf⟩ := hx4.four
  clear hb4 hz4 hx4 hb5 HI
  have HP := plain_walk w5
  go_wp2_with fail
  (try rw [hw4])
  (try rw [hw5])
  clear q0 q1 q2 q3 qf hw4 hw5
  (go_wp2_with fail; go_fit (HP); rintro e w6 ⟨v6, rfl, oA, hb6⟩)
  have HB6 := Lib.hid (Ext.trans' HB5.out hb6)
  have HX6 := Lib.hid (HX5.out.ext hb6)
  have HI6 := Lib.hid (settle_ext hb6 HI5.out)
  clear HP hb6 HX5 HI5
  have hRA := read_any HR.out (HE.out.err.ext HB6.out) oA
  clear oA
  (go_wp2_with fail; go_fit (hRA); rintro e w7 ⟨k', n', b', a', m', c', vn', j, rfl, hj, hb7⟩)
  have HB7 := Lib.hid (Ext.trans' HB6.out hb7)
  have HX7 := Lib.hid (HX6.out.ext hb7)
  have HI7 := Lib.hid (settle_ext hb7 HI6.out)
  have HJ := Lib.hid (show ReadS opsB (bl (r ++ spdot)) j w7 (.agg #[.int .i64 k', .int .i64 n', .string b', .slice a' m' c']) from hj)
  clear hb7 hj hRA HX6 HI6
  obtain ⟨w8, hw8, hb8, hz8, hx8⟩ := box_new w7 #[.int .i64 0, .int .i64 0, .string ⟨#[]⟩, .slice none 0 0] 27
  obtain ⟨w9, hw9⟩ : ∃ q, set4 w8 w7.heap.size (.int .i64 k') (.int .i64 n') (.string b') (.slice a' m' c') = q := ⟨_, rfl⟩
  have hb9 : Below w7.heap.size w7 w9 := hw9 ▸ Below.set4 hb8 (Nat.le_refl _) _ _ _ _
  have HB9 := Lib.hid (Ext.trans' HB7.out hb9)
  have HX9 := Lib.hid (HX7.out.ext hb9)
  have HY9 := Lib.hid (show Box w9 w7.heap.size [.int .i64 k', .int .i64 n', .string b', .slice a' m' c'] from hw9 ▸ hx8.all4 _ _ _ _)
  have HI9 := Lib.hid (settle_ext hb9 HI7.out)
  have HJ9 := Lib.hid (settle_ext hb9 HJ.out)
  obtain ⟨q0, q1, q2, q3, qf⟩ := hx8.four
  clear hb8 hz8 hx8 hb9 HI7 HJ HX7
  rcases HI9.out with hi | ⟨hi, t, ns, ht, htv⟩
  · have hi0 : (i == (0 : Int)) = false := beq_false_of_ne hi
    go_wp2
    go_ret
    exact ⟨rfl, HB9.out⟩
  subst hi
  rcases HJ9.out with hj | ⟨hj, u, us, hu, huv⟩
  · have hj0 : (j == (0 : Int)) = false := beq_false_of_ne hj
    go_wp2
    go_ret
    exact ⟨rfl, HB9.out⟩
  subst hj
  have HTR := Lib.hid ht
  have HUR := Lib.hid hu
  have HTV := Lib.hid htv
  have HUV := Lib.hid huv
  obtain ⟨ta, g, hta, hg⟩ := tx_cases (read_fit ht).1
  obtain ⟨ua, h, hua, hh⟩ := tx_cases (read_fit hu).1
  have HTA := Lib.hid hta
  have HUA := Lib.hid hua
  have HGG := Lib.hid hg
  have HHH := Lib.hid hh
  clear ht hu htv huv hta hua hg hh HI9 HJ9
  go_wp2_with fail
  (try rw [hw8])
  (try rw [hw9])
  clear q0 q1 q2 q3 qf hw8 hw9
  obtain ⟨bt, hbt⟩ : ∃ q, w3.heap.size = q := ⟨_, rfl⟩
  obtain ⟨bu, hbu⟩ : ∃ q, w7.heap.size = q := ⟨_, rfl⟩
  have HXT := Lib.hid (hbt ▸ HX9.out)
  have HXU := Lib.hid (hbu ▸ HY9.out)
  (try rw [hbt])
  (try rw [hbu])
  clear hbt hbu HX9 HY9
  obtain ⟨b0, b1, b2, b3, bf⟩ := HXT.out.four
  refine wp_region_held_drew (S := fun w' => (w'.cell? ⟨bt, 0, none⟩ = some (.int .i64 k) ∧ w'.cell? ⟨bt, 1, none⟩ = some (.int .i64 n) ∧ w'.cell? ⟨bt, 2, none⟩ = some (.string b) ∧ w'.cell? ⟨bt, 3, none⟩ = some (.slice a m c)) ∧ Below w9.heap.size w9 w') (by kernel_rfl) ⟨⟨b0, b1, b2, b3⟩, (Below.refl _ _).drew⟩ (fun hHeld => ?_)
  first | (refine held_t (i := 1) hHeld ?_; apply Exists.intro; refine ⟨fun wq hq => ?_, ?_⟩; (focus ((try dsimp only at hq); go_simp; (first | done | with_reducible rfl | fail)))) | refine held_s (i := 1) hHeld ?_ | fail
  try simp only [Act.put, List.setIfInBounds_toArray, List.set_cons_zero, List.set_cons_succ]
  refine held_c 0 fun K hK => ?_
  go_simp
  (go_at_call 17; refine (plain_walk _).mono ?_; rintro e wC ⟨vC, rfl, oC, hbC⟩)
  refine hK.out _ _ (⟨⟨cell_later hbC hHeld.1.1, cell_later hbC hHeld.1.2.1, cell_later hbC hHeld.1.2.2.1, cell_later hbC hHeld.1.2.2.2⟩, Ext.trans' hHeld.2 hbC⟩) (fun hHeld => ?_)
  clear hK K
  try simp only [Act.put, List.setIfInBounds_toArray, List.set_cons_zero, List.set_cons_succ]
  refine held_c 2 fun K hK => ?_
  go_simp
  (go_at_call 25; refine (wterm_at (HE.out.ext (Ext.trans' HB9.out hHeld.2)) oC (TmV.ext hHeld.2 _ _ HTV.out)).mono ?_; rw [HTA.out]; rintro e wD ⟨rfl, hbD⟩)
  refine hK.out _ _ (⟨⟨cell_later hbD hHeld.1.1, cell_later hbD hHeld.1.2.1, cell_later hbD hHeld.1.2.2.1, cell_later hbD hHeld.1.2.2.2⟩, Ext.trans' hHeld.2 hbD⟩) (fun hHeld => ?_)
  clear hK K
  try simp only [Act.put, List.setIfInBounds_toArray, List.set_cons_zero, List.set_cons_succ]
  first | (refine held_t (i := 3) hHeld ?_; apply Exists.intro; refine ⟨fun wq hq => ?_, ?_⟩; (focus ((try dsimp only at hq); go_simp; (first | done | with_reducible rfl | fail)))) | refine held_s (i := 3) hHeld ?_ | fail
  first | (refine held_t (i := 4) hHeld ?_; apply Exists.intro; refine ⟨fun wq hq => ?_, ?_⟩; (focus ((try dsimp only at hq); go_simp; (first | done | with_reducible rfl | fail)))) | refine held_s (i := 4) hHeld ?_ | fail
  try simp only [Act.put, List.setIfInBounds_toArray, List.set_cons_zero, List.set_cons_succ]
  first | (refine held_t (i := 5) hHeld ?_; apply Exists.intro; refine ⟨fun wq hq => ?_, ?_⟩; (focus ((try dsimp only at hq); go_simp; (first | done | with_reducible rfl | fail)))) | refine held_s (i := 5) hHeld ?_ | fail
  first | (refine held_t (i := 6) hHeld ?_; apply Exists.intro; refine ⟨fun wq hq => ?_, ?_⟩; (focus ((try dsimp only at hq); go_simp; (first | done | with_reducible rfl | fail)))) | refine held_s (i := 6) hHeld ?_ | fail
  try simp only [Act.put, List.setIfInBounds_toArray, List.set_cons_zero, List.set_cons_succ]
  first | (refine held_t (i := 7) hHeld ?_; apply Exists.intro; refine ⟨fun wq hq => ?_, ?_⟩; (focus ((try dsimp only at hq); go_simp; (first | done | with_reducible rfl | fail)))) | refine held_s (i := 7) hHeld ?_ | fail
  try simp only [Act.put, List.setIfInBounds_toArray, List.set_cons_zero, List.set_cons_succ]
  refine wpAnyH_done (by kernel_rfl) ?_ _
  have HBD0 := Lib.hid hHeld.2
  have HBD := Lib.hid (Ext.trans' HB9.out HBD0.out)
  clear hHeld b0 b1 b2 b3 bf oC
  obtain ⟨b0, b1, b2, b3, bf⟩ := (HXU.out.ext HBD0.out).four
  go_wp2_with fail
  refine wp_region_held_drew (S := fun w' => (w'.cell? ⟨bu, 0, none⟩ = some (.int .i64 k') ∧ w'.cell? ⟨bu, 1, none⟩ = some (.int .i64 n') ∧ w'.cell? ⟨bu, 2, none⟩ = some (.string b') ∧ w'.cell? ⟨bu, 3, none⟩ = some (.slice a' m' c')) ∧ Below wD.heap.size wD w') (by kernel_rfl) ⟨⟨b0, b1, b2, b3⟩, (Below.refl _ _).drew⟩ (fun hHeld => ?_)
  first | (refine held_t (i := 1) hHeld ?_; apply Exists.intro; refine ⟨fun wq hq => ?_, ?_⟩; (focus ((try dsimp only at hq); go_simp; (first | done | with_reducible rfl | fail)))) | refine held_s (i := 1) hHeld ?_ | fail
  try simp only [Act.put, List.setIfInBounds_toArray, List.set_cons_zero, List.set_cons_succ]
  refine held_c 0 fun K hK => ?_
  go_simp
  (go_at_call 17; refine (plain_walk _).mono ?_; rintro e wE ⟨vE, rfl, oE, hbE⟩)
  refine hK.out _ _ (⟨⟨cell_later hbE hHeld.1.1, cell_later hbE hHeld.1.2.1, cell_later hbE hHeld.1.2.2.1, cell_later hbE hHeld.1.2.2.2⟩, Ext.trans' hHeld.2 hbE⟩) (fun hHeld => ?_)
  clear hK K
  try simp only [Act.put, List.setIfInBounds_toArray, List.set_cons_zero, List.set_cons_succ]
  refine held_c 2 fun K hK => ?_
  go_simp
  (go_at_call 25; refine (wterm_at (HE.out.ext (Ext.trans' HBD.out hHeld.2)) oE (TmV.ext (Ext.trans' HBD0.out hHeld.2) _ _ HUV.out)).mono ?_; rw [HUA.out]; rintro e wF ⟨rfl, hbF⟩)
  refine hK.out _ _ (⟨⟨cell_later hbF hHeld.1.1, cell_later hbF hHeld.1.2.1, cell_later hbF hHeld.1.2.2.1, cell_later hbF hHeld.1.2.2.2⟩, Ext.trans' hHeld.2 hbF⟩) (fun hHeld => ?_)
  clear hK K
  try simp only [Act.put, List.setIfInBounds_toArray, List.set_cons_zero, List.set_cons_succ]
  first | (refine held_t (i := 3) hHeld ?_; apply Exists.intro; refine ⟨fun wq hq => ?_, ?_⟩; (focus ((try dsimp only at hq); go_simp; (first | done | with_reducible rfl | fail)))) | refine held_s (i := 3) hHeld ?_ | fail
  first | (refine held_t (i := 4) hHeld ?_; apply Exists.intro; refine ⟨fun wq hq => ?_, ?_⟩; (focus ((try dsimp only at hq); go_simp; (first | done | with_reducible rfl | fail)))) | refine held_s (i := 4) hHeld ?_ | fail
  try simp only [Act.put, List.setIfInBounds_toArray, List.set_cons_zero, List.set_cons_succ]
  first | (refine held_t (i := 5) hHeld ?_; apply Exists.intro; refine ⟨fun wq hq => ?_, ?_⟩; (focus ((try dsimp only at hq); go_simp; (first | done | with_reducible rfl | fail)))) | refine held_s (i := 5) hHeld ?_ | fail
  first | (refine held_t (i := 6) hHeld ?_; apply Exists.intro; refine ⟨fun wq hq => ?_, ?_⟩; (focus ((try dsimp only at hq); go_simp; (first | done | with_reducible rfl | fail)))) | refine held_s (i := 6) hHeld ?_ | fail
  try simp only [Act.put, List.setIfInBounds_toArray, List.set_cons_zero, List.set_cons_succ]
  first | (refine held_t (i := 7) hHeld ?_; apply Exists.intro; refine ⟨fun wq hq => ?_, ?_⟩; (focus ((try dsimp only at hq); go_simp; (first | done | with_reducible rfl | fail)))) | refine held_s (i := 7) hHeld ?_ | fail
  try simp only [Act.put, List.setIfInBounds_toArray, List.set_cons_zero, List.set_cons_succ]
  refine wpAnyH_done (by kernel_rfl) ?_ _
  have HBF0 := Lib.hid (Ext.trans' HBD0.out hHeld.2)
  have HBF := Lib.hid (Ext.trans' HB9.out HBF0.out)
  clear hHeld b0 b1 b2 b3 bf oE HBD
  rcases HGG.out with hg | ⟨hg, hga, hgl⟩
  · have hg0 : (g == (0 : Int)) = false := beq_false_of_ne hg
    go_wp2
    go_ret
    exact ⟨rfl, HBF.out⟩
  subst hg
  rcases HHH.out with hh | ⟨hh, hha, hhl⟩
  · have hh0 : (h == (0 : Int)) = false := beq_false_of_ne hh
    go_wp2
    go_ret
    exact ⟨rfl, HBF.out⟩
  subst hh
  have hsz : ta.size = (writeT opsB t).length := by rw [hga]; simp [ByteArray.size]
  have haa : ¬ 9223372036854775807 < ta.size + 2 := by omega
  have haa2 : ¬ 9223372036854775807 < 2 + ta.size := by omega
  have HSA := Lib.hid (show (ta ++ spdot).size ≤ 140737488351232 from by rw [ByteArray.size_append]; show ta.size + 2 ≤ _; omega)
  have HGA := Lib.hid hga
  have HHA := Lib.hid hha
  have hbl : bl (ta ++ spdot) = writeT opsB t ++ [32, 46] := by rw [hga]; exact bl_spdot _
  have hsr := settle_read (xs := opsB) (by kernel_rfl) HTR.out (tm_nums t _ HTV.out)
  rw [← hbl] at hsr
  have HSR := Lib.hid hsr
  clear hga hha hgl hhl hsz hbl hsr HGG HHH
  have HP := plain_walk wF
  (go_wp2_with fail; go_fit (HP); rintro e wG ⟨vG, rfl, oG, hbG⟩)
  have HBG0 := Lib.hid (Ext.trans' HBF0.out hbG)
  have HBG := Lib.hid (Ext.trans' HB9.out HBG0.out)
  clear HP hbG HBF
  have hRA := term8_at oG (ta ++ spdot) (HE.out.err.ext HBG.out) HSA.out
  unfold TermX at hRA
  rcases HSR.out with ⟨l, hcut, hread⟩ | ⟨q, hcut⟩
  case inr =>
    have hr3 : readB oneR opsB (bl (ta ++ spdot)) = .bad 3 := by
      unfold readB
      rw [if_pos (by kernel_rfl), hcut]
      rfl
    rw [hr3] at hRA
    clear hcut HSR hr3 oG
    (go_wp2_with fail; go_fit (hRA); rintro e wH ⟨rfl, hbH⟩)
    have HBH := Lib.hid (Ext.trans' HBG.out hbH)
    clear hbH hRA
    go_wp2
    go_ret
    exact ⟨rfl, Ext.trans' HBH.out (bel1' _ _)⟩
  rw [hread] at hRA
  clear hcut hread oG HSR
  (go_wp2_with fail; go_fit (hRA); rintro e wH ⟨⟨vx, vn2, rfl, hxv, _⟩, hbH⟩)
  obtain ⟨kx, nx, sx, ax, mx, cx, rfl⟩ := hxv.full
  have HBH0 := Lib.hid (Ext.trans' HBG0.out hbH)
  have HBH := Lib.hid (Ext.trans' HB9.out HBH0.out)
  obtain ⟨wI, hwI, hbI, hzI, hxI⟩ := box_new wH #[.int .i64 0, .int .i64 0, .string ⟨#[]⟩, .slice none 0 0] 27
  obtain ⟨wJ, hwJ⟩ : ∃ q, set4 wI wH.heap.size (.int .i64 kx) (.int .i64 nx) (.string sx) (.slice ax mx cx) = q := ⟨_, rfl⟩
  have hbJ : Below wH.heap.size wH wJ := hwJ ▸ Below.set4 hbI (Nat.le_refl _) _ _ _ _
  have HBJ0 := Lib.hid (Ext.trans' HBH0.out hbJ)
  have HBJ := Lib.hid (Ext.trans' HB9.out HBJ0.out)
  have HXX := Lib.hid (show Box wJ wH.heap.size [.int .i64 kx, .int .i64 nx, .string sx, .slice ax mx cx] from hwJ ▸ hxI.all4 _ _ _ _)
  have HXV := Lib.hid (TmV.ext hbJ _ _ hxv)
  obtain ⟨q0, q1, q2, q3, qf⟩ := hxI.four
  clear hbH hbI hzI hxI hbJ hxv hRA
  go_wp2_with fail
  (try rw [hwI])
  (try rw [hwJ])
  clear q0 q1 q2 q3 qf hwI hwJ
  obtain ⟨bx, hbx⟩ : ∃ q, wH.heap.size = q := ⟨_, rfl⟩
  have HXY := Lib.hid (hbx ▸ HXX.out)
  (try rw [hbx])
  clear hbx HXX
  obtain ⟨b0, b1, b2, b3, bf⟩ := HXY.out.four
  refine wp_region_held_drew (S := fun w' => (w'.cell? ⟨bx, 0, none⟩ = some (.int .i64 kx) ∧ w'.cell? ⟨bx, 1, none⟩ = some (.int .i64 nx) ∧ w'.cell? ⟨bx, 2, none⟩ = some (.string sx) ∧ w'.cell? ⟨bx, 3, none⟩ = some (.slice ax mx cx)) ∧ Below wJ.heap.size wJ w') (by kernel_rfl) ⟨⟨b0, b1, b2, b3⟩, (Below.refl _ _).drew⟩ (fun hHeld => ?_)
  first | (refine held_t (i := 1) hHeld ?_; apply Exists.intro; refine ⟨fun wq hq => ?_, ?_⟩; (focus ((try dsimp only at hq); go_simp; (first | done | with_reducible rfl | fail)))) | refine held_s (i := 1) hHeld ?_ | fail
  try simp only [Act.put, List.setIfInBounds_toArray, List.set_cons_zero, List.set_cons_succ]
  refine held_c 0 fun K hK => ?_
  go_simp
  (go_at_call 17; refine (plain_walk _).mono ?_; rintro e wK ⟨vK, rfl, oK, hbK⟩)
  refine hK.out _ _ (⟨⟨cell_later hbK hHeld.1.1, cell_later hbK hHeld.1.2.1, cell_later hbK hHeld.1.2.2.1, cell_later hbK hHeld.1.2.2.2⟩, Ext.trans' hHeld.2 hbK⟩) (fun hHeld => ?_)
  clear hK K
  try simp only [Act.put, List.setIfInBounds_toArray, List.set_cons_zero, List.set_cons_succ]
  refine held_c 2 fun K hK => ?_
  go_simp
  (go_at_call 25; refine (wterm_at (HE.out.ext (Ext.trans' HBJ.out hHeld.2)) oK (TmV.ext hHeld.2 _ _ HXV.out)).mono ?_; rw [HTA.out]; rintro e wL ⟨rfl, hbL⟩)
  refine hK.out _ _ (⟨⟨cell_later hbL hHeld.1.1, cell_later hbL hHeld.1.2.1, cell_later hbL hHeld.1.2.2.1, cell_later hbL hHeld.1.2.2.2⟩, Ext.trans' hHeld.2 hbL⟩) (fun hHeld => ?_)
  clear hK K
  try simp only [Act.put, List.setIfInBounds_toArray, List.set_cons_zero, List.set_cons_succ]
  first | (refine held_t (i := 3) hHeld ?_; apply Exists.intro; refine ⟨fun wq hq => ?_, ?_⟩; (focus ((try dsimp only at hq); go_simp; (first | done | with_reducible rfl | fail)))) | refine held_s (i := 3) hHeld ?_ | fail
  first | (refine held_t (i := 4) hHeld ?_; apply Exists.intro; refine ⟨fun wq hq => ?_, ?_⟩; (focus ((try dsimp only at hq); go_simp; (first | done | with_reducible rfl | fail)))) | refine held_s (i := 4) hHeld ?_ | fail
  try simp only [Act.put, List.setIfInBounds_toArray, List.set_cons_zero, List.set_cons_succ]
  first | (refine held_t (i := 5) hHeld ?_; apply Exists.intro; refine ⟨fun wq hq => ?_, ?_⟩; (focus ((try dsimp only at hq); go_simp; (first | done | with_reducible rfl | fail)))) | refine held_s (i := 5) hHeld ?_ | fail
  first | (refine held_t (i := 6) hHeld ?_; apply Exists.intro; refine ⟨fun wq hq => ?_, ?_⟩; (focus ((try dsimp only at hq); go_simp; (first | done | with_reducible rfl | fail)))) | refine held_s (i := 6) hHeld ?_ | fail
  try simp only [Act.put, List.setIfInBounds_toArray, List.set_cons_zero, List.set_cons_succ]
  first | (refine held_t (i := 7) hHeld ?_; apply Exists.intro; refine ⟨fun wq hq => ?_, ?_⟩; (focus ((try dsimp only at hq); go_simp; (first | done | with_reducible rfl | fail)))) | refine held_s (i := 7) hHeld ?_ | fail
  try simp only [Act.put, List.setIfInBounds_toArray, List.set_cons_zero, List.set_cons_succ]
  refine wpAnyH_done (by kernel_rfl) ?_ _
  have HBL0 := Lib.hid (Ext.trans' HBJ0.out hHeld.2)
  have HBL := Lib.hid (Ext.trans' HB9.out HBL0.out)
  clear hHeld b0 b1 b2 b3 bf oK HBH0 HBH HBJ0 HBJ HBG0 HBG HBF0 HBD0
  have hTL := wplain_at (HE.out.ext HBL.out) (TmV.ext HBL0.out _ _ HTV.out)
  rw [(read_fit HTR.out).1, textX_ok (settle_short (by rw [bl_cat, List.length_append]; show _ + 2 ≤ _; have := HZS.out; rw [size_bl] at this; omega) HTR.out)] at hTL
  obtain ⟨b0, b1, b2, b3, bf⟩ := (HXT.out.ext HBL0.out).four
  (go_wp2_with fail; go_fit (hTL); rintro e wM ⟨rfl, hbM⟩)
  have HBM0 := Lib.hid (Ext.trans' HBL0.out hbM)
  have HBM := Lib.hid (Ext.trans' HB9.out HBM0.out)
  clear hbM hTL b0 b1 b2 b3 bf HBL0 HBL
  have hUL := wplain_at (HE.out.ext HBM.out) (TmV.ext HBM0.out _ _ HUV.out)
  rw [(read_fit HUR.out).1, textX_ok (settle_short (by rw [bl_cat, List.length_append]; show _ + 2 ≤ _; have := HZR.out; rw [size_bl] at this; omega) HUR.out)] at hUL
  obtain ⟨b0, b1, b2, b3, bf⟩ := (HXU.out.ext HBM0.out).four
  (go_wp2_with fail; go_fit (hUL); rintro e wN ⟨rfl, hbN⟩)
  have HBN0 := Lib.hid (Ext.trans' HBM0.out hbN)
  have HBN := Lib.hid (Ext.trans' HB9.out HBN0.out)
  clear hbN hUL b0 b1 b2 b3 bf HBM0 HBM
  obtain ⟨b0, b1, b2, b3, bf⟩ := (HXT.out.ext HBN0.out).four
  obtain ⟨d0, d1, d2, d3, df⟩ := (HXU.out.ext HBN0.out).four
  have HS1 := Lib.hid (fun (wq : World) (hq : Below w9.heap.size w9 wq) => Same_at (TmV.ext hq _ _ HTV.out) (TmV.ext hq _ _ HUV.out))
  have hgt := (read_fit HTR.out).1
  have hgu := (read_fit HUR.out).1
  obtain ⟨pa, hpa⟩ : ∃ q : ByteArray, (⟨(PLAIN (varsT t []) t).toArray⟩ : ByteArray) = q := ⟨_, rfl⟩
  obtain ⟨qa, hqa⟩ : ∃ q : ByteArray, (⟨(PLAIN (varsT u []) u).toArray⟩ : ByteArray) = q := ⟨_, rfl⟩
  (try rw [hpa])
  (try rw [hqa])
  have hnt := tm_nums t _ HTV.out
  have hnu := tm_nums u _ HUV.out
  obtain ⟨D, hD, hT, hP⟩ : ∃ D, sameT t u = D ∧ (ta.toList == ua.toList) = D ∧ (pa.toList == qa.toList) = D := by
    refine ⟨_, rfl, ?_, ?_⟩
    · rw [HGA.out, HHA.out, Bool.eq_iff_iff, str_settle, same_iff]
      exact settle_write (by kernel_rfl) HTR.out HUR.out hnt hnu
    · rw [← hpa, ← hqa, Bool.eq_iff_iff, str_settle, same_iff]
      exact settle_plain HTR.out HUR.out hnt hnu
  rw [hgt, hgu, hD] at HS1
  simp only [Bool.true_and] at HS1
  have hS := HS1.out wN HBN0.out
  clear hgt hgu hpa hqa hnt hnu
  (go_wp2_with fail; go_fit (hS); rintro e wO ⟨rfl, hbO⟩)
  have HBO0 := Lib.hid (Ext.trans' HBN0.out hbO)
  have HBO := Lib.hid (Ext.trans' HB9.out HBO0.out)
  clear hbO hS b0 b1 b2 b3 bf d0 d1 d2 d3 df
  obtain ⟨b0, b1, b2, b3, bf⟩ := (HXT.out.ext HBO0.out).four
  obtain ⟨d0, d1, d2, d3, df⟩ := (HXU.out.ext HBO0.out).four
  have hS := HS1.out wO HBO0.out
  (go_wp2_with fail; go_fit (hS); rintro e wP ⟨rfl, hbP⟩)
  have HBP := Lib.hid (Ext.trans' HBO.out hbP)
  clear hbP hS b0 b1 b2 b3 bf d0 d1 d2 d3 df
  go_wp2
  go_ret
  exact ⟨rfl, HBP.out⟩
end Go.Proofs.YtobdhcaoeholhaaGreatDoor
/- What the cards of this seat share: the package variables of the standard library. -/
namespace Go.Proofs.YtobdhcaoeholhaaGreatDoor
open Go.Shelf Go.RowKit
set_option linter.unusedVariables false

theorem con_of {l : List (String × DataW Unit)} {w : World} (hl : (l.all fun x => x.2.handleName?.isNone) = true) (hf : l.filter (fun x => x.1 == "internal/strconv.uint64pow10") = [("internal/strconv.uint64pow10", Lib.tabData .u64 Lib.pow10Tab)]) (h : laidMetH Tryz.prog l w) (he : Err w) : Con w := by
  rw [MakeChecks.laidMetH_plain _ _ _ hl] at h
  have h1 := h.filter (fun x => x.1 == "internal/strconv.uint64pow10")
  rw [hf] at h1
  exact ⟨Lib.tabIs_of_head gPow (by kernel_rfl) (t := 227) (e := 207) (n := 20) Tryz.underlying227 Tryz.underlying207 (by kernel_rfl) (by kernel_rfl) h1, he⟩
end Go.Proofs.YtobdhcaoeholhaaGreatDoor
/- WriteSettles, handed in: the law answers true. The card ties the package variables of the standard library that its row lists. -/
namespace Go.Proofs.YtobdhcaoeholhaaGreatDoor
open Go.Shelf Go.RowKit
set_option linter.unusedVariables false

theorem settles_law (s : ByteArray) (_hs : s.size ≤ 140737488351232) (r : ByteArray) (_hr : r.size ≤ 140737488351232) {w : World} (hc : Con w) : Calls Tryz.prog 11 #[.string s, .string r] w fun e w' => e = .returned (.bool true) ∧ Below w.heap.size w w' := settles_walk hc s r
theorem ctxWv {w : World} (h : laidMetH Tryz.prog Rows.writeSettlesRow.laid w) : Con w := con_of (by kernel_rfl) (by kernel_rfl) h (err_of (text := [118, 97, 108, 117, 101, 32, 111, 117, 116, 32, 111, 102, 32, 114, 97, 110, 103, 101]) (by kernel_rfl) (by kernel_rfl) rfl h)
namespace writeSettles
open Go.ChangeShapes Go.WideShapes Go.ChangeAt Go.RowKit
theorem own : ownKnob Tryz.prog.godebug = none := by kernel_rfl
theorem laidOut : laidOutB Tryz.prog = true := by kernel_rfl
set_option linter.unusedVariables false
set_option maxRecDepth 100000 in
theorem lifted (os : Os) (started : os.Started) (H : Type) (enc : TypeId × Value → H) :
    ReturnsInHanded {} Tryz.checked os 11 .any (fun w args => (Rows.writeSettlesSpec.pre enc Tryz.prog Tryz.f11 [] false w args ∧ laidMetH Tryz.prog Rows.writeSettlesRow.laid w) ∧ sizedMet enc Tryz.prog Tryz.f11 (OpenSpec.ofChange Rows.writeSettlesSpec) false w args)
      (Rows.writeSettlesSpec.post enc Tryz.prog Tryz.f11 false true false false) := by
  refine returnsInHanded_of_change_and (C := Tryz.checked) (X := fun w _ => laidMetH Tryz.prog Rows.writeSettlesRow.laid w) (fun _ _ _ hh h => h.of_heap hh) own started (by kernel_rfl) Tryz.func11
    (ChangeSpec.witness_shaped (enc := enc) (C := Tryz.checked) (os := os) (X := fun w _ => laidMetH Tryz.prog Rows.writeSettlesRow.laid w) false (World.laidAll Tryz.prog os Rows.writeSettlesRow.laid) #[.string ⟨#[]⟩, .string ⟨#[]⟩] 8 (World.laidAll_os _ _ _)
      (World.shaped_of_ZipB (by kernel_rfl) (by kernel_rfl)) (by kernel_rfl) (by kernel_rfl) (by kernel_rfl)
      (by rw [MakeChecks.laidMetH_plain _ _ _ (by kernel_rfl)]; exact laidMet_laidAll _ (by kernel_rfl) (by kernel_rfl))) ?_
  intro W base args ds gs before hval0 hW hcnd hsz0 hL _
  have hval : ∀ (j : Nat) t v, Tryz.f11.params[j]? = some t → args[j]? = some v → Value.okWide Tryz.prog W .any base t v := hval0
  have hW' := hW
  obtain ⟨p, q, hA0, hV, rfl, hfz, hnd⟩ := hW
  have hA : DataW.TrodAll enc Tryz.prog W 0 (fun _ => true) true Tryz.f11.params.toList args.toList ds p := hA0
  have hsz : (DataW.weightsEach Tryz.prog (Tryz.f11.params.toList ++ []) (ds ++ gs)).all (· ≤ reachBytes) = true := hsz0
  rw [Tryz.params11] at hA hval hsz
  obtain ⟨v0, vs0, d0, ds0, p0, q0, hargs, rfl, rfl, h0, r0⟩ := trodAll_cons hA
  obtain ⟨v1, vs1, d1, ds1, p1, q1, rfl, rfl, rfl, h1, r1⟩ := trodAll_cons r0
  obtain ⟨rfl, rfl, rfl⟩ := trodAll_nil r1
  obtain rfl : args = #[v0, v1] := by cases args; simp_all
  obtain ⟨rfl, rfl⟩ := trodVars_none hV
  clear hA0 hval0 hsz0
  have k0 := h0
  have lt0 := lt_of_trod h0
  have k1 := h1
  have lt1 := lt_of_trod h1
  obtain ⟨a0, rfl, e0, rfl, w0⟩ := ChangeMaps.open_string Tryz.underlying9 (hval 0 9 v0 rfl rfl) h0
  have s0 : a0.size ≤ 140737488351232 := weights_ok hsz (j := 0) (t := 9) (d := d0) rfl rfl _ (by rw [e0]; simp [DataW.weights])
  obtain ⟨a1, rfl, e1, rfl, w1⟩ := ChangeMaps.open_string Tryz.underlying9 (hval 1 9 v1 rfl rfl) h1
  have s1 : a1.size ≤ 140737488351232 := weights_ok hsz (j := 1) (t := 9) (d := d1) rfl rfl _ (by rw [e1]; simp [DataW.weights])
  refine (settles_law a0 s0 a1 s1 (ctxWv hL)).mono fun e W' ⟨he, bel⟩ => ?_
  subst he
  exact ⟨_, rfl, _, _, _, [], _, [], hW', trodAll_mk1 (shut_bool Tryz.underlying4 _), (trodAll_cons_mk (Below.trod laidOut (by kernel_rfl) (of_decide_eq_true (by kernel_rfl)) k0 bel lt0) (trodAll_cons_mk (Below.trod laidOut (by kernel_rfl) (of_decide_eq_true (by kernel_rfl)) k1 bel lt1) trodAll_mk0)), rfl, bel.frame _, fun h => by cases h⟩
theorem proved : Rows.WriteSettlesSaid :=
  OpenClaim.holds_of_wide 11 Tryz.f11 rfl rfl rfl rfl rfl rfl rfl ⟨rfl, rfl, rfl, rfl, rfl⟩ rfl rfl rfl rfl rfl (by kernel_rfl) Tryz.func11 (by kernel_rfl)
    (of_decide_eq_true (by kernel_rfl)) (by unfold Func.isWrapper; first | (rw [if_pos (by decide +kernel)]; kernel_rfl) | (rw [if_neg (by decide +kernel)]; exact ⟨rfl, rfl⟩))
    (fun os started H enc _ => lifted os started H enc)
theorem carded : Rows.WriteSettlesCardSaid :=
  Claim7.holds_tied_plain_at .later [] [.data, .data, .data, .sentinel, .sentinel] true (true, "f00b49542ba4a8c92a7fc946f6030d37583e9e6c28cfd70f94577bd756c544ac") true
    proved (fun _ h => by cases h) (by kernel_rfl) (fun _ h => by cases h) writeSettles_row_tie rfl ⟨rfl, rfl⟩ (by kernel_rfl) rfl
    (fun f fn hf hfn => by
      obtain rfl : f = 11 := Option.some.inj ((show Tryz.prog.funcNamed "sizar/sizarlaw9.WriteSettles" = some 11 by kernel_rfl).symm.trans hf) |>.symm
      obtain rfl : fn = Tryz.f11 := (Option.some.inj (Tryz.func11.symm.trans hfn)).symm
      exact ⟨by kernel_rfl, fun j t ht => by
        rw [Tryz.params11] at ht
        have hm : t ∈ [9, 9] := by simpa using Array.mem_of_getElem? ht
        have hall : ([9, 9].all fun u => !Tryz.prog.wantsStandIn u) = true := by kernel_rfl
        exact (show Tryz.prog.wantsStandIn t = false by simpa using List.all_eq_true.1 hall t hm)⟩)
    (by kernel_rfl)
#print axioms carded
end writeSettles

end Go.Proofs.YtobdhcaoeholhaaGreatDoor
