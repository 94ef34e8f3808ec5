/- Terms: which the document's own calls good: all of it. -/
import Derived.Test.YtnnadmabgaopdaaTmC
namespace Go.Proofs.Ytnnadmabgaopdaa
open Go.RowKit
set_option linter.unusedVariables false

set_option maxHeartbeats 4000000 in
set_option maxRecDepth 100000 in
theorem rformed_at : ∀ (N : Nat) (x : Tm), sizeN x ≤ N → ∀ (w : World) (v : Value), TmV w x v →
    Calls Try.prog 26 #[v] w fun e w' => e = .returned (.bool (formedT x)) ∧ Below w.heap.size w w'
  | 0, x, h, w, v, hv => by have := size_pos x; omega
  | N + 1, .mk k n s ts, h, w, v, hv => by
    obtain ⟨u, rfl, hs, hk, hn, hu⟩ := tmV_iff.1 hv
    obtain ⟨a, c, rfl, h1, h2, h3⟩ := hu.len
    unfold BIG at h3 hs
    obtain ⟨m, hm⟩ : ∃ m, ts.length = m := ⟨_, rfl⟩
    by_cases k0 : k = 0
    · subst k0
      have hp : plainT 0 n s.data.toList ts.length = (decide (0 ≤ n) && decide (n < 2147483648) && decide (s.size = 0) && decide (m = 0)) := by
        unfold plainT; rw [if_pos rfl, isEmpty_size, hm]
      by_cases g1 : 0 ≤ n
      · by_cases g2 : n < 2147483648
        · by_cases g3 : s.size = 0
          · have g3' := toList_empty g3
            by_cases g4 : m = 0
            · obtain rfl : ts = [] := List.length_eq_zero_iff.1 (by rw [hm, g4])
              rw [formed_leaf (by rw [List.length_nil] at hp; rw [hp]; simp [g1, g2, g3, g4])]
              rw [g4] at hm
              clear hp hv hu hm g3
              go_enter Try.func26, Try.ntmps26
              go_wp2
              go_ret
              exact ⟨rfl, bel1' _ _⟩
            · rw [formed_no (by rw [hp]; simp [g4])]
              have g4' : ((m : Int) == 0) = false := by apply beq_false_of_ne; omega
              rw [hm] at h1 h3 ⊢
              clear hp hv hu hm g3 h
              go_enter Try.func26, Try.ntmps26
              go_wp2
              go_ret
              exact ⟨rfl, bel1' _ _⟩
          · rw [formed_no (by rw [hp]; simp [g3])]
            have g3' := toList_some g3
            clear hp hv hu h
            go_enter Try.func26, Try.ntmps26
            go_wp2
            go_ret
            exact ⟨rfl, bel1' _ _⟩
        · rw [formed_no (by rw [hp]; simp [g2])]
          clear hp hv hu h
          go_enter Try.func26, Try.ntmps26
          go_wp2
          go_ret
          exact ⟨rfl, bel1' _ _⟩
      · rw [formed_no (by rw [hp]; simp [g1])]
        clear hp hv hu h
        go_enter Try.func26, Try.ntmps26
        go_wp2
        go_ret
        exact ⟨rfl, bel1' _ _⟩
    by_cases k1 : k = 1
    · subst k1
      have hp : plainT 1 n s.data.toList ts.length = (decide (s.size = 0) && decide (m = 0)) := by
        unfold plainT; rw [if_neg (by decide), if_pos rfl, isEmpty_size, hm]
      by_cases g3 : s.size = 0
      · have g3' := toList_empty g3
        by_cases g4 : m = 0
        · obtain rfl : ts = [] := List.length_eq_zero_iff.1 (by rw [hm, g4])
          rw [formed_leaf (by rw [List.length_nil] at hp; rw [hp]; simp [g3, g4])]
          clear hp hv hu hm g3
          go_enter Try.func26, Try.ntmps26
          go_wp2
          go_ret
          exact ⟨rfl, bel1' _ _⟩
        · rw [formed_no (by rw [hp]; simp [g4])]
          have g4' : ((m : Int) == 0) = false := by apply beq_false_of_ne; omega
          rw [hm] at h1 h3 ⊢
          clear hp hv hu hm g3 h
          go_enter Try.func26, Try.ntmps26
          go_wp2
          go_ret
          exact ⟨rfl, bel1' _ _⟩
      · rw [formed_no (by rw [hp]; simp [g3])]
        have g3' := toList_some g3
        clear hp hv hu h
        go_enter Try.func26, Try.ntmps26
        go_wp2
        go_ret
        exact ⟨rfl, bel1' _ _⟩
    have k0' : (k == 0) = false := beq_false_of_ne k0
    have k1' : (k == 1) = false := beq_false_of_ne k1
    by_cases k2 : k = 2
    · subst k2
      have hp : plainT 2 n s.data.toList ts.length = (decide (n = 0) && decide (s.size ≤ 64) && decide (m ≤ 8) && s.data.toList.all letterB) := by
        unfold plainT; rw [if_neg (by decide), if_neg (by decide), if_pos rfl, hm]; rfl
      by_cases g1 : n = 0
      · subst g1
        by_cases g2 : 64 < s.size
        · rw [formed_no (by rw [hp]; simp; omega)]
          clear hp hv hu h k0 k1 k0' k1'
          go_enter Try.func26, Try.ntmps26
          go_wp2
          go_ret
          exact ⟨rfl, bel1' _ _⟩
        · by_cases g3 : 8 < m
          · rw [formed_no (by rw [hp]; simp; omega)]
            rw [hm] at h1 h3 ⊢
            clear hp hv hu hm h k0 k1 k0' k1'
            go_enter Try.func26, Try.ntmps26
            go_wp2
            go_ret
            exact ⟨rfl, bel1' _ _⟩
          · have IH := Lib.hid (fun (y : Tm) (hy : y ∈ ts) => rformed_at N y (mem_size h hy))
            have HP := Lib.hid (show formedT (.mk 2 0 s ts) = (s.data.toList.all letterB && formedL ts) by
              rw [formed_mk, hp]
              have e1 : decide (s.size ≤ 64) = true := decide_eq_true (by omega)
              have e2 : decide (m ≤ 8) = true := decide_eq_true (by omega)
              rw [e1, e2]
              simp)
            rw [hm] at h1 h3 hu ⊢
            exact rformed_two hs h1 h2 h3 g2 g3 (Lib.hid hm) (Lib.hid hu) HP IH
      · rw [formed_no (by rw [hp]; simp [g1])]
        have g1' : (n == 0) = false := beq_false_of_ne g1
        clear hp hv hu h k0 k1 k0' k1'
        go_enter Try.func26, Try.ntmps26
        go_wp2
        go_ret
        exact ⟨rfl, bel1' _ _⟩
    · rw [formed_no (by unfold plainT; rw [if_neg k0, if_neg k1, if_neg k2])]
      have k2' : (k == 2) = false := beq_false_of_ne k2
      clear hv hu h k0 k1 k2
      go_enter Try.func26, Try.ntmps26
      go_wp2
      go_ret
      exact ⟨rfl, bel1' _ _⟩
theorem rgood_at (x : Tm) (w : World) (v : Value) (hv : TmV w x v) : Calls Try.prog 17 #[v] w fun e w' => e = .returned (.bool (goodT x)) ∧ Below w.heap.size w w' := by
  obtain ⟨k, n, s, ts, rfl⟩ : ∃ k n s ts, x = .mk k n s ts := by cases x; exact ⟨_, _, _, _, rfl⟩
  obtain ⟨u, rfl, _, _, _, _⟩ := tmV_iff.1 hv
  obtain ⟨x, hxe⟩ : ∃ x, Tm.mk k n s ts = x := ⟨_, rfl⟩
  rw [hxe] at hv ⊢
  clear hxe
  obtain ⟨v, hve⟩ : ∃ v, Value.agg #[.int .i64 k, .int .i64 n, .string s, u] = v := ⟨_, rfl⟩
  have S := fun w (h : TmV w x v) => rsize_at _ x (Nat.le_refl _) 2000 (by omega) w v h
  have D := fun w (h : TmV w x v) => rdepth_at 64 x (by omega) w v h
  have F := fun w (h : TmV w x v) => rformed_at _ x (Nat.le_refl _) w v h
  rw [← hve] at S D F
  subst hve
  have hg : goodT x = (decide (sizeN x ≤ 2000) && decide (depthN x ≤ 64) && formedT x) := rfl
  have HG := Lib.hid hg
  clear hg
  generalize formedT x = f at F HG
  obtain ⟨p, hp⟩ : ∃ p, min (sizeN x) (2000 + 1) = p := ⟨_, rfl⟩
  obtain ⟨q, hq⟩ : ∃ q, min (depthN x) (64 + 1) = q := ⟨_, rfl⟩
  rw [hp] at S
  rw [hq] at D
  have hP := Lib.hid (show (sizeN x ≤ 2000) ↔ p ≤ 2000 by omega)
  have hQ := Lib.hid (show (depthN x ≤ 64) ↔ q ≤ 64 by omega)
  clear hp hq
  by_cases h1 : p ≤ 2000
  · by_cases h2 : q ≤ 64
    · have hr : goodT x = f := by rw [HG.out, decide_eq_true (hP.out.2 h1), decide_eq_true (hQ.out.2 h2)]; rfl
      rw [hr]
      clear hr HG hP hQ
      go_enter Try.func17, Try.ntmps17
      have hv0 := TmV.ext (bel1' w (.cells #[.int .i64 k, .int .i64 n, .string s, u] 38)) _ _ hv
      (go_wp2_with fail; go_fit (S _ hv0); rintro e w1 ⟨rfl, b1⟩)
      obtain ⟨e0, e1, e2, e3⟩ := box_cells w 38 _ _ _ _ b1
      have hv1 := TmV.ext b1 _ _ hv0
      (go_wp2_with fail; go_fit (D _ hv1); rintro e w2 ⟨rfl, b2⟩)
      have e0 := cell_later b2 e0
      have e1 := cell_later b2 e1
      have e2 := cell_later b2 e2
      have e3 := cell_later b2 e3
      (go_wp2_with fail; go_fit (F _ (TmV.ext b2 _ _ hv1)); rintro e w3 ⟨rfl, b3⟩)
      have B3 := Lib.hid (Ext.trans' (bel1' w _) (Ext.trans' b1 (Ext.trans' b2 b3)))
      clear b1 b2 b3
      go_wp2
      go_ret
      exact ⟨rfl, B3.out⟩
    · have hr : goodT x = false := by rw [HG.out, decide_eq_false (fun h => h2 (hQ.out.1 h))]; simp
      rw [hr]
      clear hr HG hP hQ
      go_enter Try.func17, Try.ntmps17
      have hv0 := TmV.ext (bel1' w (.cells #[.int .i64 k, .int .i64 n, .string s, u] 38)) _ _ hv
      (go_wp2_with fail; go_fit (S _ hv0); rintro e w1 ⟨rfl, b1⟩)
      obtain ⟨e0, e1, e2, e3⟩ := box_cells w 38 _ _ _ _ b1
      have hv1 := TmV.ext b1 _ _ hv0
      (go_wp2_with fail; go_fit (D _ hv1); rintro e w2 ⟨rfl, b2⟩)
      have e0 := cell_later b2 e0
      have e1 := cell_later b2 e1
      have e2 := cell_later b2 e2
      have e3 := cell_later b2 e3
      have B3 := Lib.hid (Ext.trans' (bel1' w _) (Ext.trans' b1 b2))
      clear b1 b2
      go_wp2
      go_ret
      exact ⟨rfl, B3.out⟩
  · have hr : goodT x = false := by rw [HG.out, decide_eq_false (fun h => h1 (hP.out.1 h))]; rfl
    rw [hr]
    clear hr HG hP hQ
    go_enter Try.func17, Try.ntmps17
    have hv0 := TmV.ext (bel1' w (.cells #[.int .i64 k, .int .i64 n, .string s, u] 38)) _ _ hv
    (go_wp2_with fail; go_fit (S _ hv0); rintro e w1 ⟨rfl, b1⟩)
    obtain ⟨e0, e1, e2, e3⟩ := box_cells w 38 _ _ _ _ b1
    have B3 := Lib.hid (Ext.trans' (bel1' w _) b1)
    clear b1
    go_wp2
    go_ret
    exact ⟨rfl, B3.out⟩
end Go.Proofs.Ytnnadmabgaopdaa
