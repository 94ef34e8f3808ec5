import Derived.Test.YtbbbgijlbcmpbaaHjiac
import Derived.Test.YtbbbgijlbcmpbaaHjiab
import Derived.Deep.QuietTactic
import Derived.Test.YtbbbgijlbcmpbaaHjiaa
import Derived.Ground.SlgnProg
import Derived.Shelf.SlicesE.Reverse
import Derived.Test.YtbbbgijlbcmpbaaProg
import Derived.Shelf.SlGeneric
import Derived.Lib.OwnBridge
import Derived.Lib.RowBridge
import Derived.Deep.Cut
import Derived.Deep.CutRange
import Derived.Deep.DeepCutAuto
import Derived.Deep.RegionHeld3
set_option linter.unusedVariables false
set_option linter.unusedSimpArgs false
/- Terms: which the document's own calls good: all of it. -/
namespace Go.Proofs.Ytbbbgijlbcmpbaa
open Go.RowKit
set_option linter.unusedVariables false

set_option maxHeartbeats 4000000 in
set_option maxRecDepth 100000 in
theorem rformed_at : ∀ (N : Nat) (x : Tm), sizeN x ≤ N → ∀ (w : World) (v : Value), TmV w x v →
    Calls Try.prog 91 #[v] w fun e w' => e = .returned (.bool (formedT x)) ∧ Below w.heap.size w w'
  | 0, x, h, w, v, hv => by have := size_pos x; omega
  | N + 1, .mk k n s ts, h, w, v, hv => by
    obtain ⟨u, rfl, hs, hk, hn, hu⟩ := tmV_iff.1 hv
    obtain ⟨a, c, rfl, h1, h2, h3⟩ := hu.len
    unfold BIG at h3 hs
    obtain ⟨m, hm⟩ : ∃ m, ts.length = m := ⟨_, rfl⟩
    by_cases k0 : k = 0
    · subst k0
      have hp : plainT 0 n s.data.toList ts.length = (decide (0 ≤ n) && decide (n < 2147483648) && decide (s.size = 0) && decide (m = 0)) := by
        unfold plainT; rw [if_pos rfl, isEmpty_size, hm]
      by_cases g1 : 0 ≤ n
      · by_cases g2 : n < 2147483648
        · by_cases g3 : s.size = 0
          · have g3' := toList_empty g3
            by_cases g4 : m = 0
            · obtain rfl : ts = [] := List.length_eq_zero_iff.1 (by rw [hm, g4])
              rw [formed_leaf (by rw [List.length_nil] at hp; rw [hp]; simp [g1, g2, g3, g4])]
              rw [g4] at hm
              clear hp hv hu hm g3
              go_enter Try.func91, Try.ntmps91
              go_wp2
              go_ret
              exact ⟨rfl, bel1' _ _⟩
            · rw [formed_no (by rw [hp]; simp [g4])]
              have g4' : ((m : Int) == 0) = false := by apply beq_false_of_ne; omega
              rw [hm] at h1 h3 ⊢
              clear hp hv hu hm g3 h
              go_enter Try.func91, Try.ntmps91
              go_wp2
              go_ret
              exact ⟨rfl, bel1' _ _⟩
          · rw [formed_no (by rw [hp]; simp [g3])]
            have g3' := toList_some g3
            clear hp hv hu h
            go_enter Try.func91, Try.ntmps91
            go_wp2
            go_ret
            exact ⟨rfl, bel1' _ _⟩
        · rw [formed_no (by rw [hp]; simp [g2])]
          clear hp hv hu h
          go_enter Try.func91, Try.ntmps91
          go_wp2
          go_ret
          exact ⟨rfl, bel1' _ _⟩
      · rw [formed_no (by rw [hp]; simp [g1])]
        clear hp hv hu h
        go_enter Try.func91, Try.ntmps91
        go_wp2
        go_ret
        exact ⟨rfl, bel1' _ _⟩
    by_cases k1 : k = 1
    · subst k1
      have hp : plainT 1 n s.data.toList ts.length = (decide (s.size = 0) && decide (m = 0)) := by
        unfold plainT; rw [if_neg (by decide), if_pos rfl, isEmpty_size, hm]
      by_cases g3 : s.size = 0
      · have g3' := toList_empty g3
        by_cases g4 : m = 0
        · obtain rfl : ts = [] := List.length_eq_zero_iff.1 (by rw [hm, g4])
          rw [formed_leaf (by rw [List.length_nil] at hp; rw [hp]; simp [g3, g4])]
          clear hp hv hu hm g3
          go_enter Try.func91, Try.ntmps91
          go_wp2
          go_ret
          exact ⟨rfl, bel1' _ _⟩
        · rw [formed_no (by rw [hp]; simp [g4])]
          have g4' : ((m : Int) == 0) = false := by apply beq_false_of_ne; omega
          rw [hm] at h1 h3 ⊢
          clear hp hv hu hm g3 h
          go_enter Try.func91, Try.ntmps91
          go_wp2
          go_ret
          exact ⟨rfl, bel1' _ _⟩
      · rw [formed_no (by rw [hp]; simp [g3])]
        have g3' := toList_some g3
        clear hp hv hu h
        go_enter Try.func91, Try.ntmps91
        go_wp2
        go_ret
        exact ⟨rfl, bel1' _ _⟩
    have k0' : (k == 0) = false := beq_false_of_ne k0
    have k1' : (k == 1) = false := beq_false_of_ne k1
    by_cases k2 : k = 2
    · subst k2
      have hp : plainT 2 n s.data.toList ts.length = (decide (n = 0) && decide (s.size ≤ 64) && decide (m ≤ 8) && s.data.toList.all letterB) := by
        unfold plainT; rw [if_neg (by decide), if_neg (by decide), if_pos rfl, hm]; rfl
      by_cases g1 : n = 0
      · subst g1
        by_cases g2 : 64 < s.size
        · rw [formed_no (by rw [hp]; simp; omega)]
          clear hp hv hu h k0 k1 k0' k1'
          go_enter Try.func91, Try.ntmps91
          go_wp2
          go_ret
          exact ⟨rfl, bel1' _ _⟩
        · by_cases g3 : 8 < m
          · rw [formed_no (by rw [hp]; simp; omega)]
            rw [hm] at h1 h3 ⊢
            clear hp hv hu hm h k0 k1 k0' k1'
            go_enter Try.func91, Try.ntmps91
            go_wp2
            go_ret
            exact ⟨rfl, bel1' _ _⟩
          · have IH := Lib.hid (fun (y : Tm) (hy : y ∈ ts) => rformed_at N y (mem_size h hy))
            have HP := Lib.hid (show formedT (.mk 2 0 s ts) = (s.data.toList.all letterB && formedL ts) by
              rw [formed_mk, hp]
              have e1 : decide (s.size ≤ 64) = true := decide_eq_true (by omega)
              have e2 : decide (m ≤ 8) = true := decide_eq_true (by omega)
              rw [e1, e2]
              simp)
            rw [hm] at h1 h3 hu ⊢
            exact rformed_two hs h1 h2 h3 g2 g3 (Lib.hid hm) (Lib.hid hu) HP IH
      · rw [formed_no (by rw [hp]; simp [g1])]
        have g1' : (n == 0) = false := beq_false_of_ne g1
        clear hp hv hu h k0 k1 k0' k1'
        go_enter Try.func91, Try.ntmps91
        go_wp2
        go_ret
        exact ⟨rfl, bel1' _ _⟩
    · rw [formed_no (by unfold plainT; rw [if_neg k0, if_neg k1, if_neg k2])]
      have k2' : (k == 2) = false := beq_false_of_ne k2
      clear hv hu h k0 k1 k2
      go_enter Try.func91, Try.ntmps91
      go_wp2
      go_ret
      exact ⟨rfl, bel1' _ _⟩
theorem rgood_at (x : Tm) (w : World) (v : Value) (hv : TmV w x v) : Calls Try.prog 62 #[v] w fun e w' => e = .returned (.bool (goodT x)) ∧ Below w.heap.size w w' := by
  obtain ⟨k, n, s, ts, rfl⟩ : ∃ k n s ts, x = .mk k n s ts := by cases x; exact ⟨_, _, _, _, rfl⟩
  obtain ⟨u, rfl, _, _, _, _⟩ := tmV_iff.1 hv
  obtain ⟨x, hxe⟩ : ∃ x, Tm.mk k n s ts = x := ⟨_, rfl⟩
  rw [hxe] at hv ⊢
  clear hxe
  obtain ⟨v, hve⟩ : ∃ v, Value.agg #[.int .i64 k, .int .i64 n, .string s, u] = v := ⟨_, rfl⟩
  have S := fun w (h : TmV w x v) => rsize_at _ x (Nat.le_refl _) 2000 (by omega) w v h
  have D := fun w (h : TmV w x v) => rdepth_at 64 x (by omega) w v h
  have F := fun w (h : TmV w x v) => rformed_at _ x (Nat.le_refl _) w v h
  rw [← hve] at S D F
  subst hve
  have hg : goodT x = (decide (sizeN x ≤ 2000) && decide (depthN x ≤ 64) && formedT x) := rfl
  have HG := Lib.hid hg
  clear hg
  generalize formedT x = f at F HG
  obtain ⟨p, hp⟩ : ∃ p, min (sizeN x) (2000 + 1) = p := ⟨_, rfl⟩
  obtain ⟨q, hq⟩ : ∃ q, min (depthN x) (64 + 1) = q := ⟨_, rfl⟩
  rw [hp] at S
  rw [hq] at D
  have hP := Lib.hid (show (sizeN x ≤ 2000) ↔ p ≤ 2000 by omega)
  have hQ := Lib.hid (show (depthN x ≤ 64) ↔ q ≤ 64 by omega)
  clear hp hq
  by_cases h1 : p ≤ 2000
  · by_cases h2 : q ≤ 64
    · have hr : goodT x = f := by rw [HG.out, decide_eq_true (hP.out.2 h1), decide_eq_true (hQ.out.2 h2)]; rfl
      rw [hr]
      clear hr HG hP hQ
      go_enter Try.func62, Try.ntmps62
      have hv0 := TmV.ext (bel1' w (.cells #[.int .i64 k, .int .i64 n, .string s, u] 48)) _ _ hv
      (go_wp2_with fail; go_fit (S _ hv0); rintro e w1 ⟨rfl, b1⟩)
      obtain ⟨e0, e1, e2, e3⟩ := box_cells w 48 _ _ _ _ b1
      have hv1 := TmV.ext b1 _ _ hv0
      (go_wp2_with fail; go_fit (D _ hv1); rintro e w2 ⟨rfl, b2⟩)
      have e0 := cell_later b2 e0
      have e1 := cell_later b2 e1
      have e2 := cell_later b2 e2
      have e3 := cell_later b2 e3
      (go_wp2_with fail; go_fit (F _ (TmV.ext b2 _ _ hv1)); rintro e w3 ⟨rfl, b3⟩)
      have B3 := Lib.hid (Ext.trans' (bel1' w _) (Ext.trans' b1 (Ext.trans' b2 b3)))
      clear b1 b2 b3
      go_wp2
      go_ret
      exact ⟨rfl, B3.out⟩
    · have hr : goodT x = false := by rw [HG.out, decide_eq_false (fun h => h2 (hQ.out.1 h))]; simp
      rw [hr]
      clear hr HG hP hQ
      go_enter Try.func62, Try.ntmps62
      have hv0 := TmV.ext (bel1' w (.cells #[.int .i64 k, .int .i64 n, .string s, u] 48)) _ _ hv
      (go_wp2_with fail; go_fit (S _ hv0); rintro e w1 ⟨rfl, b1⟩)
      obtain ⟨e0, e1, e2, e3⟩ := box_cells w 48 _ _ _ _ b1
      have hv1 := TmV.ext b1 _ _ hv0
      (go_wp2_with fail; go_fit (D _ hv1); rintro e w2 ⟨rfl, b2⟩)
      have e0 := cell_later b2 e0
      have e1 := cell_later b2 e1
      have e2 := cell_later b2 e2
      have e3 := cell_later b2 e3
      have B3 := Lib.hid (Ext.trans' (bel1' w _) (Ext.trans' b1 b2))
      clear b1 b2
      go_wp2
      go_ret
      exact ⟨rfl, B3.out⟩
  · have hr : goodT x = false := by rw [HG.out, decide_eq_false (fun h => h1 (hP.out.1 h))]; rfl
    rw [hr]
    clear hr HG hP hQ
    go_enter Try.func62, Try.ntmps62
    have hv0 := TmV.ext (bel1' w (.cells #[.int .i64 k, .int .i64 n, .string s, u] 48)) _ _ hv
    (go_wp2_with fail; go_fit (S _ hv0); rintro e w1 ⟨rfl, b1⟩)
    obtain ⟨e0, e1, e2, e3⟩ := box_cells w 48 _ _ _ _ b1
    have B3 := Lib.hid (Ext.trans' (bel1' w _) b1)
    clear b1
    go_wp2
    go_ret
    exact ⟨rfl, B3.out⟩
end Go.Proofs.Ytbbbgijlbcmpbaa
/- Terms: the document's Same; two rows of numbers alike. -/
namespace Go.Proofs.Ytbbbgijlbcmpbaa
open Go.RowKit
set_option linter.unusedVariables false

theorem same_mk (k n k' n' : Int) (s s' : ByteArray) (ts ts' : List Tm) : sameT (.mk k n s ts) (.mk k' n' s' ts') = (k == k' && n == n' && s.data.toList == s'.data.toList && sameL ts ts') := by rw [sameT]
theorem sames_len : ∀ {a b : List Tm}, ¬ a.length = b.length → sameL a b = false
  | [], [], h => absurd rfl h
  | x :: r, y :: q, h => by
    rw [sameL, sames_len (a := r) (b := q) (by simpa using h), Bool.and_false]
  | [], y :: q, _ => by simp [sameL]
  | x :: r, [], _ => by simp [sameL]
theorem sames_step {a b : List Tm} {i : Nat} {x y : Tm} (hx : a[i]? = some x) (hy : b[i]? = some y) : sameL (a.drop i) (b.drop i) = (sameT x y && sameL (a.drop (i + 1)) (b.drop (i + 1))) := by
  obtain ⟨h1, rfl⟩ := List.getElem?_eq_some_iff.1 hx
  obtain ⟨h2, rfl⟩ := List.getElem?_eq_some_iff.1 hy
  rw [List.drop_eq_getElem_cons h1, List.drop_eq_getElem_cons h2, sameL]
set_option maxHeartbeats 4000000 in
set_option maxRecDepth 100000 in
/-- Alike but for the Args: then the Args, one by one. -/
theorem rsame_args {k n : Int} {s : ByteArray} {ts ts' : List Tm} {w : World} {a a' : Option Addr} {m c c' : Nat} (h1 : m ≤ c) (h2 : c ≤ maxLen) (h1' : m ≤ c') (h2' : c' ≤ maxLen) (h3 : m * 56 ≤ 140737488351232)
    (HM : Hid (ts.length = m)) (HM' : Hid (ts'.length = m)) (HU : Hid (Tms w (.slice a m c) ts)) (HU' : Hid (Tms w (.slice a' m c') ts'))
    (IH : Hid (∀ x ∈ ts, ∀ (y : Tm) (w : World) (va vb : Value), TmV w x va → TmV w y vb → Calls Try.prog 36 #[va, vb] w fun e w' => e = .returned (.bool (sameT x y)) ∧ Below w.heap.size w w')) :
    Calls Try.prog 36 #[.agg #[.int .i64 k, .int .i64 n, .string s, .slice a m c], .agg #[.int .i64 k, .int .i64 n, .string s, .slice a' m c']] w fun e w' => e = .returned (.bool (sameL ts ts')) ∧ Below w.heap.size w w' := by
  obtain ⟨r, hr⟩ : ∃ r, sameL ts ts' = r := ⟨_, rfl⟩
  rw [hr]
  have HR := Lib.hid hr
  clear hr
  have HW := Lib.hid (show Below w.heap.size w ((w.alloc (box4 k n s (.slice a m c) 48)).alloc (box4 k n s (.slice a' m c') 48)) from (bel1' w _).alloc (by simp) _)
  go_enter Try.func36, Try.ntmps36
  go_wp2_with fail
  go_loopw [5] (fun v wr => ∃ i : Nat, i ≤ m ∧ v = .int .i64 i ∧ Hid (sameL (ts.drop i) (ts'.drop i) = r) ∧ Hid (Below ((w.alloc (box4 k n s (.slice a m c) 48)).alloc (box4 k n s (.slice a' m c') 48)).heap.size ((w.alloc (box4 k n s (.slice a m c) 48)).alloc (box4 k n s (.slice a' m c') 48)) wr)) (fun v _ => m - (intOf v).toNat)
  case atStart => exact ⟨0, Nat.zero_le _, rfl, Lib.hid (by rw [List.drop_zero, List.drop_zero]; exact HR.out), Lib.hid (Below.refl _ _)⟩
  case round =>
    obtain ⟨i, hi, rfl, HD, HB⟩ := hrel
    have e3 : wr.cell? ⟨w.heap.size, 3, none⟩ = some (.slice a m c) := cell_later HB.out (by simp)
    have f3 : wr.cell? ⟨w.heap.size + 1, 3, none⟩ = some (.slice a' m c') := cell_later HB.out (by simp)
    have HBW := Lib.hid (Ext.trans' HW.out HB.out)
    by_cases hil : i < m
    · obtain ⟨x, hx⟩ : ∃ x, ts[i]? = some x := ⟨_, List.getElem?_eq_getElem (by rw [HM.out]; exact hil)⟩
      obtain ⟨y, hy⟩ : ∃ y, ts'[i]? = some y := ⟨_, List.getElem?_eq_getElem (by rw [HM'.out]; exact hil)⟩
      have hd := HD.out
      rw [sames_step hx hy] at hd
      obtain ⟨b, off, k1, n1, s1, u1, rfl, hbb, _, _, _, c0, c1, c2, c3, _, ht⟩ := (HU.out.ext HBW.out).get hx
      obtain ⟨b', off', k2, n2, s2, u2, rfl, hbb', _, _, _, d0, d1, d2, d3, _, ht'⟩ := (HU'.out.ext HBW.out).get hy
      have ih := fun wq (hq : Below wr.heap.size wr wq) => IH.out x (List.mem_of_getElem? hx) y wq _ _ (TmV.ext hq _ _ ht) (TmV.ext hq _ _ ht')
      clear HD ht ht' hx hy
      cases hq : sameT x y
      · rw [hq, Bool.false_and] at hd
        rw [hq] at ih
        have IHQ := Lib.hid ih
        subst hd
        clear hq ih HR
        go_wp2_with fail
        (refine wp_region_class (fun w' => (w'.cell? ⟨w.heap.size, 3, none⟩ = some (.slice (some ⟨b, off, none⟩) m c) ∧ w'.cell? ⟨w.heap.size + 1, 3, none⟩ = some (.slice (some ⟨b', off', none⟩) m c') ∧ w'.cell? ⟨b, off + i * 4, none⟩ = some (.int .i64 k1) ∧ w'.cell? ⟨b, off + i * 4 + 1, none⟩ = some (.int .i64 n1) ∧ w'.cell? ⟨b, off + i * 4 + 2, none⟩ = some (.string s1) ∧ w'.cell? ⟨b, off + i * 4 + 3, none⟩ = some u1 ∧ w'.cell? ⟨b', off' + i * 4, none⟩ = some (.int .i64 k2) ∧ w'.cell? ⟨b', off' + i * 4 + 1, none⟩ = some (.int .i64 n2) ∧ w'.cell? ⟨b', off' + i * 4 + 2, none⟩ = some (.string s2) ∧ w'.cell? ⟨b', off' + i * 4 + 3, none⟩ = some u2) ∧ Below wr.heap.size wr w') (by kernel_rfl) (by kernel_rfl) (⟨⟨e3, f3, c0, c1, c2, c3, d0, d1, d2, d3⟩, (Below.refl _ _).drew⟩) ?_; (repeat (first | go_big_quiet_skip | (go_big_quiet_want; refine quiet_of ?_; apply Exists.intro; refine ⟨fun wq hq => ?_, ?_⟩; (focus ((try dsimp only at hq); go_simp; (first | done | with_reducible rfl | ((go_at_call 36; refine (IHQ.out wq hq.2).mono ?_; rintro e w6 ⟨rfl, h6⟩; exact ⟨rfl, ⟨cell_later h6 hq.1.1, cell_later h6 hq.1.2.1, cell_later h6 hq.1.2.2.1, cell_later h6 hq.1.2.2.2.1, cell_later h6 hq.1.2.2.2.2.1, cell_later h6 hq.1.2.2.2.2.2.1, cell_later h6 hq.1.2.2.2.2.2.2.1, cell_later h6 hq.1.2.2.2.2.2.2.2.1, cell_later h6 hq.1.2.2.2.2.2.2.2.2.1, cell_later h6 hq.1.2.2.2.2.2.2.2.2.2⟩, Below.trans hq.2 (h6.mono hq.2.size)⟩)) | fail))); try simp only [Act.put, List.setIfInBounds_toArray, List.set_cons_zero, List.set_cons_succ]; go_big_quiet_on) | fail)); refine wpQuiet_nil ?_; intro wz hz)
        go_wp2
        go_ret
        exact ⟨rfl, Ext.trans' HBW.out hz.2⟩
      · rw [hq, Bool.true_and] at hd
        rw [hq] at ih
        have IHQ := Lib.hid ih
        have HD := Lib.hid hd
        clear hq ih hd
        go_wp2_with fail
        (refine wp_region_class (fun w' => (w'.cell? ⟨w.heap.size, 3, none⟩ = some (.slice (some ⟨b, off, none⟩) m c) ∧ w'.cell? ⟨w.heap.size + 1, 3, none⟩ = some (.slice (some ⟨b', off', none⟩) m c') ∧ w'.cell? ⟨b, off + i * 4, none⟩ = some (.int .i64 k1) ∧ w'.cell? ⟨b, off + i * 4 + 1, none⟩ = some (.int .i64 n1) ∧ w'.cell? ⟨b, off + i * 4 + 2, none⟩ = some (.string s1) ∧ w'.cell? ⟨b, off + i * 4 + 3, none⟩ = some u1 ∧ w'.cell? ⟨b', off' + i * 4, none⟩ = some (.int .i64 k2) ∧ w'.cell? ⟨b', off' + i * 4 + 1, none⟩ = some (.int .i64 n2) ∧ w'.cell? ⟨b', off' + i * 4 + 2, none⟩ = some (.string s2) ∧ w'.cell? ⟨b', off' + i * 4 + 3, none⟩ = some u2) ∧ Below wr.heap.size wr w') (by kernel_rfl) (by kernel_rfl) (⟨⟨e3, f3, c0, c1, c2, c3, d0, d1, d2, d3⟩, (Below.refl _ _).drew⟩) ?_; (repeat (first | go_big_quiet_skip | (go_big_quiet_want; refine quiet_of ?_; apply Exists.intro; refine ⟨fun wq hq => ?_, ?_⟩; (focus ((try dsimp only at hq); go_simp; (first | done | with_reducible rfl | ((go_at_call 36; refine (IHQ.out wq hq.2).mono ?_; rintro e w6 ⟨rfl, h6⟩; exact ⟨rfl, ⟨cell_later h6 hq.1.1, cell_later h6 hq.1.2.1, cell_later h6 hq.1.2.2.1, cell_later h6 hq.1.2.2.2.1, cell_later h6 hq.1.2.2.2.2.1, cell_later h6 hq.1.2.2.2.2.2.1, cell_later h6 hq.1.2.2.2.2.2.2.1, cell_later h6 hq.1.2.2.2.2.2.2.2.1, cell_later h6 hq.1.2.2.2.2.2.2.2.2.1, cell_later h6 hq.1.2.2.2.2.2.2.2.2.2⟩, Below.trans hq.2 (h6.mono hq.2.size)⟩)) | fail))); try simp only [Act.put, List.setIfInBounds_toArray, List.set_cons_zero, List.set_cons_succ]; go_big_quiet_on) | fail)); refine wpQuiet_nil ?_; intro wz hz)
        go_wp2
        go_roundw
        case rel => exact ⟨i + 1, by omega, by go_num, HD, Lib.hid (Ext.trans' HB.out hz.2)⟩
        case measure => simp [intOf]; omega
    · have hd := HD.out
      rw [List.drop_eq_nil_of_le (by rw [HM.out]; omega), List.drop_eq_nil_of_le (by rw [HM'.out]; omega), sameL] at hd
      subst hd
      clear HR HD
      go_wp2
      go_ret
      exact ⟨rfl, HBW.out⟩
end Go.Proofs.Ytbbbgijlbcmpbaa
/- Terms: the document's Same, whole. -/
namespace Go.Proofs.Ytbbbgijlbcmpbaa
open Go.RowKit
set_option linter.unusedVariables false

set_option maxHeartbeats 4000000 in
theorem rsame_at : ∀ (N : Nat) (x : Tm), sizeN x ≤ N → ∀ (y : Tm) (w : World) (va vb : Value), TmV w x va → TmV w y vb →
    Calls Try.prog 36 #[va, vb] w fun e w' => e = .returned (.bool (sameT x y)) ∧ Below w.heap.size w w'
  | 0, x, h, y, w, va, vb, hv, hv' => by have := size_pos x; omega
  | N + 1, .mk k n s ts, h, .mk k' n' s' ts', w, va, vb, hv, hv' => by
    obtain ⟨u, rfl, hs, hk, hn, hu⟩ := tmV_iff.1 hv
    obtain ⟨u', rfl, hs', hk', hn', hu'⟩ := tmV_iff.1 hv'
    obtain ⟨a, c, rfl, h1, h2, h3⟩ := hu.len
    obtain ⟨a', c', rfl, h1', h2', h3'⟩ := hu'.len
    unfold BIG at h3 h3' hs hs'
    have IH := Lib.hid (fun (x : Tm) (hx : x ∈ ts) => rsame_at N x (mem_size h hx))
    obtain ⟨m, hm⟩ : ∃ m, ts.length = m := ⟨_, rfl⟩
    obtain ⟨m', hm'⟩ : ∃ m', ts'.length = m' := ⟨_, rfl⟩
    have hmk := same_mk k n k' n' s s' ts ts'
    have HW := Lib.hid (show Below w.heap.size w ((w.alloc (box4 k n s (.slice a ts.length c) 48)).alloc (box4 k' n' s' (.slice a' ts'.length c') 48)) from (bel1' w _).alloc (by simp) _)
    by_cases g1 : k = k'
    · subst g1
      by_cases g2 : n = n'
      · subst g2
        by_cases g3 : s = s'
        · subst g3
          by_cases g4 : m = m'
          · subst g4
            rw [hmk, beq_self_eq_true, beq_self_eq_true, beq_self_eq_true, Bool.true_and, Bool.true_and, Bool.true_and]
            rw [hm] at h1 h3 hu ⊢
            rw [hm'] at h1' h3' hu' ⊢
            exact rsame_args h1 h2 h1' h2' h3 (Lib.hid hm) (Lib.hid hm') (Lib.hid hu) (Lib.hid hu') IH
          · have hr : sameT (.mk k n s ts) (.mk k n s ts') = false := by rw [hmk, sames_len (by rw [hm, hm']; exact g4), Bool.and_false]
            rw [hr]
            rw [hm] at h1 h3 HW ⊢
            rw [hm'] at h1' h3' HW ⊢
            have g4' : ((m : Int) != m') = true := by simp; omega
            have g4n : ¬ (m : Int) = m' := by omega
            clear hr hmk hm hm' hv hv' hu hu' IH h
            go_enter Try.func36, Try.ntmps36
            go_wp2
            go_ret
            exact ⟨rfl, HW.out⟩
        · have hb : (s.data.toList == s'.data.toList) = false := beq_false_of_ne (fun e => g3 (bytes_eq e))
          have hr : sameT (.mk k n s ts) (.mk k n s' ts') = false := by rw [hmk, hb]; simp
          rw [hr]
          have g3' : (s.toList == s'.toList) = false := by rw [Lib.toList_data, Lib.toList_data]; exact hb
          have g3n : ¬ s.toList = s'.toList := by rw [Lib.toList_data, Lib.toList_data]; exact fun e => g3 (bytes_eq e)
          clear hr hmk hm hm' hv hv' hu hu' IH h hb
          go_enter Try.func36, Try.ntmps36
          go_wp2
          go_ret
          exact ⟨rfl, HW.out⟩
      · have hr : sameT (.mk k n s ts) (.mk k n' s' ts') = false := by rw [hmk, beq_false_of_ne g2]; simp
        rw [hr]
        have g2' : (n != n') = true := by simpa using g2
        clear hr hmk hm hm' hv hv' hu hu' IH h
        go_enter Try.func36, Try.ntmps36
        go_wp2
        go_ret
        exact ⟨rfl, HW.out⟩
    · have hr : sameT (.mk k n s ts) (.mk k' n' s' ts') = false := by rw [hmk, beq_false_of_ne g1]; simp
      rw [hr]
      have g1' : (k != k') = true := by simpa using g1
      clear hr hmk hm hm' hv hv' hu hu' IH h
      go_enter Try.func36, Try.ntmps36
      go_wp2
      go_ret
      exact ⟨rfl, HW.out⟩

end Go.Proofs.Ytbbbgijlbcmpbaa
/- Terms: the document's Vars. -/
namespace Go.Proofs.Ytbbbgijlbcmpbaa
open Go.RowKit
set_option linter.unusedVariables false

set_option maxHeartbeats 4000000 in
/-- A variable: its number, if it is not there yet. -/
theorem rvars_var {W w : World} {k n : Int} {s : ByteArray} {u lv : Value} {l : List Int} (hk : k = 0) (hb : Below W.heap.size W w) (hr : RowN w W.heap.size lv l) (hl : l.length ≤ 1000000) :
    Calls Try.prog 92 #[.agg #[.int .i64 k, .int .i64 n, .string s, u], lv] w fun e w' => ∃ r, e = .returned r ∧ RowN w' W.heap.size r (if l.contains n then l else l ++ [n]) ∧ Below W.heap.size W w' ∧ Kept w w' lv.ownBlock ∧ (r.ownBlock = lv.ownBlock ∨ ∀ k, r.ownBlock = some k → w.heap.size ≤ k) := by
  subst hk
  obtain ⟨a, c, rfl, h1⟩ := row_formk hr
  obtain ⟨m, hm⟩ : ∃ m, l.length = m := ⟨_, rfl⟩
  obtain ⟨R, hR⟩ : ∃ R, (if l.contains n then l else l ++ [n]) = R := ⟨_, rfl⟩
  rw [hR]
  have HR := Lib.hid hR
  have HROW := Lib.hid hr
  have HM := Lib.hid hm
  rw [hm] at h1 hl hr HROW ⊢
  have HBW := Lib.hid hb
  have hWs : W.heap.size ≤ w.heap.size := hb.size
  obtain ⟨i0, hi0, hz0, hs0, hb0⟩ := info_parts infoI64
  clear hr hm hR hb
  go_enter Try.func92, Try.ntmps92
  go_wp2_with fail
  go_loopw [5] (fun v wr => ∃ i : Nat, i ≤ m ∧ v = .int .i64 i ∧ Hid (¬ n ∈ l.take i) ∧ Hid (Below (w.alloc (box4 0 n s u 48)).heap.size (w.alloc (box4 0 n s u 48)) wr)) (fun v _ => m - (intOf v).toNat)
  case atStart => exact ⟨0, Nat.zero_le _, rfl, Lib.hid (by simp), Lib.hid (Below.refl _ _)⟩
  case round =>
    obtain ⟨i, hi, rfl, HT, HB⟩ := hrel
    obtain ⟨e0, e1, e2, e3⟩ := box_cells w 48 _ _ _ _ HB.out
    have HBB := Lib.hid (Ext.trans' (bel1' w _) HB.out)
    by_cases hil : i < m
    · obtain ⟨x, hx⟩ : ∃ x, l[i]? = some x := ⟨_, List.getElem?_eq_getElem (by rw [HM.out]; exact hil)⟩
      have hnums : Nums w (.slice a m c) l := by have := HROW.out.nums; exact this
      obtain ⟨b, off, rfl, _, c0⟩ := (hnums.ext HBB.out).get hx
      by_cases hxn : x = n
      · subst hxn
        have hrl : R = l := by rw [← HR.out, if_pos (by simpa using List.mem_of_getElem? hx)]
        subst hrl
        clear hx HT HR hnums
        go_wp2_with fail
        go_quiet (fail)
        go_wp2
        go_ret
        exact ⟨_, rfl, row_ext HROW.out (bel_drewN HBB.out _), bel_drewN (Ext.trans' HBW.out HBB.out) _, Kept.of (bel_drewN HBB.out _) _, Or.inl rfl⟩
      · have HT2 : Hid (¬ n ∈ l.take (i + 1)) := Lib.hid (by
          rw [List.take_add_one, hx]
          intro hmem
          rcases List.mem_append.1 hmem with hh | hh
          · exact HT.out hh
          · simp at hh
            exact hxn hh.symm)
        have hxn' : (x == n) = false := beq_false_of_ne hxn
        clear hx HT hnums
        go_wp2_with fail
        go_quiet (fail)
        go_wp2
        go_roundw
        case rel => exact ⟨i + 1, by omega, by go_num, HT2, Lib.hid (bel_drewN HB.out _)⟩
        case measure => simp [intOf]; omega
    · have hrl : R = l ++ [n] := by
        rw [← HR.out, if_neg]
        have := HT.out
        rw [List.take_of_length_le (by rw [HM.out]; omega)] at this
        simpa using this
      subst hrl
      have HROW2 : Hid (wr.ownsRow W.heap.size 2 1 (.slice a m c) m (l.flatMap numCells)) := Lib.hid (by have := row_ext HROW.out HBB.out; rw [HM.out] at this; exact this)
      have hsz : W.heap.size ≤ wr.heap.size := Nat.le_trans hWs HBB.out.size
      clear HR HT
      go_wp2_with (at_builtin; refine wpList_append_k rfl _ _ 51 rfl W.heap.size 2 i0 (.int .i64 0) 1 8 Try.underlying51 hi0 hz0 hs0 (by decide) hb0 rfl (.slice a m c) m (l.flatMap numCells) rfl (HROW2.out.alloc _) _ 1 1 [.int .i64 n] rfl rfl (Or.inr ⟨_, rfl, fun j u hu => cell_new _ _ _ j u hu⟩) (fun u hu => by simp at hu; subst hu; rfl) (by unfold maxLen; omega) (by omega) (by simp; omega) (m + 1) ((l ++ [n]).flatMap numCells) rfl (by rw [List.flatMap_append]; rfl) ?_; intro a4 c4 w4 hown4 hgrow4 hat4)
      go_ret
      refine ⟨_, rfl, ?_, ((Ext.trans' HBW.out HBB.out).alloc hsz _).grown hgrow4 (by simp; omega) (fun q hq => (HROW2.out.lt q hq).1), Kept.trans (Kept.of (HBB.out.alloc HBB.out.size _) _) ⟨hgrow4.size, fun k hk hne => hgrow4.block k hk (Ne.symm hne)⟩ (Or.inl rfl), ?_⟩
      rotate_left
      · rcases hat4 with h | h
        · exact Or.inl h
        · refine Or.inr (fun k hk => ?_)
          have hk' : (Value.slice a4 (m + 1) c4).ownBlock = some k := hk
          rw [h] at hk'
          cases hk'
          have := HBB.out.size
          simp
          omega
      unfold RowN
      rw [List.length_append, HM.out]
      exact hown4
end Go.Proofs.Ytbbbgijlbcmpbaa
/- Terms: the document's Vars: all of it. -/
namespace Go.Proofs.Ytbbbgijlbcmpbaa
open Go.RowKit
set_option linter.unusedVariables false

set_option maxHeartbeats 4000000 in
set_option maxRecDepth 100000 in
theorem rvars_at : ∀ (N : Nat) (x : Tm), sizeN x ≤ N → ∀ (W w : World) (v lv : Value) (l : List Int), TmV W x v → Below W.heap.size W w → RowN w W.heap.size lv l → l.length + sizeN x ≤ 1000000 →
    Calls Try.prog 92 #[v, lv] w fun e w' => ∃ r, e = .returned r ∧ RowN w' W.heap.size r (varsT x l) ∧ Below W.heap.size W w' ∧ Kept w w' lv.ownBlock ∧ (r.ownBlock = lv.ownBlock ∨ ∀ k, r.ownBlock = some k → w.heap.size ≤ k)
  | 0, x, h, W, w, v, lv, l, hv, hb, hr, hl => by have := size_pos x; omega
  | N + 1, .mk k n s ts, h, W, w, v, lv, l, hv, hb, hr, hl => by
    obtain ⟨u, rfl, hs, hki, hni, hu⟩ := tmV_iff.1 hv
    by_cases hk : k = 0
    · have e : varsT (.mk k n s ts) l = if l.contains n then l else l ++ [n] := by rw [varsT, if_pos hk]
      rw [e]
      exact rvars_var hk hb hr (by omega)
    have e : varsT (.mk k n s ts) l = varsL ts l := by rw [varsT, if_neg hk]
    rw [e]
    have hk' : (k == 0) = false := beq_false_of_ne hk
    obtain ⟨a, c, rfl, h1, h2, h3⟩ := hu.len
    unfold BIG at h3
    obtain ⟨m, hm⟩ : ∃ m, ts.length = m := ⟨_, rfl⟩
    have IH := Lib.hid (fun (y : Tm) (hy : y ∈ ts) => rvars_at N y (mem_size h hy) W)
    have HL := Lib.hid (show l.length + sizesN ts ≤ 1000000 by rw [sizeN] at hl; omega)
    have HU := Lib.hid hu
    have HM := Lib.hid hm
    rw [hm] at h1 h3 hu HU ⊢
    have HBW := Lib.hid hb
    have HROW := Lib.hid hr
    obtain ⟨R, hR⟩ : ∃ R, varsL ts l = R := ⟨_, rfl⟩
    rw [hR]
    have HR := Lib.hid hR
    clear e hk hv hb hr hl hu hm hR h
    go_enter Try.func92, Try.ntmps92
    go_wp2_with fail
    go_loopw [1, 6] (fun z v wr => ∃ i : Nat, i ≤ m ∧ v = .int .i64 i ∧ Hid (RowN wr W.heap.size z (varsL (ts.take i) l)) ∧ Hid (Below W.heap.size W wr) ∧ Hid (wr.cell? ⟨w.heap.size, 3, none⟩ = some (.slice a m c)) ∧ w.heap.size < wr.heap.size ∧ Hid (z.ownBlock ≠ some w.heap.size) ∧ Hid (Kept w wr lv.ownBlock) ∧ Hid (z.ownBlock = lv.ownBlock ∨ ∀ k, z.ownBlock = some k → w.heap.size ≤ k)) (fun _ v _ => m - (intOf v).toNat)
    case atStart => exact ⟨0, Nat.zero_le _, rfl, Lib.hid (by rw [List.take_zero, varsL]; exact row_ext HROW.out (bel1' _ _)), Lib.hid (Ext.trans' HBW.out (bel1' _ _)), Lib.hid (by simp), by simp, Lib.hid (fun e => by have := (HROW.out.lt _ e).2; omega), Lib.hid (Kept.of (bel1' _ _) _), Lib.hid (Or.inl rfl)⟩
    case round =>
      obtain ⟨i, hi, rfl, HZ, HB, HC, hlt, HNE, HK, HO⟩ := hrel
      have e3 := HC.out
      by_cases hil : i < m
      · obtain ⟨y, hy⟩ : ∃ y, ts[i]? = some y := ⟨_, List.getElem?_eq_getElem (by rw [HM.out]; exact hil)⟩
        obtain ⟨b, off, k1, n1, s1, u1, rfl, hbb, _, _, _, c0, c1, c2, c3, _, ht⟩ := HU.out.get hy
        have d0 := cell_later HB.out c0
        have d1 := cell_later HB.out c1
        have d2 := cell_later HB.out c2
        have d3 := cell_later HB.out c3
        have hz := sizes_drop hy
        have hz2 := sizes_take ts (i + 1)
        have hvl := (varss_len (ts.take i) l).1
        have ih := IH.out y (List.mem_of_getElem? hy) wr _ _ _ ht HB.out HZ.out (by have := HL.out; omega)
        have hst := varss_step hy l
        rw [← hst] at ih
        clear c0 c1 c2 c3 hz hz2 hvl hst ht hy
        (go_wp2_with fail; go_fit (ih); rintro e w2 ⟨r2, rfl, hr2, b2, k2, o2⟩)
        have HZ2 := Lib.hid hr2
        have HB2 := Lib.hid b2
        have f3 := k2.cell HNE.out e3
        have HC2 := Lib.hid f3
        have HK2 := Lib.hid (HK.out.trans k2 HO.out)
        have hlt2 : w.heap.size < w2.heap.size := Nat.lt_of_lt_of_le hlt k2.1
        have HNE2 : Hid (r2.ownBlock ≠ some w.heap.size) := Lib.hid (fun e => by
          rcases o2 with o2 | o2
          · exact HNE.out (by rw [← o2]; exact e)
          · have := o2 _ e
            omega)
        have HO2 : Hid (r2.ownBlock = lv.ownBlock ∨ ∀ k, r2.ownBlock = some k → w.heap.size ≤ k) := Lib.hid (by
          rcases o2 with o2 | o2
          · rw [o2]; exact HO.out
          · exact Or.inr (fun k hk => by have := o2 k hk; omega))
        clear hr2 b2 k2 o2 HZ HB HC HNE HK HO e3 d0 d1 d2 d3
        go_wp2
        go_roundw
        case rel => exact ⟨i + 1, by omega, by go_num, HZ2, HB2, HC2, hlt2, HNE2, HK2, HO2⟩
        case measure => simp [intOf]; omega
      · have hR2 : varsL (ts.take i) l = R := by rw [← HR.out, List.take_of_length_le (by rw [HM.out]; omega)]
        have HZ2 := HZ.out
        rw [hR2] at HZ2
        clear hR2 HZ HR
        go_wp2
        go_ret
        exact ⟨_, rfl, HZ2, HB.out, HK.out, HO.out⟩
set_option maxHeartbeats 2000000 in
theorem rVars_at (x : Tm) (w : World) (v : Value) (hv : TmV w x v) : Calls Try.prog 63 #[v] w fun e w' => ∃ r, e = .returned r ∧ Nums w' r (if goodT x then varsT x [] else []) ∧ Below w.heap.size w w' := by
  have G := fun w (h : TmV w x v) => rgood_at x w v h
  have V := fun w (h : TmV w x v) (hs : goodT x = true) => rvars_at _ x (Nat.le_refl _) w w v (.slice none 0 0) [] h (Below.refl _ _) (RowN.nil _ _) (by have := (good_parts hs).1; simp; omega)
  obtain ⟨k, n, s, ts, hxe⟩ : ∃ k n s ts, x = .mk k n s ts := by cases x; exact ⟨_, _, _, _, rfl⟩
  have hv' := hv
  rw [hxe] at hv'
  obtain ⟨u, rfl, _, _, _, _⟩ := tmV_iff.1 hv'
  clear hv' hxe
  have hv0 := TmV.ext (bel1' w (.cells #[.int .i64 k, .int .i64 n, .string s, u] 48)) _ _ hv
  cases hg : goodT x
  · rw [hg] at G
    clear V hg
    go_enter Try.func63, Try.ntmps63
    (go_wp2_with fail; go_fit (G _ hv0); rintro e w1 ⟨rfl, b1⟩)
    have B1 := Lib.hid (Ext.trans' (bel1' w _) b1)
    clear b1
    go_wp2
    go_ret
    exact ⟨_, rfl, Nums.nil _, B1.out⟩
  · rw [hg] at G
    have V' := fun w h => V w h hg
    rw [if_pos rfl]
    clear V hg
    go_enter Try.func63, Try.ntmps63
    (go_wp2_with fail; go_fit (G _ hv0); rintro e w1 ⟨rfl, b1⟩)
    have hv1 := TmV.ext b1 _ _ hv0
    obtain ⟨e0, e1, e2, e3⟩ := box_cells w 48 _ _ _ _ b1
    have B1 := Lib.hid (Ext.trans' (bel1' w _) b1)
    clear b1
    (go_wp2_with fail; go_fit (V' _ hv1); rintro e w2 ⟨r, rfl, hr, b2, _, _⟩)
    have B2 := Lib.hid (Ext.trans' B1.out b2)
    have HN := Lib.hid hr.nums
    clear hr b2
    go_wp2
    go_ret
    exact ⟨_, rfl, HN.out, B2.out⟩
end Go.Proofs.Ytbbbgijlbcmpbaa
/- Package bind: a search in memory. -/
namespace Go.Proofs.Ytbbbgijlbcmpbaa
open Go.RowKit Go.Maps
set_option linter.unusedVariables false

/-- A place of the pile, beside its term's value. -/
structure PlP where
  t : TmP
  ends : Bool
  frm : Nat
section
variable {W w : World} {sb : Nat} {pb : Value} {n : Int} {M c : Nat} {pl : List PlP} {f : Int → Option Nat} {cnt : Nat}
end
end Go.Proofs.Ytbbbgijlbcmpbaa
/- Drawn together by pull.py from XPrN XRen XRenA XRenB. -/
namespace Go.Proofs.Ytbbbgijlbcmpbaa
open Go.RowKit
set_option linter.unusedVariables false

theorem near_cell {w : World} {rb j k : Nat} {u : Value} (hk : j ≠ k) : (w.setCell ⟨rb, k, none⟩ u).cell? ⟨rb, j, none⟩ = w.cell? ⟨rb, j, none⟩ := by
  rw [World.cell?_setCell_other]
  intro e; injection e with _ e _; exact hk e.symm

theorem rcomp_at (w : World) (s : ByteArray) (a : Option Addr) (m c : Nat) : Calls Try.prog 101 #[.string s, .slice a m c] w fun e w' => e = .returned (.agg #[.int .i64 2, .int .i64 0, .string s, .slice a m c]) ∧ Below w.heap.size w w' := by
  go_enter Try.func101, Try.ntmps101
  go_wp2
  refine bodyPost_ret (v := .agg #[.int .i64 2, .int .i64 0, .string s, .slice a m c]) (by rw [results_cell1 rfl]; go_simp) rfl ⟨rfl, ?_⟩
  exact bel1' _ _
/-- A row of m terms in the making, in a block of its own: the first ones stand there. -/
structure Lay (w : World) (lb m : Nat) (ps : List TmP) : Prop where
  done : ∀ i p, ps[i]? = some p → ∀ j u, (pCells p)[j]? = some u → w.cell? ⟨lb, i * 4 + j, none⟩ = some u
  rest : ∀ i, ps.length ≤ i → i < m → w.cell? ⟨lb, i * 4, none⟩ = some (.int .i64 0) ∧ w.cell? ⟨lb, i * 4 + 1, none⟩ = some (.int .i64 0) ∧ w.cell? ⟨lb, i * 4 + 2, none⟩ = some (.string ⟨#[]⟩) ∧ w.cell? ⟨lb, i * 4 + 3, none⟩ = some (.slice none 0 0)
  fz : ∀ j, w.frozen? ⟨lb, j, none⟩ = false
  lt : lb < w.heap.size
theorem Lay.later {w w' : World} {lb m : Nat} {ps : List TmP} (h : Lay w lb m ps) (hb : Below w.heap.size w w') : Lay w' lb m ps where
  done := fun i p hp j u hu => cell_later hb (h.done i p hp j u hu)
  rest := fun i h1 h2 => by obtain ⟨a, b, c, d⟩ := h.rest i h1 h2; exact ⟨cell_later hb a, cell_later hb b, cell_later hb c, cell_later hb d⟩
  fz := fun j => (hb.frozen (p := ⟨lb, j, none⟩) h.lt).trans (h.fz j)
  lt := Nat.lt_of_lt_of_le h.lt hb.size
abbrev setAt (w : World) (lb o : Nat) (u0 u1 u2 u3 : Value) : World := (((w.setCell ⟨lb, o, none⟩ u0).setCell ⟨lb, o + 1, none⟩ u1).setCell ⟨lb, o + 2, none⟩ u2).setCell ⟨lb, o + 3, none⟩ u3
theorem setAt_off {w : World} {lb o j : Nat} {u0 u1 u2 u3 : Value} (h : j < o ∨ o + 4 ≤ j) : (setAt w lb o u0 u1 u2 u3).cell? ⟨lb, j, none⟩ = w.cell? ⟨lb, j, none⟩ := by
  rw [near_cell (by omega), near_cell (by omega), near_cell (by omega), near_cell (by omega)]
theorem Lay.put {w : World} {lb m : Nat} {ps : List TmP} (h : Lay w lb m ps) (hm : ps.length < m) {p : TmP} {u0 u1 u2 u3 : Value} (hp : pCells p = [u0, u1, u2, u3]) : Lay (setAt w lb (ps.length * 4) u0 u1 u2 u3) lb m (ps ++ [p]) where
  done := fun i q hq j u hu => by
    have hj : j < 4 := by
      have := (List.getElem?_eq_some_iff.1 hu).1
      rw [pCells_len] at this
      exact this
    by_cases hi : i < ps.length
    · rw [setAt_off (by omega)]
      exact h.done i q (by rw [List.getElem?_append_left hi] at hq; exact hq) j u hu
    · have hi2 : i = ps.length := by
        have := (List.getElem?_eq_some_iff.1 hq).1
        rw [List.length_append, List.length_singleton] at this
        omega
      subst hi2
      have hqp : q = p := by
        rw [List.getElem?_append_right (Nat.le_refl _), Nat.sub_self] at hq
        simpa using hq.symm
      subst hqp
      obtain ⟨r0, r1, r2, r3⟩ := h.rest ps.length (Nat.le_refl _) hm
      rw [hp] at hu
      match j, hj, hu with
      | 0, _, hu =>
        cases hu
        rw [near_cell (by omega), near_cell (by omega), near_cell (by omega)]
        exact css r0
      | 1, _, hu =>
        cases hu
        rw [near_cell (by omega), near_cell (by omega)]
        exact css (u := .int .i64 0) (by rw [near_cell (by omega)]; exact r1)
      | 2, _, hu =>
        cases hu
        rw [near_cell (by omega)]
        exact css (u := .string ⟨#[]⟩) (by rw [near_cell (by omega), near_cell (by omega)]; exact r2)
      | 3, _, hu =>
        cases hu
        exact css (u := .slice none 0 0) (by rw [near_cell (by omega), near_cell (by omega), near_cell (by omega)]; exact r3)
  rest := fun i h1 h2 => by
    rw [List.length_append, List.length_singleton] at h1
    obtain ⟨a, b, c, d⟩ := h.rest i (by omega) h2
    exact ⟨by rw [setAt_off (by omega)]; exact a, by rw [setAt_off (by omega)]; exact b, by rw [setAt_off (by omega)]; exact c, by rw [setAt_off (by omega)]; exact d⟩
  fz := fun j => by rw [World.frozen?_setCell, World.frozen?_setCell, World.frozen?_setCell, World.frozen?_setCell]; exact h.fz j
  lt := by have := h.lt; simpa [World.setCell] using this
theorem made_get (m i j : Nat) (hi : i < m) (hj : j < 4) (z : Array Value) (hz : z.size = 4) : (madeCells z (m * 4))[i * 4 + j]? = some z[j]! := by
  unfold madeCells
  rw [Array.getElem?_map, Array.getElem?_range, if_pos (by omega)]
  simp only [Option.map_some, hz]
  rw [show (i * 4 + j) % 4 = j by omega]
theorem lay_new (w : World) (m : Nat) (ty : TypeId) : Lay (w.alloc (.cells (madeCells #[.int .i64 0, .int .i64 0, .string ⟨#[]⟩, .slice none 0 0] (m * 4)) ty)) w.heap.size m [] where
  done := fun i p hp => by simp at hp
  rest := fun i _ h => by
    have k : ∀ j, j < 4 → (w.alloc (.cells (madeCells #[.int .i64 0, .int .i64 0, .string ⟨#[]⟩, .slice none 0 0] (m * 4)) ty)).cell? ⟨w.heap.size, i * 4 + j, none⟩ = some (#[Value.int .i64 0, .int .i64 0, .string ⟨#[]⟩, .slice none 0 0])[j]! := fun j hj => by
      rw [World.cell?_alloc_at _ _ _ _ rfl]
      exact made_get m i j h hj _ rfl
    exact ⟨k 0 (by omega), k 1 (by omega), k 2 (by omega), k 3 (by omega)⟩
  fz := fun j => by simp
  lt := by simp
theorem formed_args {k n : Int} {s : ByteArray} {ts : List Tm} (h : formedT (.mk k n s ts) = true) (hne : ts ≠ []) : k = 2 ∧ n = 0 ∧ ts.length ≤ 8 := by
  rw [formedT, Bool.and_eq_true] at h
  have h1 := h.1
  have hl : ¬ ts.length = 0 := fun e => hne (List.eq_nil_of_length_eq_zero e)
  unfold plainT at h1
  split at h1
  · simp [hl] at h1
  split at h1
  · simp [hl] at h1
  split at h1
  · rename_i h2
    simp only [Bool.and_eq_true, decide_eq_true_eq] at h1
    exact ⟨h2, h1.1.1.1, h1.1.2⟩
  · cases h1

theorem Lay.out {w : World} {lb m : Nat} {ps : List TmP} {D : Nat → Bool} (h : Lay w lb m ps) (hm : ps.length = m) (hD : D lb = false) (hp : ∀ p ∈ ps, TmV (hide D w) p.1 (pVal p)) (hl : m * 56 ≤ BIG) : Tms (hide D w) (.slice (some ⟨lb, 0, none⟩) m m) (ps.map (·.1)) := by
  subst hm
  refine ⟨some ⟨lb, 0, none⟩, ps.length, by rw [List.length_map], by rw [List.length_map]; exact Nat.le_refl _, by unfold BIG at hl; unfold maxLen; omega, by rw [List.length_map]; exact hl, Or.inr ⟨_, _, rfl, by rw [hide_size]; exact h.lt, TmRow.mk fun i x hx => ?_⟩⟩
  rw [List.getElem?_map] at hx
  obtain ⟨p, hpi, rfl⟩ := Option.map_eq_some_iff.1 hx
  have hv := hp p (List.mem_of_getElem? hpi)
  have key : ∀ j u, (pCells p)[j]? = some u → (hide D w).cell? ⟨lb, 0 + i * 4 + j, none⟩ = some u := fun j u hu => by
    rw [hide_cell D w _ hD, Nat.zero_add]; exact h.done i p hpi j u hu
  exact ⟨_, _, _, _, key 0 _ rfl, key 1 _ rfl, key 2 _ rfl, key 3 _ rfl, hv⟩
theorem make_terms (m : Nat) (hm : m ≤ 8) (w : World) : (Instr.makeSlice 46 (.int .i64 m) (.int .i64 m)).run Try.prog w = .ok (.slice (some ⟨w.heap.size, 0, none⟩) m m) (w.alloc (.cells (madeCells #[.int .i64 0, .int .i64 0, .string ⟨#[]⟩, .slice none 0 0] (m * 4)) 48)) := by
  obtain ⟨i0, hi0, hz0, hs0, hb0⟩ := info_parts infoTermR
  have h := run_makeSlice (P := Try.prog) w 46 48 i0 _ Try.underlying46 hi0 hz0 .i64 .i64 m m (by omega) (by omega) (by rw [hs0]; omega) (by rw [hb0]; omega) (by omega)
  rw [hs0] at h
  simp only [Int.toNat_natCast] at h
  exact h
end Go.Proofs.Ytbbbgijlbcmpbaa
/- The document's side of chapter 13: rename, walked. -/
namespace Go.Proofs.Ytbbbgijlbcmpbaa
open Go.RowKit
set_option linter.unusedVariables false

theorem pos_spec {n : Int} : ∀ {l : List Int}, n ∈ l → posI l n < l.length ∧ l[posI l n]? = some n ∧ ∀ (j : Nat) (y : Int), j < posI l n → l[j]? = some y → ¬ y = n
  | x :: r, h => by
    rw [posI]
    by_cases e : x = n
    · rw [if_pos e]
      exact ⟨by simp, by simp [e], fun j y hj => by omega⟩
    · rw [if_neg e]
      have hr : n ∈ r := by
        rcases List.mem_cons.1 h with h | h
        · exact absurd h.symm e
        · exact h
      obtain ⟨h1, h2, h3⟩ := pos_spec hr
      refine ⟨by simp; omega, by simpa using h2, fun j y hj hy => ?_⟩
      cases j with
      | zero => simp at hy; subst hy; exact e
      | succ j => exact h3 j y (by omega) (by simpa using hy)
/-- What holds as the Args are renamed. -/
def RenI (Ts : List Tm) (w : World) (lb m : Nat) (vs : List Value) (j : Nat) (wr : World) : Prop :=
  ∃ ps : List TmP, ps.length = j ∧ ps.map (·.1) = Ts.take j ∧ Lay wr lb m ps ∧ (∀ p ∈ ps, TmV (hide (under (lb + 1)) wr) p.1 (pVal p)) ∧ Below w.heap.size w wr ∧
    Box wr w.heap.size vs ∧ Box wr (w.heap.size + 1) [.int .i64 0, .int .i64 0, .string ⟨#[]⟩, .slice none 0 0]
/-- What rename answers. -/
def RenP (w : World) (T : Tm) (e : Ending) (w' : World) : Prop := ∃ v', e = .returned v' ∧ TmV (hide (under w.heap.size) w') T v' ∧ Below w.heap.size w w'
set_option maxHeartbeats 8000000 in
set_option maxRecDepth 100000 in
theorem rename_at : ∀ (M : Nat) (x : Tm), sizeN x ≤ M → ∀ (l : List Int) (first : Int), formedT x = true → (∀ m ∈ occT x, m ∈ l) → 0 ≤ first → first + l.length ≤ 4294967296 → ∀ (w : World) (v lv : Value), TmV w x v → Nums w lv l →
    Calls Try.prog 87 #[v, lv, .int .i64 first] w (RenP w (subT (renV l first) x))
  | 0, x, h, l, first, hf, ho, h0, h1, w, v, lv, hv, hl => by have := size_pos x; omega
  | M + 1, .mk k n s ts, h, l, first, hf, ho, h0, h1, w, v, lv, hv, hl => by
    obtain ⟨u, rfl, hss, hkk, hnn, hu⟩ := tmV_iff.1 hv
    obtain ⟨a, c, rfl, hb1, hb2, hb3⟩ := hu.len
    unfold maxLen at hb2
    obtain ⟨la, lc, rfl, hl1, hl2⟩ := hl.len
    unfold maxLen at hl2
    obtain ⟨w1, e1, B1, z1, X1⟩ := box_new w #[.int .i64 k, .int .i64 n, .string s, .slice a ts.length c] 48
    obtain ⟨w2, e2, B2, z2, X2⟩ := box_new w1 #[.int .i64 0, .int .i64 0, .string ⟨#[]⟩, .slice none 0 0] 48
    have X1 := X1.ext B2
    have B12 := Ext.trans' B1 B2
    rw [z1] at X2 z2
    have HE := Lib.hid (And.intro e1 e2)
    have HB2 := Lib.hid (And.intro B12 (And.intro X1 (And.intro X2 z2)))
    have HL := Lib.hid hl
    clear B1 B2 z1 e1 e2 hl B12
    by_cases hk0 : k = 0
    · subst hk0
      have hT : subT (renV l first) (.mk 0 n s ts) = varV (first + (posI l n : Int)) := by rw [sub_var]; rfl
      rw [hT]
      obtain ⟨hp1, hp2, hp3⟩ := pos_spec (ho n (by rw [occ_var]; simp))
      obtain ⟨P, hP⟩ : ∃ P, posI l n = P := ⟨_, rfl⟩
      rw [hP] at hp1 hp2 hp3 ⊢
      obtain ⟨z, hz⟩ : ∃ z, first + (P : Int) = z := ⟨_, rfl⟩
      have hwz : IntKind.i64.wrap z = z := by rw [IntKind.wrap_i64]; omega
      have HP := Lib.hid (And.intro hp2 hp3)
      have HZ := Lib.hid (show I64 z by unfold I64; omega)
      obtain ⟨q, hq⟩ : ∃ q, l.length = q := ⟨_, rfl⟩
      have HQ := Lib.hid hq
      rw [hq] at hl1 hp1 HL ⊢
      rw [hz]
      have hz2 := hz
      clear hT hP hp2 hp3 hf ho hv hu h hq X1 X2 hss hkk hnn h0 h1 hz
      go_enter Try.func87, Try.ntmps87
      go_upto_region 1 with fail
      (try rw [HE.out.1, HE.out.2])
      obtain ⟨x0, x1, x2, x3, _⟩ := HB2.out.2.1.four
      go_wp2_with fail
      go_loopw [7] (fun v wr => ∃ i : Nat, i ≤ P ∧ v = .int .i64 i ∧ Hid (Below w2.heap.size w2 wr)) (fun v _ => P + 1 - (intOf v).toNat)
      case atStart => exact ⟨0, Nat.zero_le _, rfl, Lib.hid (Below.refl _ _)⟩
      case round =>
        obtain ⟨i, hi, rfl, HB⟩ := hrel
        have hiq : (i : Int) < q := by omega
        obtain ⟨y, hy⟩ : ∃ y, l[i]? = some y := ⟨_, List.getElem?_eq_getElem (by rw [HQ.out]; omega)⟩
        obtain ⟨gb, go, rfl, _, c0⟩ := HL.out.get hy
        have c0 := cell_later HB.out (cell_later HB2.out.1 c0)
        have x1 := (HB2.out.2.1.ext HB.out).cells 1 _ rfl
        clear x0 x2 x3
        by_cases hiP : i = P
        · subst hiP
          obtain rfl : n = y := by have := HP.out.1; rw [hy] at this; exact (Option.some.inj this).symm
          have hnn2 : (n == n) = true := by simp
          clear hy
          go_wp2_with fail
          go_quiet (fail)
          have HBQ := Lib.hid (belN HB.out nq)
          obtain ⟨r0, r1, r2, r3, rf⟩ := (HB2.out.2.2.1.ext HBQ.out).four
          clear c0 x1
          generalize wr.drewN nq = w6 at *
          go_wp2
          refine bodyPost_ret (v := .agg #[.int .i64 0, .int .i64 z, .string ⟨#[]⟩, .slice none 0 0]) (by rw [results_cell1 rfl]; go_simp) rfl ⟨_, rfl, leaf_tm _ i64_0 HZ.out (by unfold BIG; decide), ?_⟩
          exact Below.set4 (Ext.trans' HB2.out.1 HBQ.out) (by omega) _ _ _ _
        · have hne : (y == n) = false := by have := HP.out.2 i y (by omega) hy; simpa using this
          clear hy
          go_wp2_with fail
          go_quiet (fail)
          have HBQ := Lib.hid (belN HB.out nq)
          go_wp2
          go_roundw
          case rel => exact ⟨i + 1, by omega, by go_num, HBQ⟩
          case measure => simp [intOf]; omega
    · have hk0' : (k == 0) = false := by simpa using hk0
      have hT : subT (renV l first) (.mk k n s ts) = .mk k n s (subL (renV l first) ts) := sub_not _ hk0 _ _ _
      rw [hT]
      obtain ⟨m, hm⟩ : ∃ m, ts.length = m := ⟨_, rfl⟩
      by_cases hm0 : m = 0
      · subst hm0
        obtain rfl : ts = [] := List.eq_nil_of_length_eq_zero hm
        have HV := Lib.hid (show ∀ w', TmV (hide (under w.heap.size) w') (.mk k n s (subL (renV l first) [])) (.agg #[.int .i64 k, .int .i64 n, .string s, .slice a 0 c]) from fun w' => by rw [subL]; exact tmV_iff.2 ⟨_, rfl, hss, hkk, hnn, a, c, rfl, Nat.zero_le _, by unfold maxLen; omega, by simp, Or.inl rfl⟩)
        obtain ⟨x0, x1, x2, x3, _⟩ := HB2.out.2.1.four
        obtain ⟨r0, r1, r2, r3, rf⟩ := HB2.out.2.2.1.four
        clear hT hm hf ho hv hu h X1 X2 hss hkk hnn h0 h1
        go_enter Try.func87, Try.ntmps87
        go_upto_region 1 with fail
        (try rw [HE.out.1, HE.out.2])
        go_wp2
        refine bodyPost_ret (v := .agg #[.int .i64 k, .int .i64 n, .string s, .slice a 0 c]) (by rw [results_cell1 rfl]; go_simp) rfl ⟨_, rfl, HV.out _, ?_⟩
        first
        | exact Below.set4 (b := w.heap.size + 1) HB2.out.1 (by omega) _ _ _ _
        | exact Ext.trans' (bel1' w _) (bel1' _ _)
      · have hm1 : ((m : Int) == 0) = false := beq_false_of_ne (by omega)
        obtain ⟨rfl, rfl, hm8'⟩ : k = 2 ∧ n = 0 ∧ ts.length ≤ 8 := formed_args hf (fun e => hm0 (by rw [← hm, e]; rfl))
        have hm8 : m ≤ 8 := by omega
        rw [formedT, Bool.and_eq_true] at hf
        rw [occ_not hk0] at ho
        have IH := Lib.hid (fun (y : Tm) (hy : y ∈ ts) => rename_at M y (mem_size h hy) l first (formed_mem hf.2 hy) (fun i hi => ho i (mem_occL.2 ⟨y, hy, hi⟩)) h0 h1)
        have HU := Lib.hid hu
        have HM := Lib.hid hm
        have HYB := Lib.hid hss
        obtain ⟨Ts, hTs⟩ : ∃ Ts, subL (renV l first) ts = Ts := ⟨_, rfl⟩
        have HTS := Lib.hid (And.intro hTs (show Ts.length = m by rw [← hTs, subL_len, hm]))
        rw [hTs]
        obtain ⟨q, hq⟩ : ∃ q, l.length = q := ⟨_, rfl⟩
        rw [hm] at hb1 hb3 hu HU X1 HB2 HE ⊢
        rw [hq] at hl1 HL ⊢
        have hz2 := HB2.out.2.2.2
        obtain ⟨w7, e7⟩ : ∃ w7, w2.alloc (.cells (madeCells #[.int .i64 0, .int .i64 0, .string ⟨#[]⟩, .slice none 0 0] (m * 4)) 48) = w7 := ⟨_, rfl⟩
        obtain ⟨lb, hlb⟩ : ∃ lb, w2.heap.size = lb := ⟨_, rfl⟩
        have HMK := make_terms m hm8 w2
        rw [e7, hlb] at HMK
        have hL0 : Lay w7 lb m [] := hlb ▸ e7 ▸ lay_new w2 m _
        have hb7 : Below w2.heap.size w2 w7 := e7 ▸ bel1' w2 _
        have hlbw : lb = w.heap.size + 1 + 1 := by omega
        have HI7 := Lib.hid (show RenI Ts w lb m [.int .i64 2, .int .i64 0, .string s, .slice a m c] 0 w7 from
          ⟨[], rfl, by simp, hL0, fun p hp => (by cases hp), Ext.trans' HB2.out.1 hb7, HB2.out.2.1.ext hb7, HB2.out.2.2.1.ext hb7⟩)
        have HLB := Lib.hid hlbw
        obtain ⟨x0, x1, x2, x3, _⟩ := HB2.out.2.1.four
        clear hL0 hb7 e7 hlb hT hm hf ho hv hu h X1 X2 hss hkk hnn h0 h1 hTs hq hm8' hz2 hlbw
        go_enter Try.func87, Try.ntmps87
        go_upto_region 1 with fail
        (try rw [HE.out.1, HE.out.2])
        go_upto_region 11 with fail
        clear x0 x1 x2 x3 HMK hm1
        go_wp2_with fail
        go_loopw [9] (fun z wr => ∃ j : Nat, j ≤ m ∧ z = .int .i64 j ∧ Hid (RenI Ts w lb m [.int .i64 2, .int .i64 0, .string s, .slice a m c] j wr)) (fun z _ => m - (intOf z).toNat)
        case atStart => exact ⟨0, Nat.zero_le _, rfl, HI7⟩
        case round =>
          obtain ⟨j, hj, rfl, HP⟩ := hrel
          obtain ⟨ps, hpl, hpm, hLy, hpT, hbw, hx5, hx8⟩ := HP.out
          obtain ⟨y0, y1, y2, y3, yf⟩ := hx5.four
          have hl3 : w.heap.size + 1 < lb := by have := HLB.out; omega
          by_cases hjm : j < m
          · obtain ⟨y, hy⟩ : ∃ u, ts[j]? = some u := ⟨_, List.getElem?_eq_getElem (by rw [HM.out]; exact hjm)⟩
            obtain ⟨gb, go, ku, nu, su, vu, rfl, _, _, _, _, d0, d1, d2, d3, _, htu⟩ := HU.out.get hy
            have g0 := cell_later hbw d0
            have g1 := cell_later hbw d1
            have g2 := cell_later hbw d2
            have g3 := cell_later hbw d3
            have hTj : Ts[j]? = some (subT (renV l first) y) := by rw [← HTS.out.1]; exact sizes_map_drop hy
            obtain ⟨U, hUU⟩ : ∃ U, subT (renV l first) y = U := ⟨_, rfl⟩
            rw [hUU] at hTj
            have HC := Lib.hid (fun (wq : World) (hb : Below wr.heap.size wr wq) => IH.out y (List.mem_of_getElem? hy) wq _ _ (TmV.ext (Ext.trans' hbw hb) _ _ htu) (HL.out.ext (Ext.trans' hbw hb)))
            rw [hUU] at HC
            have hjm2 : (j : Int) < m := by omega
            obtain ⟨r0, r1, r2, r3⟩ := hLy.rest j (by omega) hjm
            have rfz := hLy.fz
            have HPS := Lib.hid (And.intro hpl (And.intro hpm (And.intro hLy (And.intro hpT (And.intro hbw (And.intro hx5 (And.intro hx8 hTj)))))))
            clear hpl hpm hLy hpT hbw hx5 hx8 hTj hy htu d0 d1 d2 d3 hUU HP y0 y1 y2 yf
            have C := HC.out wr (Below.refl _ _)
            (go_wp2_with fail; go_fit (C); rintro e w8 ⟨v8, rfl, hTU, b8⟩)
            obtain ⟨k5, n5, s5, a5, l5, c5, rfl, _, _, _, hpv⟩ := four_of hTU
            have hpc : pCells (U, .slice a5 l5 c5) = [.int .i64 k5, .int .i64 n5, .string s5, .slice a5 l5 c5] := by
              have := hpv
              simp only [pVal, Value.agg.injEq] at this
              have h2 := congrArg Array.toList this
              exact h2.symm
            have HN := Lib.hid (show RenI Ts w lb m [.int .i64 2, .int .i64 0, .string s, .slice (some ⟨gb, go, none⟩) m c] (j + 1) (setAt w8 lb (j * 4) (.int .i64 k5) (.int .i64 n5) (.string s5) (.slice a5 l5 c5)) from by
              obtain ⟨hpl, hpm, hLy, hpT, hbw, hx5, hx8, hTj⟩ := HPS.out
              have hd : under (lb + 1) lb = true := by simp
              have hstay : ∀ t v, TmV (hide (under (lb + 1)) w8) t v → TmV (hide (under (lb + 1)) (setAt w8 lb (j * 4) (.int .i64 k5) (.int .i64 n5) (.string s5) (.slice a5 l5 c5))) t v := fun t v ht =>
                TmV.stay (((((Stays.set (D := under (lb + 1)) ⟨lb, j * 4, none⟩ _ hd).trans (Stays.set ⟨lb, j * 4 + 1, none⟩ _ hd)).trans (Stays.set ⟨lb, j * 4 + 2, none⟩ _ hd)).trans (Stays.set ⟨lb, j * 4 + 3, none⟩ _ hd))) _ _ ht
              have hlbl := hLy.lt
              have hLp := (hLy.later b8).put (by rw [hpl]; exact hjm) hpc
              rw [hpl] at hLp
              have hb8 := Ext.trans' hbw b8
              refine ⟨ps ++ [(U, .slice a5 l5 c5)], by rw [List.length_append, hpl]; rfl, by rw [List.map_append, hpm, take_next hTj]; rfl, hLp, fun p hp => hstay _ _ ?_, (((hb8.setCell (p := ⟨lb, j * 4, none⟩) (by show w.heap.size ≤ lb; omega) _).setCell (p := ⟨lb, j * 4 + 1, none⟩) (by show w.heap.size ≤ lb; omega) _).setCell (p := ⟨lb, j * 4 + 2, none⟩) (by show w.heap.size ≤ lb; omega) _).setCell (p := ⟨lb, j * 4 + 3, none⟩) (by show w.heap.size ≤ lb; omega) _, ((((hx5.ext b8).far (by omega)).far (by omega)).far (by omega)).far (by omega), ((((hx8.ext b8).far (by omega)).far (by omega)).far (by omega)).far (by omega)⟩
              rcases List.mem_append.1 hp with hp | hp
              · exact TmV.stay (Stays.hide b8.size fun k hk hd => ⟨hd, b8.block k hk⟩) _ _ (hpT p hp)
              · rw [List.mem_singleton] at hp
                subst hp
                rw [← hpv]
                exact TmV.stay (Stays.less fun k hk => by simp at hk ⊢; omega) _ _ hTU)
            have hjl : ps.length = j := HPS.out.1
            obtain ⟨r0, r1, r2, r3⟩ := ((HPS.out.2.2.1).later b8).rest j (by omega) hjm
            have rfz := ((HPS.out.2.2.1).later b8).fz
            clear hjl C b8 hTU hpv hpc g0 g1 g2 g3 y3
            go_wp2
            go_roundw
            case rel => exact ⟨j + 1, by omega, by go_num, HN⟩
            case measure => simp [intOf]; omega
          · have hjm2 : j = m := by omega
            subst hjm2
            have HE9 := Lib.hid HP.out
            clear hpl hpm hLy hpT hbw hx5 HP
            have HR9 := rcomp_at wr s (some ⟨lb, 0, none⟩) j j
            (go_wp2_with fail; go_fit (HR9); rintro e w9 ⟨rfl, b9⟩)
            obtain ⟨r0, r1, r2, r3, rf⟩ := (hx8.ext b9).four
            have HB9 := Lib.hid b9
            have HFA := Lib.hid (show TmV (hide (under w.heap.size) (set4 w9 (w.heap.size + 1) (.int .i64 2) (.int .i64 0) (.string s) (.slice (some ⟨lb, 0, none⟩) j j))) (.mk 2 0 s Ts) (.agg #[.int .i64 2, .int .i64 0, .string s, .slice (some ⟨lb, 0, none⟩) j j]) ∧ Below w.heap.size w (set4 w9 (w.heap.size + 1) (.int .i64 2) (.int .i64 0) (.string s) (.slice (some ⟨lb, 0, none⟩) j j)) from by
              obtain ⟨ps, hpl, hpm, hLy, hpT, hbw, hx5, hx8⟩ := HE9.out
              have htk : Ts.take j = Ts := List.take_of_length_le (by rw [HTS.out.2]; exact Nat.le_refl _)
              rw [htk] at hpm
              refine ⟨?_, Below.set4 (b := w.heap.size + 1) (Ext.trans' hbw HB9.out) (by omega) _ _ _ _⟩
              refine tmV_iff.2 ⟨_, rfl, HYB.out, i64_2, i64_0, ?_⟩
              have hlf : under lb lb = false := by simp
              have h1 := (hLy.later HB9.out).out (D := under lb) hpl hlf (fun p hp => TmV.stay (Stays.less fun k hk => by simp at hk ⊢; omega) _ _ (TmV.stay (Stays.hide (D := under (lb + 1)) (D' := under (lb + 1)) HB9.out.size fun k hk hd => ⟨hd, HB9.out.block k hk⟩) _ _ (hpT p hp))) (by unfold BIG; omega)
              rw [hpm] at h1
              have hd1 : under lb (w.heap.size + 1) = true := by simp; omega
              have h2 := h1.stay ((((Stays.set (D := under lb) ⟨w.heap.size + 1, 0, none⟩ (.int .i64 2) hd1).trans (Stays.set ⟨w.heap.size + 1, 1, none⟩ (.int .i64 0) hd1)).trans (Stays.set ⟨w.heap.size + 1, 2, none⟩ (.string s) hd1)).trans (Stays.set ⟨w.heap.size + 1, 3, none⟩ (.slice (some ⟨lb, 0, none⟩) j j) hd1))
              exact h2.stay (Stays.less fun k hk => by simp at hk ⊢; omega))
            clear b9 y0 y1 y2 y3 yf hx8
            go_wp2
            refine bodyPost_ret (v := .agg #[.int .i64 2, .int .i64 0, .string s, .slice (some ⟨lb, 0, none⟩) j j]) (by rw [results_cell1 rfl]; go_simp) rfl ⟨_, rfl, HFA.out.1, HFA.out.2⟩
end Go.Proofs.Ytbbbgijlbcmpbaa
/- The document's side of chapter 13: From, Alike, walked. -/
namespace Go.Proofs.Ytbbbgijlbcmpbaa
open Go.RowKit
set_option linter.unusedVariables false

theorem results_cell3' {fn : Func} {p u v : Tmp} {ty : TypeId} (h : fn.results = #[.cell p ty, .tmp u, .tmp v]) (tmps : Array Value) (P : Program) (w : World) :
    (results fn tmps).run P w =
      ((asAddr (tmps.getD p undef)).run P w).andThen fun a w₁ => ((loadVar ty a).run P w₁).andThen fun x w₂ => .ok (.tuple #[x, tmps.getD u undef, tmps.getD v undef]) w₂ := by
  simp only [results, h]
  simp [Sem.run_bind, Result.andThen]
mutual
theorem xvars_len : ∀ (t : Tm) (l : List Int), (varsT t l).length ≤ l.length + sizeN t
  | .mk k n s ts, l => by
    rw [varsT, sizeN]
    by_cases hk : k = 0
    · rw [if_pos hk]
      split
      · omega
      · simp
    · rw [if_neg hk]
      have := xvarss_len ts l
      omega
theorem xvarss_len : ∀ (ts : List Tm) (l : List Int), (varsL ts l).length ≤ l.length + sizesN ts
  | [], l => by rw [varsL, sizesN]; omega
  | x :: r, l => by
    rw [varsL, sizesN]
    have h1 := xvars_len x l
    have h2 := xvarss_len r (varsT x l)
    omega
end
/-- Alike but for names. -/
def alikeB (x y : Tm) : Bool := goodT x && goodT y && sameT (renT 0 x) (renT 0 y)
end Go.Proofs.Ytbbbgijlbcmpbaa
/- Package unify: join, stand: one variable is let stand for another, or for a term. -/
namespace Go.Proofs.Ytbbbgijlbcmpbaa
open Go.RowKit
set_option linter.unusedVariables false

section
variable {V w : World} {F : List Nat} {p : Value} {N : Nat} {R S : List (Int × Tm)} {cb c : Nat}
theorem Touch.box {F : List Nat} {w w' : World} (t : Touch F w w') {b : Nat} {vs : List Value} (hn : ¬ b ∈ F) (hx : Box w b vs) : Box w' b vs := hx.block (t.block b hx.lt hn) (Nat.lt_of_lt_of_le hx.lt t.size)
end
end Go.Proofs.Ytbbbgijlbcmpbaa
/- Package unify: apart's map of names. -/
namespace Go.Proofs.Ytbbbgijlbcmpbaa
open Go.RowKit Go.Maps
set_option linter.unusedVariables false

/-- A variable without letters, as a value. -/
def leafVal (v : Int) : Value := .agg #[.int .i64 0, .int .i64 v, .string ⟨#[]⟩, .slice none 0 0]
theorem pos_app {n : Int} (m : List Int) : ∀ {l : List Int}, n ∈ l → posI (l ++ m) n = posI l n
  | x :: r, h => by
    rw [List.cons_append, posI, posI]
    by_cases e : x = n
    · rw [if_pos e, if_pos e]
    · rw [if_neg e, if_neg e, pos_app m (by
        rcases List.mem_cons.1 h with h | h
        · exact absurd h.symm e
        · exact h)]
theorem pos_new {n : Int} : ∀ {l : List Int}, ¬ n ∈ l → posI (l ++ [n]) n = l.length
  | [], _ => by simp [posI]
  | x :: r, h => by
    rw [List.cons_append, posI, if_neg (fun e => h (by simp [e])), pos_new (fun q => h (by simp [q]))]
    rfl
theorem zeroLeaf (w : World) : (zeroValue 31).run Try.prog w = .ok (leafVal 0) w := by kernel_rfl
end Go.Proofs.Ytbbbgijlbcmpbaa
