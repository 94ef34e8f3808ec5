import Derived.Test.YtljgkfdnmikpfaaGreatDoorHgfao
import Derived.Test.YtljgkfdnmikpfaaGreatDoorHgfaa
import Derived.Deep.QuietTactic
import Derived.Test.YtljgkfdnmikpfaaGreatDoorHgfah
import Derived.Test.YtljgkfdnmikpfaaGreatDoorHgfac
import Derived.Deep.CutBlock
import Derived.Laws.StructEq
import Derived.Laws.BitsLemmas
import Derived.Lib.AtoiAll
import Derived.Test.YtljgkfdnmikpfaaGreatDoorChecked
import Derived.Deep.DeepFit
set_option linter.unusedVariables false
set_option linter.unusedSimpArgs false
/- Terms: the document's Same; two rows of numbers alike. -/
namespace Go.Proofs.YtljgkfdnmikpfaaGreatDoor
open Go.RowKit
set_option linter.unusedVariables false

theorem same_mk (k n k' n' : Int) (s s' : ByteArray) (ts ts' : List Tm) : sameT (.mk k n s ts) (.mk k' n' s' ts') = (k == k' && n == n' && s.data.toList == s'.data.toList && sameL ts ts') := by rw [sameT]
theorem sames_len : ∀ {a b : List Tm}, ¬ a.length = b.length → sameL a b = false
  | [], [], h => absurd rfl h
  | x :: r, y :: q, h => by
    rw [sameL, sames_len (a := r) (b := q) (by simpa using h), Bool.and_false]
  | [], y :: q, _ => by simp [sameL]
  | x :: r, [], _ => by simp [sameL]
theorem sames_step {a b : List Tm} {i : Nat} {x y : Tm} (hx : a[i]? = some x) (hy : b[i]? = some y) : sameL (a.drop i) (b.drop i) = (sameT x y && sameL (a.drop (i + 1)) (b.drop (i + 1))) := by
  obtain ⟨h1, rfl⟩ := List.getElem?_eq_some_iff.1 hx
  obtain ⟨h2, rfl⟩ := List.getElem?_eq_some_iff.1 hy
  rw [List.drop_eq_getElem_cons h1, List.drop_eq_getElem_cons h2, sameL]
set_option maxHeartbeats 4000000 in
set_option maxRecDepth 100000 in
/-- Alike but for the Args: then the Args, one by one. -/
theorem rsame_args {k n : Int} {s : ByteArray} {ts ts' : List Tm} {w : World} {a a' : Option Addr} {m c c' : Nat} (h1 : m ≤ c) (h2 : c ≤ maxLen) (h1' : m ≤ c') (h2' : c' ≤ maxLen) (h3 : m * 56 ≤ 140737488351232)
    (HM : Hid (ts.length = m)) (HM' : Hid (ts'.length = m)) (HU : Hid (Tms w (.slice a m c) ts)) (HU' : Hid (Tms w (.slice a' m c') ts'))
    (IH : Hid (∀ x ∈ ts, ∀ (y : Tm) (w : World) (va vb : Value), TmV w x va → TmV w y vb → Calls Tryz.prog 50 #[va, vb] w fun e w' => e = .returned (.bool (sameT x y)) ∧ Below w.heap.size w w')) :
    Calls Tryz.prog 50 #[.agg #[.int .i64 k, .int .i64 n, .string s, .slice a m c], .agg #[.int .i64 k, .int .i64 n, .string s, .slice a' m c']] w fun e w' => e = .returned (.bool (sameL ts ts')) ∧ Below w.heap.size w w' := by
  obtain ⟨r, hr⟩ : ∃ r, sameL ts ts' = r := ⟨_, rfl⟩
  rw [hr]
  have HR := Lib.hid hr
  clear hr
  have HW := Lib.hid (show Below w.heap.size w ((w.alloc (box4 k n s (.slice a m c) 66)).alloc (box4 k n s (.slice a' m c') 66)) from (bel1' w _).alloc (by simp) _)
  go_enter Tryz.func50, Tryz.ntmps50
  go_wp2_with fail
  go_loopw [5] (fun v wr => ∃ i : Nat, i ≤ m ∧ v = .int .i64 i ∧ Hid (sameL (ts.drop i) (ts'.drop i) = r) ∧ Hid (Below ((w.alloc (box4 k n s (.slice a m c) 66)).alloc (box4 k n s (.slice a' m c') 66)).heap.size ((w.alloc (box4 k n s (.slice a m c) 66)).alloc (box4 k n s (.slice a' m c') 66)) wr)) (fun v _ => m - (intOf v).toNat)
  case atStart => exact ⟨0, Nat.zero_le _, rfl, Lib.hid (by rw [List.drop_zero, List.drop_zero]; exact HR.out), Lib.hid (Below.refl _ _)⟩
  case round =>
    obtain ⟨i, hi, rfl, HD, HB⟩ := hrel
    have e3 : wr.cell? ⟨w.heap.size, 3, none⟩ = some (.slice a m c) := cell_later HB.out (by simp)
    have f3 : wr.cell? ⟨w.heap.size + 1, 3, none⟩ = some (.slice a' m c') := cell_later HB.out (by simp)
    have HBW := Lib.hid (Ext.trans' HW.out HB.out)
    by_cases hil : i < m
    · obtain ⟨x, hx⟩ : ∃ x, ts[i]? = some x := ⟨_, List.getElem?_eq_getElem (by rw [HM.out]; exact hil)⟩
      obtain ⟨y, hy⟩ : ∃ y, ts'[i]? = some y := ⟨_, List.getElem?_eq_getElem (by rw [HM'.out]; exact hil)⟩
      have hd := HD.out
      rw [sames_step hx hy] at hd
      obtain ⟨b, off, k1, n1, s1, u1, rfl, hbb, _, _, _, c0, c1, c2, c3, _, ht⟩ := (HU.out.ext HBW.out).get hx
      obtain ⟨b', off', k2, n2, s2, u2, rfl, hbb', _, _, _, d0, d1, d2, d3, _, ht'⟩ := (HU'.out.ext HBW.out).get hy
      have ih := fun wq (hq : Below wr.heap.size wr wq) => IH.out x (List.mem_of_getElem? hx) y wq _ _ (TmV.ext hq _ _ ht) (TmV.ext hq _ _ ht')
      clear HD ht ht' hx hy
      cases hq : sameT x y
      · rw [hq, Bool.false_and] at hd
        rw [hq] at ih
        have IHQ := Lib.hid ih
        subst hd
        clear hq ih HR
        go_wp2_with fail
        (refine wp_region_class (fun w' => (w'.cell? ⟨w.heap.size, 3, none⟩ = some (.slice (some ⟨b, off, none⟩) m c) ∧ w'.cell? ⟨w.heap.size + 1, 3, none⟩ = some (.slice (some ⟨b', off', none⟩) m c') ∧ w'.cell? ⟨b, off + i * 4, none⟩ = some (.int .i64 k1) ∧ w'.cell? ⟨b, off + i * 4 + 1, none⟩ = some (.int .i64 n1) ∧ w'.cell? ⟨b, off + i * 4 + 2, none⟩ = some (.string s1) ∧ w'.cell? ⟨b, off + i * 4 + 3, none⟩ = some u1 ∧ w'.cell? ⟨b', off' + i * 4, none⟩ = some (.int .i64 k2) ∧ w'.cell? ⟨b', off' + i * 4 + 1, none⟩ = some (.int .i64 n2) ∧ w'.cell? ⟨b', off' + i * 4 + 2, none⟩ = some (.string s2) ∧ w'.cell? ⟨b', off' + i * 4 + 3, none⟩ = some u2) ∧ Below wr.heap.size wr w') (by kernel_rfl) (by kernel_rfl) (⟨⟨e3, f3, c0, c1, c2, c3, d0, d1, d2, d3⟩, (Below.refl _ _).drew⟩) ?_; (repeat (first | go_big_quiet_skip | (go_big_quiet_want; refine quiet_of ?_; apply Exists.intro; refine ⟨fun wq hq => ?_, ?_⟩; (focus ((try dsimp only at hq); go_simp; (first | done | with_reducible rfl | ((go_at_call 50; refine (IHQ.out wq hq.2).mono ?_; rintro e w6 ⟨rfl, h6⟩; exact ⟨rfl, ⟨cell_later h6 hq.1.1, cell_later h6 hq.1.2.1, cell_later h6 hq.1.2.2.1, cell_later h6 hq.1.2.2.2.1, cell_later h6 hq.1.2.2.2.2.1, cell_later h6 hq.1.2.2.2.2.2.1, cell_later h6 hq.1.2.2.2.2.2.2.1, cell_later h6 hq.1.2.2.2.2.2.2.2.1, cell_later h6 hq.1.2.2.2.2.2.2.2.2.1, cell_later h6 hq.1.2.2.2.2.2.2.2.2.2⟩, Below.trans hq.2 (h6.mono hq.2.size)⟩)) | fail))); try simp only [Act.put, List.setIfInBounds_toArray, List.set_cons_zero, List.set_cons_succ]; go_big_quiet_on) | fail)); refine wpQuiet_nil ?_; intro wz hz)
        go_wp2
        go_ret
        exact ⟨rfl, Ext.trans' HBW.out hz.2⟩
      · rw [hq, Bool.true_and] at hd
        rw [hq] at ih
        have IHQ := Lib.hid ih
        have HD := Lib.hid hd
        clear hq ih hd
        go_wp2_with fail
        (refine wp_region_class (fun w' => (w'.cell? ⟨w.heap.size, 3, none⟩ = some (.slice (some ⟨b, off, none⟩) m c) ∧ w'.cell? ⟨w.heap.size + 1, 3, none⟩ = some (.slice (some ⟨b', off', none⟩) m c') ∧ w'.cell? ⟨b, off + i * 4, none⟩ = some (.int .i64 k1) ∧ w'.cell? ⟨b, off + i * 4 + 1, none⟩ = some (.int .i64 n1) ∧ w'.cell? ⟨b, off + i * 4 + 2, none⟩ = some (.string s1) ∧ w'.cell? ⟨b, off + i * 4 + 3, none⟩ = some u1 ∧ w'.cell? ⟨b', off' + i * 4, none⟩ = some (.int .i64 k2) ∧ w'.cell? ⟨b', off' + i * 4 + 1, none⟩ = some (.int .i64 n2) ∧ w'.cell? ⟨b', off' + i * 4 + 2, none⟩ = some (.string s2) ∧ w'.cell? ⟨b', off' + i * 4 + 3, none⟩ = some u2) ∧ Below wr.heap.size wr w') (by kernel_rfl) (by kernel_rfl) (⟨⟨e3, f3, c0, c1, c2, c3, d0, d1, d2, d3⟩, (Below.refl _ _).drew⟩) ?_; (repeat (first | go_big_quiet_skip | (go_big_quiet_want; refine quiet_of ?_; apply Exists.intro; refine ⟨fun wq hq => ?_, ?_⟩; (focus ((try dsimp only at hq); go_simp; (first | done | with_reducible rfl | ((go_at_call 50; refine (IHQ.out wq hq.2).mono ?_; rintro e w6 ⟨rfl, h6⟩; exact ⟨rfl, ⟨cell_later h6 hq.1.1, cell_later h6 hq.1.2.1, cell_later h6 hq.1.2.2.1, cell_later h6 hq.1.2.2.2.1, cell_later h6 hq.1.2.2.2.2.1, cell_later h6 hq.1.2.2.2.2.2.1, cell_later h6 hq.1.2.2.2.2.2.2.1, cell_later h6 hq.1.2.2.2.2.2.2.2.1, cell_later h6 hq.1.2.2.2.2.2.2.2.2.1, cell_later h6 hq.1.2.2.2.2.2.2.2.2.2⟩, Below.trans hq.2 (h6.mono hq.2.size)⟩)) | fail))); try simp only [Act.put, List.setIfInBounds_toArray, List.set_cons_zero, List.set_cons_succ]; go_big_quiet_on) | fail)); refine wpQuiet_nil ?_; intro wz hz)
        go_wp2
        go_roundw
        case rel => exact ⟨i + 1, by omega, by go_num, HD, Lib.hid (Ext.trans' HB.out hz.2)⟩
        case measure => simp [intOf]; omega
    · have hd := HD.out
      rw [List.drop_eq_nil_of_le (by rw [HM.out]; omega), List.drop_eq_nil_of_le (by rw [HM'.out]; omega), sameL] at hd
      subst hd
      clear HR HD
      go_wp2
      go_ret
      exact ⟨rfl, HBW.out⟩
end Go.Proofs.YtljgkfdnmikpfaaGreatDoor
/- Terms: the document's Same, whole. -/
namespace Go.Proofs.YtljgkfdnmikpfaaGreatDoor
open Go.RowKit
set_option linter.unusedVariables false

set_option maxHeartbeats 4000000 in
theorem rsame_at : ∀ (N : Nat) (x : Tm), sizeN x ≤ N → ∀ (y : Tm) (w : World) (va vb : Value), TmV w x va → TmV w y vb →
    Calls Tryz.prog 50 #[va, vb] w fun e w' => e = .returned (.bool (sameT x y)) ∧ Below w.heap.size w w'
  | 0, x, h, y, w, va, vb, hv, hv' => by have := size_pos x; omega
  | N + 1, .mk k n s ts, h, .mk k' n' s' ts', w, va, vb, hv, hv' => by
    obtain ⟨u, rfl, hs, hk, hn, hu⟩ := tmV_iff.1 hv
    obtain ⟨u', rfl, hs', hk', hn', hu'⟩ := tmV_iff.1 hv'
    obtain ⟨a, c, rfl, h1, h2, h3⟩ := hu.len
    obtain ⟨a', c', rfl, h1', h2', h3'⟩ := hu'.len
    unfold BIG at h3 h3' hs hs'
    have IH := Lib.hid (fun (x : Tm) (hx : x ∈ ts) => rsame_at N x (mem_size h hx))
    obtain ⟨m, hm⟩ : ∃ m, ts.length = m := ⟨_, rfl⟩
    obtain ⟨m', hm'⟩ : ∃ m', ts'.length = m' := ⟨_, rfl⟩
    have hmk := same_mk k n k' n' s s' ts ts'
    have HW := Lib.hid (show Below w.heap.size w ((w.alloc (box4 k n s (.slice a ts.length c) 66)).alloc (box4 k' n' s' (.slice a' ts'.length c') 66)) from (bel1' w _).alloc (by simp) _)
    by_cases g1 : k = k'
    · subst g1
      by_cases g2 : n = n'
      · subst g2
        by_cases g3 : s = s'
        · subst g3
          by_cases g4 : m = m'
          · subst g4
            rw [hmk, beq_self_eq_true, beq_self_eq_true, beq_self_eq_true, Bool.true_and, Bool.true_and, Bool.true_and]
            rw [hm] at h1 h3 hu ⊢
            rw [hm'] at h1' h3' hu' ⊢
            exact rsame_args h1 h2 h1' h2' h3 (Lib.hid hm) (Lib.hid hm') (Lib.hid hu) (Lib.hid hu') IH
          · have hr : sameT (.mk k n s ts) (.mk k n s ts') = false := by rw [hmk, sames_len (by rw [hm, hm']; exact g4), Bool.and_false]
            rw [hr]
            rw [hm] at h1 h3 HW ⊢
            rw [hm'] at h1' h3' HW ⊢
            have g4' : ((m : Int) != m') = true := by simp; omega
            have g4n : ¬ (m : Int) = m' := by omega
            clear hr hmk hm hm' hv hv' hu hu' IH h
            go_enter Tryz.func50, Tryz.ntmps50
            go_wp2
            go_ret
            exact ⟨rfl, HW.out⟩
        · have hb : (s.data.toList == s'.data.toList) = false := beq_false_of_ne (fun e => g3 (bytes_eq e))
          have hr : sameT (.mk k n s ts) (.mk k n s' ts') = false := by rw [hmk, hb]; simp
          rw [hr]
          have g3' : (s.toList == s'.toList) = false := by rw [Lib.toList_data, Lib.toList_data]; exact hb
          have g3n : ¬ s.toList = s'.toList := by rw [Lib.toList_data, Lib.toList_data]; exact fun e => g3 (bytes_eq e)
          clear hr hmk hm hm' hv hv' hu hu' IH h hb
          go_enter Tryz.func50, Tryz.ntmps50
          go_wp2
          go_ret
          exact ⟨rfl, HW.out⟩
      · have hr : sameT (.mk k n s ts) (.mk k n' s' ts') = false := by rw [hmk, beq_false_of_ne g2]; simp
        rw [hr]
        have g2' : (n != n') = true := by simpa using g2
        clear hr hmk hm hm' hv hv' hu hu' IH h
        go_enter Tryz.func50, Tryz.ntmps50
        go_wp2
        go_ret
        exact ⟨rfl, HW.out⟩
    · have hr : sameT (.mk k n s ts) (.mk k' n' s' ts') = false := by rw [hmk, beq_false_of_ne g1]; simp
      rw [hr]
      have g1' : (k != k') = true := by simpa using g1
      clear hr hmk hm hm' hv hv' hu hu' IH h
      go_enter Tryz.func50, Tryz.ntmps50
      go_wp2
      go_ret
      exact ⟨rfl, HW.out⟩

end Go.Proofs.YtljgkfdnmikpfaaGreatDoor
/- Terms: the document's Vars. -/
namespace Go.Proofs.YtljgkfdnmikpfaaGreatDoor
open Go.RowKit
set_option linter.unusedVariables false

set_option maxHeartbeats 4000000 in
/-- A variable: its number, if it is not there yet. -/
theorem rvars_var {W w : World} {k n : Int} {s : ByteArray} {u lv : Value} {l : List Int} (hk : k = 0) (hb : Below W.heap.size W w) (hr : RowN w W.heap.size lv l) (hl : l.length ≤ 1000000) :
    Calls Tryz.prog 99 #[.agg #[.int .i64 k, .int .i64 n, .string s, u], lv] w fun e w' => ∃ r, e = .returned r ∧ RowN w' W.heap.size r (if l.contains n then l else l ++ [n]) ∧ Below W.heap.size W w' ∧ Kept w w' lv.ownBlock ∧ (r.ownBlock = lv.ownBlock ∨ ∀ k, r.ownBlock = some k → w.heap.size ≤ k) := by
  subst hk
  obtain ⟨a, c, rfl, h1⟩ := row_formk hr
  obtain ⟨m, hm⟩ : ∃ m, l.length = m := ⟨_, rfl⟩
  obtain ⟨R, hR⟩ : ∃ R, (if l.contains n then l else l ++ [n]) = R := ⟨_, rfl⟩
  rw [hR]
  have HR := Lib.hid hR
  have HROW := Lib.hid hr
  have HM := Lib.hid hm
  rw [hm] at h1 hl hr HROW ⊢
  have HBW := Lib.hid hb
  have hWs : W.heap.size ≤ w.heap.size := hb.size
  obtain ⟨i0, hi0, hz0, hs0, hb0⟩ := info_parts infoI64
  clear hr hm hR hb
  go_enter Tryz.func99, Tryz.ntmps99
  go_wp2_with fail
  go_loopw [5] (fun v wr => ∃ i : Nat, i ≤ m ∧ v = .int .i64 i ∧ Hid (¬ n ∈ l.take i) ∧ Hid (Below (w.alloc (box4 0 n s u 66)).heap.size (w.alloc (box4 0 n s u 66)) wr)) (fun v _ => m - (intOf v).toNat)
  case atStart => exact ⟨0, Nat.zero_le _, rfl, Lib.hid (by simp), Lib.hid (Below.refl _ _)⟩
  case round =>
    obtain ⟨i, hi, rfl, HT, HB⟩ := hrel
    obtain ⟨e0, e1, e2, e3⟩ := box_cells w 66 _ _ _ _ HB.out
    have HBB := Lib.hid (Ext.trans' (bel1' w _) HB.out)
    by_cases hil : i < m
    · obtain ⟨x, hx⟩ : ∃ x, l[i]? = some x := ⟨_, List.getElem?_eq_getElem (by rw [HM.out]; exact hil)⟩
      have hnums : Nums w (.slice a m c) l := by have := HROW.out.nums; exact this
      obtain ⟨b, off, rfl, _, c0⟩ := (hnums.ext HBB.out).get hx
      by_cases hxn : x = n
      · subst hxn
        have hrl : R = l := by rw [← HR.out, if_pos (by simpa using List.mem_of_getElem? hx)]
        subst hrl
        clear hx HT HR hnums
        go_wp2_with fail
        go_quiet (fail)
        go_wp2
        go_ret
        exact ⟨_, rfl, row_ext HROW.out (bel_drewN HBB.out _), bel_drewN (Ext.trans' HBW.out HBB.out) _, Kept.of (bel_drewN HBB.out _) _, Or.inl rfl⟩
      · have HT2 : Hid (¬ n ∈ l.take (i + 1)) := Lib.hid (by
          rw [List.take_add_one, hx]
          intro hmem
          rcases List.mem_append.1 hmem with hh | hh
          · exact HT.out hh
          · simp at hh
            exact hxn hh.symm)
        have hxn' : (x == n) = false := beq_false_of_ne hxn
        clear hx HT hnums
        go_wp2_with fail
        go_quiet (fail)
        go_wp2
        go_roundw
        case rel => exact ⟨i + 1, by omega, by go_num, HT2, Lib.hid (bel_drewN HB.out _)⟩
        case measure => simp [intOf]; omega
    · have hrl : R = l ++ [n] := by
        rw [← HR.out, if_neg]
        have := HT.out
        rw [List.take_of_length_le (by rw [HM.out]; omega)] at this
        simpa using this
      subst hrl
      have HROW2 : Hid (wr.ownsRow W.heap.size 2 1 (.slice a m c) m (l.flatMap numCells)) := Lib.hid (by have := row_ext HROW.out HBB.out; rw [HM.out] at this; exact this)
      have hsz : W.heap.size ≤ wr.heap.size := Nat.le_trans hWs HBB.out.size
      clear HR HT
      go_wp2_with (at_builtin; refine wpList_append_k rfl _ _ 43 rfl W.heap.size 2 i0 (.int .i64 0) 1 8 Tryz.underlying43 hi0 hz0 hs0 (by decide) hb0 rfl (.slice a m c) m (l.flatMap numCells) rfl (HROW2.out.alloc _) _ 1 1 [.int .i64 n] rfl rfl (Or.inr ⟨_, rfl, fun j u hu => cell_new _ _ _ j u hu⟩) (fun u hu => by simp at hu; subst hu; rfl) (by unfold maxLen; omega) (by omega) (by simp; omega) (m + 1) ((l ++ [n]).flatMap numCells) rfl (by rw [List.flatMap_append]; rfl) ?_; intro a4 c4 w4 hown4 hgrow4 hat4)
      go_ret
      refine ⟨_, rfl, ?_, ((Ext.trans' HBW.out HBB.out).alloc hsz _).grown hgrow4 (by simp; omega) (fun q hq => (HROW2.out.lt q hq).1), Kept.trans (Kept.of (HBB.out.alloc HBB.out.size _) _) ⟨hgrow4.size, fun k hk hne => hgrow4.block k hk (Ne.symm hne)⟩ (Or.inl rfl), ?_⟩
      rotate_left
      · rcases hat4 with h | h
        · exact Or.inl h
        · refine Or.inr (fun k hk => ?_)
          have hk' : (Value.slice a4 (m + 1) c4).ownBlock = some k := hk
          rw [h] at hk'
          cases hk'
          have := HBB.out.size
          simp
          omega
      unfold RowN
      rw [List.length_append, HM.out]
      exact hown4
end Go.Proofs.YtljgkfdnmikpfaaGreatDoor
/- Terms: the document's Vars: all of it. -/
namespace Go.Proofs.YtljgkfdnmikpfaaGreatDoor
open Go.RowKit
set_option linter.unusedVariables false

set_option maxHeartbeats 4000000 in
set_option maxRecDepth 100000 in
theorem rvars_at : ∀ (N : Nat) (x : Tm), sizeN x ≤ N → ∀ (W w : World) (v lv : Value) (l : List Int), TmV W x v → Below W.heap.size W w → RowN w W.heap.size lv l → l.length + sizeN x ≤ 1000000 →
    Calls Tryz.prog 99 #[v, lv] w fun e w' => ∃ r, e = .returned r ∧ RowN w' W.heap.size r (varsT x l) ∧ Below W.heap.size W w' ∧ Kept w w' lv.ownBlock ∧ (r.ownBlock = lv.ownBlock ∨ ∀ k, r.ownBlock = some k → w.heap.size ≤ k)
  | 0, x, h, W, w, v, lv, l, hv, hb, hr, hl => by have := size_pos x; omega
  | N + 1, .mk k n s ts, h, W, w, v, lv, l, hv, hb, hr, hl => by
    obtain ⟨u, rfl, hs, hki, hni, hu⟩ := tmV_iff.1 hv
    by_cases hk : k = 0
    · have e : varsT (.mk k n s ts) l = if l.contains n then l else l ++ [n] := by rw [varsT, if_pos hk]
      rw [e]
      exact rvars_var hk hb hr (by omega)
    have e : varsT (.mk k n s ts) l = varsL ts l := by rw [varsT, if_neg hk]
    rw [e]
    have hk' : (k == 0) = false := beq_false_of_ne hk
    obtain ⟨a, c, rfl, h1, h2, h3⟩ := hu.len
    unfold BIG at h3
    obtain ⟨m, hm⟩ : ∃ m, ts.length = m := ⟨_, rfl⟩
    have IH := Lib.hid (fun (y : Tm) (hy : y ∈ ts) => rvars_at N y (mem_size h hy) W)
    have HL := Lib.hid (show l.length + sizesN ts ≤ 1000000 by rw [sizeN] at hl; omega)
    have HU := Lib.hid hu
    have HM := Lib.hid hm
    rw [hm] at h1 h3 hu HU ⊢
    have HBW := Lib.hid hb
    have HROW := Lib.hid hr
    obtain ⟨R, hR⟩ : ∃ R, varsL ts l = R := ⟨_, rfl⟩
    rw [hR]
    have HR := Lib.hid hR
    clear e hk hv hb hr hl hu hm hR h
    go_enter Tryz.func99, Tryz.ntmps99
    go_wp2_with fail
    go_loopw [1, 6] (fun z v wr => ∃ i : Nat, i ≤ m ∧ v = .int .i64 i ∧ Hid (RowN wr W.heap.size z (varsL (ts.take i) l)) ∧ Hid (Below W.heap.size W wr) ∧ Hid (wr.cell? ⟨w.heap.size, 3, none⟩ = some (.slice a m c)) ∧ w.heap.size < wr.heap.size ∧ Hid (z.ownBlock ≠ some w.heap.size) ∧ Hid (Kept w wr lv.ownBlock) ∧ Hid (z.ownBlock = lv.ownBlock ∨ ∀ k, z.ownBlock = some k → w.heap.size ≤ k)) (fun _ v _ => m - (intOf v).toNat)
    case atStart => exact ⟨0, Nat.zero_le _, rfl, Lib.hid (by rw [List.take_zero, varsL]; exact row_ext HROW.out (bel1' _ _)), Lib.hid (Ext.trans' HBW.out (bel1' _ _)), Lib.hid (by simp), by simp, Lib.hid (fun e => by have := (HROW.out.lt _ e).2; omega), Lib.hid (Kept.of (bel1' _ _) _), Lib.hid (Or.inl rfl)⟩
    case round =>
      obtain ⟨i, hi, rfl, HZ, HB, HC, hlt, HNE, HK, HO⟩ := hrel
      have e3 := HC.out
      by_cases hil : i < m
      · obtain ⟨y, hy⟩ : ∃ y, ts[i]? = some y := ⟨_, List.getElem?_eq_getElem (by rw [HM.out]; exact hil)⟩
        obtain ⟨b, off, k1, n1, s1, u1, rfl, hbb, _, _, _, c0, c1, c2, c3, _, ht⟩ := HU.out.get hy
        have d0 := cell_later HB.out c0
        have d1 := cell_later HB.out c1
        have d2 := cell_later HB.out c2
        have d3 := cell_later HB.out c3
        have hz := sizes_drop hy
        have hz2 := sizes_take ts (i + 1)
        have hvl := (varss_len (ts.take i) l).1
        have ih := IH.out y (List.mem_of_getElem? hy) wr _ _ _ ht HB.out HZ.out (by have := HL.out; omega)
        have hst := varss_step hy l
        rw [← hst] at ih
        clear c0 c1 c2 c3 hz hz2 hvl hst ht hy
        (go_wp2_with fail; go_fit (ih); rintro e w2 ⟨r2, rfl, hr2, b2, k2, o2⟩)
        have HZ2 := Lib.hid hr2
        have HB2 := Lib.hid b2
        have f3 := k2.cell HNE.out e3
        have HC2 := Lib.hid f3
        have HK2 := Lib.hid (HK.out.trans k2 HO.out)
        have hlt2 : w.heap.size < w2.heap.size := Nat.lt_of_lt_of_le hlt k2.1
        have HNE2 : Hid (r2.ownBlock ≠ some w.heap.size) := Lib.hid (fun e => by
          rcases o2 with o2 | o2
          · exact HNE.out (by rw [← o2]; exact e)
          · have := o2 _ e
            omega)
        have HO2 : Hid (r2.ownBlock = lv.ownBlock ∨ ∀ k, r2.ownBlock = some k → w.heap.size ≤ k) := Lib.hid (by
          rcases o2 with o2 | o2
          · rw [o2]; exact HO.out
          · exact Or.inr (fun k hk => by have := o2 k hk; omega))
        clear hr2 b2 k2 o2 HZ HB HC HNE HK HO e3 d0 d1 d2 d3
        go_wp2
        go_roundw
        case rel => exact ⟨i + 1, by omega, by go_num, HZ2, HB2, HC2, hlt2, HNE2, HK2, HO2⟩
        case measure => simp [intOf]; omega
      · have hR2 : varsL (ts.take i) l = R := by rw [← HR.out, List.take_of_length_le (by rw [HM.out]; omega)]
        have HZ2 := HZ.out
        rw [hR2] at HZ2
        clear hR2 HZ HR
        go_wp2
        go_ret
        exact ⟨_, rfl, HZ2, HB.out, HK.out, HO.out⟩
set_option maxHeartbeats 2000000 in
theorem rVars_at (x : Tm) (w : World) (v : Value) (hv : TmV w x v) : Calls Tryz.prog 62 #[v] w fun e w' => ∃ r, e = .returned r ∧ Nums w' r (if goodT x then varsT x [] else []) ∧ Below w.heap.size w w' := by
  have G := fun w (h : TmV w x v) => rgood_at x w v h
  have V := fun w (h : TmV w x v) (hs : goodT x = true) => rvars_at _ x (Nat.le_refl _) w w v (.slice none 0 0) [] h (Below.refl _ _) (RowN.nil _ _) (by have := (good_parts hs).1; simp; omega)
  obtain ⟨k, n, s, ts, hxe⟩ : ∃ k n s ts, x = .mk k n s ts := by cases x; exact ⟨_, _, _, _, rfl⟩
  have hv' := hv
  rw [hxe] at hv'
  obtain ⟨u, rfl, _, _, _, _⟩ := tmV_iff.1 hv'
  clear hv' hxe
  have hv0 := TmV.ext (bel1' w (.cells #[.int .i64 k, .int .i64 n, .string s, u] 66)) _ _ hv
  cases hg : goodT x
  · rw [hg] at G
    clear V hg
    go_enter Tryz.func62, Tryz.ntmps62
    (go_wp2_with fail; go_fit (G _ hv0); rintro e w1 ⟨rfl, b1⟩)
    have B1 := Lib.hid (Ext.trans' (bel1' w _) b1)
    clear b1
    go_wp2
    go_ret
    exact ⟨_, rfl, Nums.nil _, B1.out⟩
  · rw [hg] at G
    have V' := fun w h => V w h hg
    rw [if_pos rfl]
    clear V hg
    go_enter Tryz.func62, Tryz.ntmps62
    (go_wp2_with fail; go_fit (G _ hv0); rintro e w1 ⟨rfl, b1⟩)
    have hv1 := TmV.ext b1 _ _ hv0
    obtain ⟨e0, e1, e2, e3⟩ := box_cells w 66 _ _ _ _ b1
    have B1 := Lib.hid (Ext.trans' (bel1' w _) b1)
    clear b1
    (go_wp2_with fail; go_fit (V' _ hv1); rintro e w2 ⟨r, rfl, hr, b2, _, _⟩)
    have B2 := Lib.hid (Ext.trans' B1.out b2)
    have HN := Lib.hid hr.nums
    clear hr b2
    go_wp2
    go_ret
    exact ⟨_, rfl, HN.out, B2.out⟩
end Go.Proofs.YtljgkfdnmikpfaaGreatDoor
/- The document's own writing without operators: plain. -/
namespace Go.Proofs.YtljgkfdnmikpfaaGreatDoor
open Go.Shelf Go.RowKit
set_option linter.unusedVariables false

abbrev baS (l : List UInt8) : ByteArray := ⟨l.toArray⟩
def QC (q : ByteArray → List UInt8) (s : ByteArray) : Prop := ∀ w, Calls Tryz.prog 101 #[.string s] w fun e w' => e = .returned (.string (baS (q s))) ∧ Below w.heap.size w w'
def NC (nm : Int → List UInt8) (n : Int) : Prop := ∀ w, Calls Tryz.prog 104 #[.int .i64 n] w fun e w' => e = .returned (.string (baS (nm n))) ∧ Below w.heap.size w w'
section
variable (q : ByteArray → List UInt8) (nm : Int → List UInt8) (vs : List Int)
def varW (n : Int) : List UInt8 := match vs.findIdx? (fun v => v == n) with
  | some i => 95 :: nm (i : Nat)
  | none => [95]
mutual
def plainW : Tm → List UInt8
  | .mk k n s ts => if k = 0 then varW nm vs n else if k = 1 then nm n else if ts.isEmpty then q s else q s ++ argsW true ts ++ [41]
def argsW : Bool → List Tm → List UInt8
  | _, [] => []
  | first, x :: r => (if first then 40 else 44) :: plainW x ++ argsW false r
end
mutual
/-- All its names and numbers are such as can be written. -/
def mayW (P : ByteArray → Prop) (Q : Int → Prop) : Tm → Prop
  | .mk k n s ts => (k = 1 → Q n) ∧ (k ≠ 0 → k ≠ 1 → P s) ∧ maysW P Q ts
def maysW (P : ByteArray → Prop) (Q : Int → Prop) : List Tm → Prop
  | [] => True
  | x :: r => mayW P Q x ∧ maysW P Q r
end
end
theorem mays_mem {P : ByteArray → Prop} {Q : Int → Prop} : ∀ {l : List Tm} {x : Tm}, maysW P Q l → x ∈ l → mayW P Q x
  | y :: r, x, h, hx => by
    rw [maysW] at h
    rcases List.mem_cons.1 hx with rfl | hx
    · exact h.1
    · exact mays_mem h.2 hx
theorem args_drop (q : ByteArray → List UInt8) (nm : Int → List UInt8) (vs : List Int) : ∀ (ts : List Tm) (j : Nat) (x : Tm) (first : Bool), ts[j]? = some x → argsW q nm vs (first && decide (j = 0)) (ts.drop j) = (if (first && decide (j = 0)) = true then 40 else 44) :: plainW q nm vs x ++ argsW q nm vs false (ts.drop (j + 1))
  | ts, j, x, first, h => by
    have hj := (List.getElem?_eq_some_iff.1 h).1
    have e : ts.drop j = x :: ts.drop (j + 1) := by
      rw [← List.getElem_cons_drop hj]
      have := (List.getElem?_eq_some_iff.1 h).2
      rw [this]
    rw [e, argsW]
theorem bl_baS (l : List UInt8) : bl (baS l) = l := by simp [bl]
theorem bl_cat (a b : ByteArray) : bl (a ++ b) = bl a ++ bl b := by simp [bl]
theorem bl_eq {a b : ByteArray} (h : bl a = bl b) : a = b := bytes_eq h
theorem size_bl (a : ByteArray) : a.size = (bl a).length := (bl_len a).symm
/-- What a writer needs. -/
structure WrAt (w : World) (wb : Nat) (vv : Value) (vs : List Int) : Prop where
  c : w.cell? ⟨wb, 1, none⟩ = some vv
  n : Nums w vv vs
theorem WrAt.ext {w w' : World} {wb : Nat} {vv : Value} {vs : List Int} (h : WrAt w wb vv vs) (hb : Below w.heap.size w w') : WrAt w' wb vv vs := ⟨cell_later hb h.c, h.n.ext hb⟩
set_option maxHeartbeats 4000000 in
theorem plain_var {q : ByteArray → List UInt8} {nm : Int → List UInt8} {vs : List Int} {w : World} {wb : Nat} {vv : Value} (hw : WrAt w wb vv vs) (hN : ∀ i : Nat, i < vs.length → NC nm i) (n : Int) (s : ByteArray) (a : Option Addr) (m c : Nat) (hl : ∀ i : Nat, i < vs.length → (nm i).length ≤ 1000) :
    Calls Tryz.prog 64 #[.pointer (some ⟨wb, 0, none⟩), .agg #[.int .i64 0, .int .i64 n, .string s, .slice a m c]] w fun e w' => e = .returned (.string (baS (varW nm vs n))) ∧ Below w.heap.size w w' := by
  obtain ⟨ao, cv, rfl, hl1, hl2⟩ := hw.n.len
  unfold maxLen at hl2
  obtain ⟨w1, hw1, hb1, hz1, hx1⟩ := box_new w #[.int .i64 0, .int .i64 n, .string s, .slice a m c] 66
  have hw' := hw.ext hb1
  have HW := Lib.hid hw'
  have HB1 := Lib.hid hb1
  obtain ⟨b0, b1, b2, b3, bf⟩ := hx1.four
  have c1 := hw'.c
  obtain ⟨L, hL⟩ : ∃ L, vs.length = L := ⟨_, rfl⟩
  have HL := Lib.hid hL
  have HNC := Lib.hid hN
  have HLL := Lib.hid hl
  rw [hL] at c1 hl1
  clear hw hw' hb1 hx1 hN hL hl hz1
  go_enter Tryz.func64, Tryz.ntmps64
  go_wp2_with fail
  (try rw [hw1])
  clear hw1
  go_wp2_with fail
  go_loopw [5] (fun v wr => ∃ j : Nat, j ≤ L ∧ v = .int .i64 j ∧ Hid (∀ i x, i < j → vs[i]? = some x → ¬ x = n) ∧ Hid (Below w1.heap.size w1 wr)) (fun v _ => L - (intOf v).toNat)
  case atStart => exact ⟨0, Nat.zero_le _, rfl, Lib.hid (fun i x h => by omega), Lib.hid (Below.refl _ _)⟩
  case round =>
    obtain ⟨j, hj, rfl, HNO, HB⟩ := hrel
    have c1 := cell_later HB.out c1
    have b1 := cell_later HB.out b1
    by_cases hlt : j < L
    · obtain ⟨x, hx⟩ : ∃ x, vs[j]? = some x := ⟨_, List.getElem?_eq_getElem (by rw [HL.out]; exact hlt)⟩
      have hnum := HW.out.n.ext HB.out
      obtain ⟨b, off, rfl, hbb, d0⟩ := hnum.get hx
      have HX := Lib.hid hx
      have hjj : (j : Int) < L := by omega
      clear hnum hx
      by_cases hxn : x = n
      · subst hxn
        have hxe : (x == x) = true := beq_self_eq_true x
        have HNJ := Lib.hid (HNC.out j (by rw [HL.out]; exact hlt))
        obtain ⟨Z, hZ⟩ : ∃ Z, baS (nm j) = Z := ⟨_, rfl⟩
        have hZs : Z.size ≤ 1000 := by rw [← hZ, size_bl, bl_baS]; exact HLL.out j (by rw [HL.out]; exact hlt)
        have hNJ : ∀ w, Calls Tryz.prog 104 #[.int .i64 j] w fun e w' => e = .returned (.string Z) ∧ Below w.heap.size w w' := by rw [← hZ]; exact HNJ.out
        have HNK := Lib.hid hNJ
        have HZ := Lib.hid hZ
        clear hNJ hZ HNJ
        go_wp2_with fail
        go_quiet (fail)
        go_wp2_with fail
        (go_wp2_with fail; go_fit (HNK.out _); rintro e w4 ⟨rfl, hb4⟩)
        have HB4 := Lib.hid (Ext.trans' (Ext.trans' HB1.out (bel_drewN HB.out _)) hb4)
        clear hb4
        go_wp2
        go_ret
        refine ⟨?_, HB4.out⟩
        have hf : vs.findIdx? (fun v => v == x) = some j := by
          rw [List.findIdx?_eq_some_iff_getElem]
          have hjl := (List.getElem?_eq_some_iff.1 HX.out)
          refine ⟨hjl.1, by rw [hjl.2]; exact beq_self_eq_true x, fun i hi => ?_⟩
          have hil : i < vs.length := Nat.lt_trans hi hjl.1
          have := HNO.out i (vs[i]'hil) hi (List.getElem?_eq_getElem hil)
          simpa using this
        have hb : (⟨#[95]⟩ : ByteArray) ++ Z = baS (varW nm vs x) := bl_eq (by
          show bl _ = bl _
          rw [bl_cat, bl_baS, ← HZ.out, bl_baS]
          unfold varW
          rw [hf]
          rfl)
        exact congrArg Ending.returned (congrArg Value.string hb)
      · have hxe : (x == n) = false := beq_false_of_ne hxn
        go_wp2_with fail
        go_quiet (fail)
        go_wp2
        go_roundw
        case rel => exact ⟨j + 1, hlt, by go_num, Lib.hid (fun i y hi hy => by
          by_cases e : i = j
          · subst e; rw [HX.out] at hy; cases hy; exact hxn
          · exact HNO.out i y (by omega) hy), Lib.hid (bel_drewN HB.out _)⟩
        case measure => simp [intOf]; omega
    · have hjl : j = L := by omega
      subst hjl
      have HF := Lib.hid (show varW nm vs n = [95] by
        have hf : vs.findIdx? (fun v => v == n) = none := by
          rw [List.findIdx?_eq_none_iff]
          intro x hx
          obtain ⟨i, hi⟩ := List.getElem?_of_mem hx
          have := HNO.out i x (by rw [← HL.out]; exact (List.getElem?_eq_some_iff.1 hi).1) hi
          simpa using this
        unfold varW
        rw [hf])
      go_wp2
      go_ret
      refine ⟨?_, Ext.trans' HB1.out HB.out⟩
      rw [HF.out]
      rfl
theorem plain_int {q : ByteArray → List UInt8} {nm : Int → List UInt8} {vs : List Int} {w : World} {wb : Nat} (n : Int) (hN : NC nm n) (s : ByteArray) (a : Option Addr) (m c : Nat) :
    Calls Tryz.prog 64 #[.pointer (some ⟨wb, 0, none⟩), .agg #[.int .i64 1, .int .i64 n, .string s, .slice a m c]] w fun e w' => e = .returned (.string (baS (nm n))) ∧ Below w.heap.size w w' := by
  obtain ⟨w1, hw1, hb1, hz1, hx1⟩ := box_new w #[.int .i64 1, .int .i64 n, .string s, .slice a m c] 66
  have HB1 := Lib.hid hb1
  have HNC := Lib.hid hN
  obtain ⟨b0, b1, b2, b3, bf⟩ := hx1.four
  clear hb1 hx1 hN hz1
  go_enter Tryz.func64, Tryz.ntmps64
  go_wp2_with fail
  (try rw [hw1])
  clear hw1
  (go_wp2_with fail; go_fit (HNC.out _); rintro e w4 ⟨rfl, hb4⟩)
  go_wp2
  go_ret
  exact ⟨rfl, Ext.trans' HB1.out hb4⟩
set_option maxHeartbeats 4000000 in
theorem plain_name {q : ByteArray → List UInt8} {nm : Int → List UInt8} {vs : List Int} (k : Int) (hk0 : (k == 0) = false) (hk1 : (k == 1) = false) (n : Int) (s : ByteArray) (ts : List Tm) (hQ : QC q s)
    (hlen : (q s).length + (argsW q nm vs true ts).length ≤ 1000000) {w : World} {wb : Nat} {vv : Value} (hw : WrAt w wb vv vs) (a : Option Addr) (c : Nat) (hT : Tms w (.slice a ts.length c) ts)
    (hC : ∀ x ∈ ts, ∀ (wq : World) (v : Value), TmV wq x v → WrAt wq wb vv vs → Calls Tryz.prog 64 #[.pointer (some ⟨wb, 0, none⟩), v] wq fun e w' => e = .returned (.string (baS (plainW q nm vs x))) ∧ Below wq.heap.size wq w') :
    Calls Tryz.prog 64 #[.pointer (some ⟨wb, 0, none⟩), .agg #[.int .i64 k, .int .i64 n, .string s, .slice a ts.length c]] w fun e w' => e = .returned (.string (baS (if ts.isEmpty then q s else q s ++ argsW q nm vs true ts ++ [41]))) ∧ Below w.heap.size w w' := by
  obtain ⟨m, hm⟩ : ∃ m, ts.length = m := ⟨_, rfl⟩
  have HE := Lib.hid (show ts.isEmpty = decide (m = 0) by rw [← hm]; cases ts <;> simp)
  obtain ⟨l1, l2⟩ : ts.length ≤ c ∧ c ≤ maxLen := by
    obtain ⟨a', c', e', l1, l2, l3⟩ := hT.len
    cases e'
    exact ⟨l1, l2⟩
  rw [hm] at hT l1 ⊢
  unfold maxLen at l2
  obtain ⟨w1, hw1, hb1, hz1, hx1⟩ := box_new w #[.int .i64 k, .int .i64 n, .string s, .slice a m c] 66
  have HB1 := Lib.hid hb1
  have HT := Lib.hid hT
  have HW := Lib.hid hw
  have HM := Lib.hid hm
  have HC := Lib.hid hC
  have HQ := Lib.hid hQ
  have HLN := Lib.hid hlen
  obtain ⟨b0, b1, b2, b3, bf⟩ := hx1.four
  obtain ⟨Q, hq⟩ : ∃ Q, baS (q s) = Q := ⟨_, rfl⟩
  have hQ2 : ∀ w, Calls Tryz.prog 101 #[.string s] w fun e w' => e = .returned (.string Q) ∧ Below w.heap.size w w' := by rw [← hq]; exact hQ
  have HQ2 := Lib.hid hQ2
  have HQE := Lib.hid (show bl Q = q s by rw [← hq, bl_baS])
  obtain ⟨R, hR⟩ : ∃ R, (baS (if ts.isEmpty then q s else q s ++ argsW q nm vs true ts ++ [41])) = R := ⟨_, rfl⟩
  have HR := Lib.hid (show bl R = (if ts.isEmpty then q s else q s ++ argsW q nm vs true ts ++ [41]) by rw [← hR, bl_baS])
  rw [hR]
  clear hb1 hx1 hz1 hT hw hm hC hQ hlen hq hQ2 hR
  go_enter Tryz.func64, Tryz.ntmps64
  go_wp2_with fail
  (try rw [hw1])
  clear hw1
  (go_wp2_with fail; go_fit (HQ2.out _); rintro e w2 ⟨rfl, hb2⟩)
  have HB2 := Lib.hid (Ext.trans' HB1.out hb2)
  have b3 := cell_later hb2 b3
  clear hb2
  go_wp2_with fail
  go_loopw [6, 7] (fun p v wr => ∃ (j : Nat) (acc : ByteArray), j ≤ m ∧ v = .int .i64 j ∧ p = .string acc ∧ Hid (bl acc ++ argsW q nm vs (decide (j = 0)) (ts.drop j) = q s ++ argsW q nm vs true ts) ∧ Hid (Below w2.heap.size w2 wr)) (fun _ v _ => m - (intOf v).toNat)
  case atStart => exact ⟨0, Q, Nat.zero_le _, rfl, rfl, Lib.hid (by rw [HQE.out]; rfl), Lib.hid (Below.refl _ _)⟩
  case round =>
    obtain ⟨j, acc, hj, rfl, rfl, HA, HB⟩ := hrel
    have b3 := cell_later HB.out b3
    have hacc : acc.size ≤ 1000000 := by
      have h1 := congrArg List.length HA.out
      have h2 := HLN.out
      rw [List.length_append, List.length_append] at h1
      rw [size_bl]
      omega
    by_cases hlt : j < m
    · obtain ⟨x, hx⟩ : ∃ x, ts[j]? = some x := ⟨_, List.getElem?_eq_getElem (by rw [HM.out]; exact hlt)⟩
      have HBW := Lib.hid (Ext.trans' HB2.out HB.out)
      obtain ⟨b, off, xk, xn, xs', xu, rfl, hbb, ek, en, es, c0, c1, c2, c3, _, htx⟩ := (HT.out.ext HBW.out).get hx
      have hdr := args_drop q nm vs ts j x true hx
      simp only [Bool.true_and] at hdr
      have HCX := Lib.hid (HC.out x (List.mem_of_getElem? hx) wr _ htx (HW.out.ext HBW.out))
      obtain ⟨Z, hZ⟩ : ∃ Z, baS (plainW q nm vs x) = Z := ⟨_, rfl⟩
      have hZb : bl Z = plainW q nm vs x := by rw [← hZ, bl_baS]
      have hA := HA.out
      rw [hdr, ← hZb] at hA
      have hZs : acc.size + Z.size ≤ 1000000 := by
        have h1 := congrArg List.length hA
        have h2 := HLN.out
        simp only [List.length_append, List.length_cons] at h1
        rw [size_bl, size_bl]
        omega
      have HAZ := Lib.hid hA
      rw [hZ] at HCX
      clear hx ek en es htx hdr hZ hZb hA HA
      have hjj : (j : Int) < m := by omega
      by_cases hj0 : j = 0
      · subst hj0
        simp only [Nat.zero_mul, Nat.add_zero] at c0 c1 c2 c3
        (go_wp2_with fail; go_fit (HCX.out); rintro e w4 ⟨rfl, hb4⟩)
        have HB4 := Lib.hid (Ext.trans' HB.out hb4)
        have HAF := Lib.hid (show bl (acc ++ ⟨#[40]⟩ ++ Z) ++ argsW q nm vs (decide (0 + 1 = 0)) (ts.drop (0 + 1)) = q s ++ argsW q nm vs true ts by
          rw [← HAZ.out, bl_cat, bl_cat]
          simp [bl])
        clear hb4
        go_wp2
        go_roundw
        case rel => exact ⟨0 + 1, acc ++ ⟨#[40]⟩ ++ Z, hlt, by go_num, rfl, HAF, HB4⟩
        case measure => simp [intOf]; omega
      · have hjf : ((j : Int) == 0) = false := beq_false_of_ne (by omega)
        (go_wp2_with fail; go_fit (HCX.out); rintro e w4 ⟨rfl, hb4⟩)
        have HB4 := Lib.hid (Ext.trans' HB.out hb4)
        have HAF := Lib.hid (show bl (acc ++ ⟨#[44]⟩ ++ Z) ++ argsW q nm vs (decide (j + 1 = 0)) (ts.drop (j + 1)) = q s ++ argsW q nm vs true ts by
          rw [← HAZ.out, bl_cat, bl_cat]
          simp [bl, hj0])
        clear hb4
        go_wp2
        go_roundw
        case rel => exact ⟨j + 1, acc ++ ⟨#[44]⟩ ++ Z, hlt, by go_num, rfl, HAF, HB4⟩
        case measure => simp [intOf]; omega
    · have hjm : j = m := by omega
      subst hjm
      have HAE := Lib.hid (show bl acc = q s ++ argsW q nm vs true ts by
        rw [← HA.out, List.drop_of_length_le (by rw [HM.out]; exact Nat.le_refl _)]
        simp [argsW])
      by_cases hj0 : j = 0
      · subst hj0
        have HRE := Lib.hid (show acc = R by
          apply bl_eq
          rw [HAE.out, HR.out, HE.out]
          have : ts = [] := List.length_eq_zero_iff.1 HM.out
          simp [this, argsW])
        go_wp2
        go_ret
        exact ⟨congrArg Ending.returned (congrArg Value.string HRE.out), Ext.trans' HB2.out HB.out⟩
      · have hjp : (0 : Int) < j := by omega
        have HRE := Lib.hid (show acc ++ ⟨#[41]⟩ = R by
          apply bl_eq
          show bl _ = bl _
          rw [bl_cat, HAE.out, HR.out, HE.out]
          simp [hj0, bl])
        go_wp2
        go_ret
        exact ⟨congrArg Ending.returned (congrArg Value.string HRE.out), Ext.trans' HB2.out HB.out⟩
end Go.Proofs.YtljgkfdnmikpfaaGreatDoor
/- The document's own writing without operators; what the law's text answers. -/
namespace Go.Proofs.YtljgkfdnmikpfaaGreatDoor
open Go.Shelf Go.RowKit
set_option linter.unusedVariables false

theorem args_len (q : ByteArray → List UInt8) (nm : Int → List UInt8) (vs : List Int) : ∀ (ts : List Tm) (first : Bool) (x : Tm), x ∈ ts → (plainW q nm vs x).length ≤ (argsW q nm vs first ts).length
  | y :: r, first, x, h => by
    rw [argsW]
    simp only [List.length_append, List.length_cons]
    rcases List.mem_cons.1 h with rfl | h
    · omega
    · have := args_len q nm vs r false x h
      omega
theorem plainT_at {q : ByteArray → List UInt8} {nm : Int → List UInt8} {vs : List Int} (hN : ∀ i : Nat, i < vs.length → NC nm i) (hl : ∀ i : Nat, i < vs.length → (nm i).length ≤ 1000) (wb : Nat) (vv : Value) :
    ∀ (N : Nat) (t : Tm), sizeN t < N → mayW (QC q) (NC nm) t → (plainW q nm vs t).length ≤ 1000000 → ∀ (w : World) (v : Value), TmV w t v → WrAt w wb vv vs →
      Calls Tryz.prog 64 #[.pointer (some ⟨wb, 0, none⟩), v] w fun e w' => e = .returned (.string (baS (plainW q nm vs t))) ∧ Below w.heap.size w w'
  | 0, t, ht, _, _, w, v, _, _ => by omega
  | N + 1, .mk k n s ts, ht, hm, hlen, w, v, hv, hw => by
    obtain ⟨u, rfl, hs, hk64, hn64, hu⟩ := tmV_iff.1 hv
    obtain ⟨a, c, rfl, _⟩ := hu.len
    rw [mayW] at hm
    rw [plainW] at hlen ⊢
    by_cases h0 : k = 0
    · subst h0
      rw [if_pos rfl]
      exact plain_var (q := q) hw hN n s a ts.length c hl
    · rw [if_neg h0] at hlen ⊢
      by_cases h1 : k = 1
      · subst h1
        rw [if_pos rfl]
        exact plain_int (q := q) (vs := vs) n (hm.1 rfl) s a ts.length c
      · rw [if_neg h1] at hlen ⊢
        have hq : (q s).length + (argsW q nm vs true ts).length ≤ 1000000 := by
          cases ts with
          | nil => simp [argsW] at hlen ⊢; omega
          | cons x r => simp at hlen ⊢; omega
        refine plain_name k (beq_false_of_ne h0) (beq_false_of_ne h1) n s ts (hm.2.1 h0 h1) hq hw a c hu (fun x hx wq vx hvx hwx => ?_)
        have := sizes_mem hx
        rw [sizeN] at ht
        have := args_len q nm vs ts true x hx
        exact plainT_at hN hl wb vv N x (by omega) (mays_mem hm.2.2 hx) (by omega) wq vx hvx hwx
theorem short_at (s : ByteArray) (hs : s.size ≤ 4096) (w : World) : Calls Tryz.prog 61 #[.string s] w fun e w' => e = .returned (.tuple #[.string s, .int .i64 0]) ∧ w = w' := by
  have hd : decide ((4096 : Int) < (s.size : Int)) = false := decide_eq_false (by omega)
  go_enter Tryz.func61, Tryz.ntmps61
  go_wp2
  go_ret2
  exact ⟨rfl, rfl⟩
end Go.Proofs.YtljgkfdnmikpfaaGreatDoor
/- The document's own Quote at names of one letter: Cut, Plain, Quote. -/
namespace Go.Proofs.YtljgkfdnmikpfaaGreatDoor
open Go.Shelf Go.RowKit
set_option linter.unusedVariables false
set_option maxRecDepth 100000

theorem infoTokR : (Tryz.prog.info? 138).map (fun i => (i.zero, i.size, i.bytes)) = some (some (.agg #[.int .i64 0, .string ⟨#[]⟩, .int .i64 0, .bool false, .int .i64 0]), 5, 48) := by kernel_rfl
end Go.Proofs.YtljgkfdnmikpfaaGreatDoor
/- The law's awake. -/
namespace Go.Proofs.YtljgkfdnmikpfaaGreatDoor
open Go.Shelf Go.RowKit
set_option linter.unusedVariables false

theorem conv1r (W : World) (b : Nat) (d : Int) (h0 : 0 ≤ d) (h1 : d < 256) (hc : W.cell? ⟨b, 0, none⟩ = some (.int .u8 d)) :
    (convert 97 9 (.slice (some ⟨b, 0, none⟩) 1 1)).run Tryz.prog W = .ok (.string ⟨#[UInt8.ofNat d.toNat]⟩) W := by
  have := run_convert_bytes_back (P := Tryz.prog) W 97 9 5 ⟨b, 0, none⟩ 1 [UInt8.ofNat d.toNat] Tryz.underlying97 Tryz.underlying5 Tryz.underlying9 (fun j hj => by
    have : j = 0 := by simp at hj; omega
    subst this
    have e : ((UInt8.ofNat d.toNat).toNat : Int) = d := by
      rw [UInt8.toNat_ofNat']; omega
    simp only [List.getElem_cons_zero, e]
    simpa [Addr.add] using hc)
  exact this
theorem conv1r_new (W : World) (d : Int) (h0 : 0 ≤ d) (h1 : d < 256) :
    (convert 97 9 (.slice (some ⟨W.heap.size, 0, none⟩) 1 1)).run Tryz.prog (W.alloc (.cells #[.int .u8 d] 5)) = .ok (.string ⟨#[UInt8.ofNat d.toNat]⟩) (W.alloc (.cells #[.int .u8 d] 5)) :=
  conv1r _ _ d h0 h1 (by rw [World.cell?_alloc_at _ _ _ _ rfl]; rfl)
end Go.Proofs.YtljgkfdnmikpfaaGreatDoor
/- Numbers of 64 bits with a sign, as plain functions: what chapter 2 asks, in exact integers. -/
namespace Go.Proofs.YtljgkfdnmikpfaaGreatDoor

/-- A number of 64 bits. -/
def R (x : Int) : Prop := -9223372036854775808 ≤ x ∧ x ≤ 9223372036854775807
instance (x : Int) : Decidable (R x) := inferInstanceAs (Decidable (_ ∧ _))
/-- The answer, if it is one of 64 bits; else EOVER. -/
def ex (x : Int) : Int × Int := if R x then (x, 0) else (0, 3)
theorem ex_in {x : Int} (h : R x) : ex x = (x, 0) := if_pos h
theorem ex_out {x : Int} (h : ¬ R x) : ex x = (0, 3) := if_neg h
theorem wrap_in {x : Int} (h : R x) : IntKind.i64.wrap x = x := by rw [IntKind.wrap_i64]; unfold R at h; omega
theorem wrap_R (x : Int) : R (IntKind.i64.wrap x) := by rw [IntKind.wrap_i64]; unfold R; omega
theorem wrap_off (x : Int) : ∃ k : Int, IntKind.i64.wrap x = x + 18446744073709551616 * k := by
  rw [IntKind.wrap_i64]; exact ⟨-((x + 9223372036854775808) / 18446744073709551616), by omega⟩

theorem tmod_abs {x b : Int} (hb : R b) (h0 : b ≠ 0) : -9223372036854775808 < x.tmod b ∧ x.tmod b < 9223372036854775808 := by
  have h1 := Int.tmod_lt_of_pos x (b := b.natAbs) (by omega)
  have h2 := Int.lt_tmod_of_pos x (b := b.natAbs) (by omega)
  have h3 : x.tmod b = x.tmod b.natAbs := by
    rcases Int.natAbs_eq b with e | e
    · exact congrArg (x.tmod ·) e
    · exact (congrArg (x.tmod ·) e).trans (Int.tmod_neg _ _)
  unfold R at hb
  omega
/-- What is divided back tells whether a product has wrapped round. -/
theorem mul_out {a b : Int} (hb : R b) (h0 : b ≠ 0) (h : ¬ R (a * b)) : (IntKind.i64.wrap (a * b)).tdiv b ≠ a := by
  intro e
  apply h
  obtain ⟨k, hk⟩ := wrap_off (a * b)
  have h1 := Int.mul_tdiv_add_tmod (IntKind.i64.wrap (a * b)) b
  have h2 := tmod_abs (x := IntKind.i64.wrap (a * b)) hb h0
  rw [e, Int.mul_comm] at h1
  have h3 := wrap_R (a * b)
  have : k = 0 := by omega
  subst this
  rw [hk] at h3
  simpa using h3
theorem mul_in {a b : Int} (h0 : b ≠ 0) : (a * b).tdiv b = a := Int.mul_tdiv_cancel a h0
theorem tdiv_R {a b : Int} (ha : R a) (hb : R b) (h1 : b ≠ -1) : R (a.tdiv b) := by
  unfold R at *
  by_cases h2 : b = 0
  · subst h2; simp
  by_cases h3 : b = 1
  · subst h3; simpa using ha
  have h4 : (a.tdiv b).natAbs ≤ a.natAbs := by rw [Int.natAbs_tdiv]; exact Nat.div_le_self _ _
  by_cases h5 : (a.tdiv b).natAbs = a.natAbs
  · rw [Int.natAbs_tdiv] at h5
    have h6 : 2 ≤ b.natAbs := by omega
    have h8 : a.natAbs.div b.natAbs = a.natAbs / b.natAbs := rfl
    have h7 : a.natAbs / b.natAbs ≤ a.natAbs / 2 := Nat.div_le_div_left h6 (by decide)
    rw [Int.natAbs_tdiv] at h4
    have : a.natAbs = 0 := by omega
    have ha0 : a = 0 := by omega
    subst ha0; simp
  · omega
/-- Divided towards the lesser one: what is left has the divisor's sign. -/
def md (a b : Int) : Int := if a.tmod b ≠ 0 ∧ (decide (a.tmod b < 0) ≠ decide (b < 0)) then a.tmod b + b else a.tmod b
theorem ex_mul0 (a : Int) : ex (a * 0) = (0, 0) := by rw [Int.mul_zero]; rfl
end Go.Proofs.YtljgkfdnmikpfaaGreatDoor
/- The document's own sum and product (sizarref1.Two). -/
namespace Go.Proofs.YtljgkfdnmikpfaaGreatDoor
open Go.RowKit
set_option linter.unusedVariables false
set_option maxRecDepth 100000
theorem least_at {w : World} : Calls Tryz.prog 191 #[] w fun e w' => e = .returned (.int .i64 (-9223372036854775808)) ∧ w = w' := by
  go_enter Tryz.func191, Tryz.ntmps191
  go_wp2
  go_ret
  exact ⟨rfl, rfl⟩
theorem r_add {a b : Int} {w : World} (ha : R a) (hb : R b) : Calls Tryz.prog 178 #[.string ⟨#[43]⟩, .int .i64 a, .int .i64 b] w fun e w' => e = Ret2 (ex (a + b)) ∧ w = w' := by
  by_cases h : R (a + b)
  · have h1 := wrap_in h
    rw [ex_in h]
    have h2 : ((decide (0 ≤ a) && decide (0 ≤ b)) && decide (a + b < 0)) = false := by
      cases h3 : ((decide (0 ≤ a) && decide (0 ≤ b)) && decide (a + b < 0))
      · rfl
      · simp at h3; omega
    by_cases p0 : 0 ≤ a
    · by_cases p1 : 0 ≤ b
      · have p2 : ¬ (a + b < 0) := by omega
        go_enter Tryz.func178, Tryz.ntmps178
        go_wp2
        go_ret2
        exact ⟨rfl, rfl⟩
      · go_enter Tryz.func178, Tryz.ntmps178
        go_wp2
        go_ret2
        exact ⟨rfl, rfl⟩
    · by_cases p1 : 0 ≤ b
      · go_enter Tryz.func178, Tryz.ntmps178
        go_wp2
        go_ret2
        exact ⟨rfl, rfl⟩
      · have p2 : ¬ (0 ≤ a + b) := by omega
        go_enter Tryz.func178, Tryz.ntmps178
        go_wp2
        go_ret2
        exact ⟨rfl, rfl⟩
  · rw [ex_out h]
    have hw : wrap64 (a + b) = (a + b + 9223372036854775808) % 18446744073709551616 - 9223372036854775808 := by rw [← IntWalk.i64_left, IntKind.wrap_i64]
    by_cases p0 : 0 ≤ a
    · have p1 : 0 ≤ b := by unfold R at *; omega
      have p2 : wrap64 (a + b) < 0 := by unfold R at *; omega
      clear hw h
      go_enter Tryz.func178, Tryz.ntmps178
      go_wp2
      go_ret2
      exact ⟨rfl, rfl⟩
    · have p1 : b < 0 := by unfold R at *; omega
      have p2 : 0 ≤ wrap64 (a + b) := by unfold R at *; omega
      clear hw h
      go_enter Tryz.func178, Tryz.ntmps178
      go_wp2
      go_ret2
      exact ⟨rfl, rfl⟩
theorem ex_mul0' (b : Int) : ex (0 * b) = (0, 0) := by rw [Int.zero_mul]; rfl
set_option maxHeartbeats 1000000 in
theorem r_mul {a b : Int} {w : World} (ha : R a) (hb : R b) : Calls Tryz.prog 178 #[.string ⟨#[42]⟩, .int .i64 a, .int .i64 b] w fun e w' => e = Ret2 (ex (a * b)) ∧ w = w' := by
  by_cases a0 : a = 0
  · subst a0
    rw [ex_mul0']
    go_enter Tryz.func178, Tryz.ntmps178
    go_wp2
    go_ret2
    exact ⟨rfl, rfl⟩
  by_cases b0 : b = 0
  · subst b0
    rw [ex_mul0]
    go_enter Tryz.func178, Tryz.ntmps178
    go_wp2
    go_ret2
    exact ⟨rfl, rfl⟩
  have L := fun w => @least_at w
  by_cases c1 : a = -1
  · subst c1
    by_cases c2 : b = -9223372036854775808
    · subst c2
      rw [ex_out (by decide +kernel)]
      go_enter Tryz.func178, Tryz.ntmps178
      go_wp2_with (go_at_call 191; go_fit (L _); rintro e w' ⟨rfl, rfl⟩)
      go_ret2
      exact ⟨rfl, rfl⟩
    · have h : R (-1 * b) := by unfold R at *; omega
      have h1 := wrap_in h
      have h2 : (-1 * b).tdiv b = -1 := Int.mul_tdiv_cancel _ b0
      rw [ex_in h]
      have h4 : IntKind.i64.wrap ((-1 * b).tdiv b) = -1 := by rw [h2]; rfl
      have h5 : IntKind.i64.wrap (-1) = -1 := by rfl
      clear h
      by_cases c3 : b = -1
      · subst c3
        go_enter Tryz.func178, Tryz.ntmps178
        go_wp2_with (go_at_call 191; go_fit (L _); rintro e w' ⟨rfl, rfl⟩)
        go_ret2
        exact ⟨rfl, rfl⟩
      · generalize hp : -1 * b = p at *
        have h6 : -b = p := by omega
        go_enter Tryz.func178, Tryz.ntmps178
        go_wp2_with (go_at_call 191; go_fit (L _); rintro e w' ⟨rfl, rfl⟩)
        go_ret2
        exact ⟨rfl, rfl⟩
  by_cases c3 : b = -1
  · subst c3
    by_cases c4 : a = -9223372036854775808
    · subst c4
      rw [ex_out (by decide +kernel)]
      go_enter Tryz.func178, Tryz.ntmps178
      go_wp2_with (go_at_call 191; go_fit (L _); rintro e w' ⟨rfl, rfl⟩)
      go_ret2
      exact ⟨rfl, rfl⟩
    · have h : R (a * -1) := by unfold R at *; omega
      have h1 := wrap_in h
      have h2 : (a * -1).tdiv (-1) = a := Int.mul_tdiv_cancel _ (by decide)
      rw [ex_in h]
      have h4 : IntKind.i64.wrap ((a * -1).tdiv (-1)) = a := by rw [h2]; exact wrap_in ha
      have h5 : IntKind.i64.wrap a = a := wrap_in ha
      clear h
      generalize hp : a * -1 = p at *
      have h6 : -a = p := by omega
      go_enter Tryz.func178, Tryz.ntmps178
      go_wp2_with (go_at_call 191; go_fit (L _); rintro e w' ⟨rfl, rfl⟩)
      go_ret2
      exact ⟨rfl, rfl⟩
  have f1 : (a == 0) = false := beq_false_of_ne a0
  have f2 : (b == 0) = false := beq_false_of_ne b0
  have f3 : (a == -1) = false := beq_false_of_ne c1
  have f4 : (b == -1) = false := beq_false_of_ne c3
  by_cases h : R (a * b)
  · have h2 := wrap_in h
    have h3 := @mul_in a b b0
    have h5 := wrap_in ha
    rw [ex_in h]
    clear h
    go_enter Tryz.func178, Tryz.ntmps178
    go_wp2_with (go_at_call 191; go_fit (L _); rintro e w' ⟨rfl, rfl⟩)
    go_ret2
    exact ⟨rfl, rfl⟩
  · have h2 : (wrap64 (a * b)).tdiv b ≠ a := by rw [← IntWalk.i64_left]; exact mul_out hb b0 h
    have h3 : ((wrap64 (a * b)).tdiv b == a) = false := beq_false_of_ne h2
    have h4 : IntKind.i64.wrap ((wrap64 (a * b)).tdiv b) = (wrap64 (a * b)).tdiv b := wrap_in (tdiv_R (by rw [← IntWalk.i64_left]; exact wrap_R _) hb c3)
    rw [ex_out h]
    clear h
    go_enter Tryz.func178, Tryz.ntmps178
    go_wp2_with (go_at_call 191; go_fit (L _); rintro e w' ⟨rfl, rfl⟩)
    go_ret2
    exact ⟨rfl, rfl⟩
end Go.Proofs.YtljgkfdnmikpfaaGreatDoor
