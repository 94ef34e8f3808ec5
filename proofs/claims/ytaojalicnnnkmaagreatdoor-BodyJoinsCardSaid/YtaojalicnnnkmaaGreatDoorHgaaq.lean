import Derived.Test.YtaojalicnnnkmaaGreatDoorHgaaa
import Derived.Lib.Strings
import Derived.Test.YtaojalicnnnkmaaGreatDoorHgaab
import Derived.Deep.QuietTactic
import Derived.Test.YtaojalicnnnkmaaGreatDoorHgaaj
import Derived.BigQuiet
import Derived.Test.YtaojalicnnnkmaaGreatDoorHgaal
import Derived.Test.YtaojalicnnnkmaaGreatDoorHgaao
import Derived.Test.YtaojalicnnnkmaaGreatDoorHgaap
import Derived.Test.YtaojalicnnnkmaaGreatDoorHgaam
set_option linter.unusedVariables false
set_option linter.unusedSimpArgs false
/- Terms: the document's Same; two rows of numbers alike. -/
namespace Go.Proofs.YtaojalicnnnkmaaGreatDoor
open Go.RowKit
set_option linter.unusedVariables false

theorem same_mk (k n k' n' : Int) (s s' : ByteArray) (ts ts' : List Tm) : sameT (.mk k n s ts) (.mk k' n' s' ts') = (k == k' && n == n' && s.data.toList == s'.data.toList && sameL ts ts') := by rw [sameT]
theorem sames_len : ∀ {a b : List Tm}, ¬ a.length = b.length → sameL a b = false
  | [], [], h => absurd rfl h
  | x :: r, y :: q, h => by
    rw [sameL, sames_len (a := r) (b := q) (by simpa using h), Bool.and_false]
  | [], y :: q, _ => by simp [sameL]
  | x :: r, [], _ => by simp [sameL]
theorem sames_step {a b : List Tm} {i : Nat} {x y : Tm} (hx : a[i]? = some x) (hy : b[i]? = some y) : sameL (a.drop i) (b.drop i) = (sameT x y && sameL (a.drop (i + 1)) (b.drop (i + 1))) := by
  obtain ⟨h1, rfl⟩ := List.getElem?_eq_some_iff.1 hx
  obtain ⟨h2, rfl⟩ := List.getElem?_eq_some_iff.1 hy
  rw [List.drop_eq_getElem_cons h1, List.drop_eq_getElem_cons h2, sameL]
set_option maxHeartbeats 4000000 in
set_option maxRecDepth 100000 in
/-- Alike but for the Args: then the Args, one by one. -/
theorem rsame_args {k n : Int} {s : ByteArray} {ts ts' : List Tm} {w : World} {a a' : Option Addr} {m c c' : Nat} (h1 : m ≤ c) (h2 : c ≤ maxLen) (h1' : m ≤ c') (h2' : c' ≤ maxLen) (h3 : m * 56 ≤ 140737488351232)
    (HM : Hid (ts.length = m)) (HM' : Hid (ts'.length = m)) (HU : Hid (Tms w (.slice a m c) ts)) (HU' : Hid (Tms w (.slice a' m c') ts'))
    (IH : Hid (∀ x ∈ ts, ∀ (y : Tm) (w : World) (va vb : Value), TmV w x va → TmV w y vb → Calls Tryz.prog 22 #[va, vb] w fun e w' => e = .returned (.bool (sameT x y)) ∧ Below w.heap.size w w')) :
    Calls Tryz.prog 22 #[.agg #[.int .i64 k, .int .i64 n, .string s, .slice a m c], .agg #[.int .i64 k, .int .i64 n, .string s, .slice a' m c']] w fun e w' => e = .returned (.bool (sameL ts ts')) ∧ Below w.heap.size w w' := by
  obtain ⟨r, hr⟩ : ∃ r, sameL ts ts' = r := ⟨_, rfl⟩
  rw [hr]
  have HR := Lib.hid hr
  clear hr
  have HW := Lib.hid (show Below w.heap.size w ((w.alloc (box4 k n s (.slice a m c) 46)).alloc (box4 k n s (.slice a' m c') 46)) from (bel1' w _).alloc (by simp) _)
  go_enter Tryz.func22, Tryz.ntmps22
  go_wp2_with fail
  go_loopw [5] (fun v wr => ∃ i : Nat, i ≤ m ∧ v = .int .i64 i ∧ Hid (sameL (ts.drop i) (ts'.drop i) = r) ∧ Hid (Below ((w.alloc (box4 k n s (.slice a m c) 46)).alloc (box4 k n s (.slice a' m c') 46)).heap.size ((w.alloc (box4 k n s (.slice a m c) 46)).alloc (box4 k n s (.slice a' m c') 46)) wr)) (fun v _ => m - (intOf v).toNat)
  case atStart => exact ⟨0, Nat.zero_le _, rfl, Lib.hid (by rw [List.drop_zero, List.drop_zero]; exact HR.out), Lib.hid (Below.refl _ _)⟩
  case round =>
    obtain ⟨i, hi, rfl, HD, HB⟩ := hrel
    have e3 : wr.cell? ⟨w.heap.size, 3, none⟩ = some (.slice a m c) := cell_later HB.out (by simp)
    have f3 : wr.cell? ⟨w.heap.size + 1, 3, none⟩ = some (.slice a' m c') := cell_later HB.out (by simp)
    have HBW := Lib.hid (Ext.trans' HW.out HB.out)
    by_cases hil : i < m
    · obtain ⟨x, hx⟩ : ∃ x, ts[i]? = some x := ⟨_, List.getElem?_eq_getElem (by rw [HM.out]; exact hil)⟩
      obtain ⟨y, hy⟩ : ∃ y, ts'[i]? = some y := ⟨_, List.getElem?_eq_getElem (by rw [HM'.out]; exact hil)⟩
      have hd := HD.out
      rw [sames_step hx hy] at hd
      obtain ⟨b, off, k1, n1, s1, u1, rfl, hbb, _, _, _, c0, c1, c2, c3, _, ht⟩ := (HU.out.ext HBW.out).get hx
      obtain ⟨b', off', k2, n2, s2, u2, rfl, hbb', _, _, _, d0, d1, d2, d3, _, ht'⟩ := (HU'.out.ext HBW.out).get hy
      have ih := fun wq (hq : Below wr.heap.size wr wq) => IH.out x (List.mem_of_getElem? hx) y wq _ _ (TmV.ext hq _ _ ht) (TmV.ext hq _ _ ht')
      clear HD ht ht' hx hy
      cases hq : sameT x y
      · rw [hq, Bool.false_and] at hd
        rw [hq] at ih
        have IHQ := Lib.hid ih
        subst hd
        clear hq ih HR
        go_wp2_with fail
        (refine wp_region_class (fun w' => (w'.cell? ⟨w.heap.size, 3, none⟩ = some (.slice (some ⟨b, off, none⟩) m c) ∧ w'.cell? ⟨w.heap.size + 1, 3, none⟩ = some (.slice (some ⟨b', off', none⟩) m c') ∧ w'.cell? ⟨b, off + i * 4, none⟩ = some (.int .i64 k1) ∧ w'.cell? ⟨b, off + i * 4 + 1, none⟩ = some (.int .i64 n1) ∧ w'.cell? ⟨b, off + i * 4 + 2, none⟩ = some (.string s1) ∧ w'.cell? ⟨b, off + i * 4 + 3, none⟩ = some u1 ∧ w'.cell? ⟨b', off' + i * 4, none⟩ = some (.int .i64 k2) ∧ w'.cell? ⟨b', off' + i * 4 + 1, none⟩ = some (.int .i64 n2) ∧ w'.cell? ⟨b', off' + i * 4 + 2, none⟩ = some (.string s2) ∧ w'.cell? ⟨b', off' + i * 4 + 3, none⟩ = some u2) ∧ Below wr.heap.size wr w') (by kernel_rfl) (by kernel_rfl) (⟨⟨e3, f3, c0, c1, c2, c3, d0, d1, d2, d3⟩, (Below.refl _ _).drew⟩) ?_; (repeat (first | go_big_quiet_skip | (go_big_quiet_want; refine quiet_of ?_; apply Exists.intro; refine ⟨fun wq hq => ?_, ?_⟩; (focus ((try dsimp only at hq); go_simp; (first | done | with_reducible rfl | ((go_at_call 22; refine (IHQ.out wq hq.2).mono ?_; rintro e w6 ⟨rfl, h6⟩; exact ⟨rfl, ⟨cell_later h6 hq.1.1, cell_later h6 hq.1.2.1, cell_later h6 hq.1.2.2.1, cell_later h6 hq.1.2.2.2.1, cell_later h6 hq.1.2.2.2.2.1, cell_later h6 hq.1.2.2.2.2.2.1, cell_later h6 hq.1.2.2.2.2.2.2.1, cell_later h6 hq.1.2.2.2.2.2.2.2.1, cell_later h6 hq.1.2.2.2.2.2.2.2.2.1, cell_later h6 hq.1.2.2.2.2.2.2.2.2.2⟩, Below.trans hq.2 (h6.mono hq.2.size)⟩)) | fail))); try simp only [Act.put, List.setIfInBounds_toArray, List.set_cons_zero, List.set_cons_succ]; go_big_quiet_on) | fail)); refine wpQuiet_nil ?_; intro wz hz)
        go_wp2
        go_ret
        exact ⟨rfl, Ext.trans' HBW.out hz.2⟩
      · rw [hq, Bool.true_and] at hd
        rw [hq] at ih
        have IHQ := Lib.hid ih
        have HD := Lib.hid hd
        clear hq ih hd
        go_wp2_with fail
        (refine wp_region_class (fun w' => (w'.cell? ⟨w.heap.size, 3, none⟩ = some (.slice (some ⟨b, off, none⟩) m c) ∧ w'.cell? ⟨w.heap.size + 1, 3, none⟩ = some (.slice (some ⟨b', off', none⟩) m c') ∧ w'.cell? ⟨b, off + i * 4, none⟩ = some (.int .i64 k1) ∧ w'.cell? ⟨b, off + i * 4 + 1, none⟩ = some (.int .i64 n1) ∧ w'.cell? ⟨b, off + i * 4 + 2, none⟩ = some (.string s1) ∧ w'.cell? ⟨b, off + i * 4 + 3, none⟩ = some u1 ∧ w'.cell? ⟨b', off' + i * 4, none⟩ = some (.int .i64 k2) ∧ w'.cell? ⟨b', off' + i * 4 + 1, none⟩ = some (.int .i64 n2) ∧ w'.cell? ⟨b', off' + i * 4 + 2, none⟩ = some (.string s2) ∧ w'.cell? ⟨b', off' + i * 4 + 3, none⟩ = some u2) ∧ Below wr.heap.size wr w') (by kernel_rfl) (by kernel_rfl) (⟨⟨e3, f3, c0, c1, c2, c3, d0, d1, d2, d3⟩, (Below.refl _ _).drew⟩) ?_; (repeat (first | go_big_quiet_skip | (go_big_quiet_want; refine quiet_of ?_; apply Exists.intro; refine ⟨fun wq hq => ?_, ?_⟩; (focus ((try dsimp only at hq); go_simp; (first | done | with_reducible rfl | ((go_at_call 22; refine (IHQ.out wq hq.2).mono ?_; rintro e w6 ⟨rfl, h6⟩; exact ⟨rfl, ⟨cell_later h6 hq.1.1, cell_later h6 hq.1.2.1, cell_later h6 hq.1.2.2.1, cell_later h6 hq.1.2.2.2.1, cell_later h6 hq.1.2.2.2.2.1, cell_later h6 hq.1.2.2.2.2.2.1, cell_later h6 hq.1.2.2.2.2.2.2.1, cell_later h6 hq.1.2.2.2.2.2.2.2.1, cell_later h6 hq.1.2.2.2.2.2.2.2.2.1, cell_later h6 hq.1.2.2.2.2.2.2.2.2.2⟩, Below.trans hq.2 (h6.mono hq.2.size)⟩)) | fail))); try simp only [Act.put, List.setIfInBounds_toArray, List.set_cons_zero, List.set_cons_succ]; go_big_quiet_on) | fail)); refine wpQuiet_nil ?_; intro wz hz)
        go_wp2
        go_roundw
        case rel => exact ⟨i + 1, by omega, by go_num, HD, Lib.hid (Ext.trans' HB.out hz.2)⟩
        case measure => simp [intOf]; omega
    · have hd := HD.out
      rw [List.drop_eq_nil_of_le (by rw [HM.out]; omega), List.drop_eq_nil_of_le (by rw [HM'.out]; omega), sameL] at hd
      subst hd
      clear HR HD
      go_wp2
      go_ret
      exact ⟨rfl, HBW.out⟩
end Go.Proofs.YtaojalicnnnkmaaGreatDoor
/- Terms: the document's Same, whole. -/
namespace Go.Proofs.YtaojalicnnnkmaaGreatDoor
open Go.RowKit
set_option linter.unusedVariables false

set_option maxHeartbeats 4000000 in
theorem rsame_at : ∀ (N : Nat) (x : Tm), sizeN x ≤ N → ∀ (y : Tm) (w : World) (va vb : Value), TmV w x va → TmV w y vb →
    Calls Tryz.prog 22 #[va, vb] w fun e w' => e = .returned (.bool (sameT x y)) ∧ Below w.heap.size w w'
  | 0, x, h, y, w, va, vb, hv, hv' => by have := size_pos x; omega
  | N + 1, .mk k n s ts, h, .mk k' n' s' ts', w, va, vb, hv, hv' => by
    obtain ⟨u, rfl, hs, hk, hn, hu⟩ := tmV_iff.1 hv
    obtain ⟨u', rfl, hs', hk', hn', hu'⟩ := tmV_iff.1 hv'
    obtain ⟨a, c, rfl, h1, h2, h3⟩ := hu.len
    obtain ⟨a', c', rfl, h1', h2', h3'⟩ := hu'.len
    unfold BIG at h3 h3' hs hs'
    have IH := Lib.hid (fun (x : Tm) (hx : x ∈ ts) => rsame_at N x (mem_size h hx))
    obtain ⟨m, hm⟩ : ∃ m, ts.length = m := ⟨_, rfl⟩
    obtain ⟨m', hm'⟩ : ∃ m', ts'.length = m' := ⟨_, rfl⟩
    have hmk := same_mk k n k' n' s s' ts ts'
    have HW := Lib.hid (show Below w.heap.size w ((w.alloc (box4 k n s (.slice a ts.length c) 46)).alloc (box4 k' n' s' (.slice a' ts'.length c') 46)) from (bel1' w _).alloc (by simp) _)
    by_cases g1 : k = k'
    · subst g1
      by_cases g2 : n = n'
      · subst g2
        by_cases g3 : s = s'
        · subst g3
          by_cases g4 : m = m'
          · subst g4
            rw [hmk, beq_self_eq_true, beq_self_eq_true, beq_self_eq_true, Bool.true_and, Bool.true_and, Bool.true_and]
            rw [hm] at h1 h3 hu ⊢
            rw [hm'] at h1' h3' hu' ⊢
            exact rsame_args h1 h2 h1' h2' h3 (Lib.hid hm) (Lib.hid hm') (Lib.hid hu) (Lib.hid hu') IH
          · have hr : sameT (.mk k n s ts) (.mk k n s ts') = false := by rw [hmk, sames_len (by rw [hm, hm']; exact g4), Bool.and_false]
            rw [hr]
            rw [hm] at h1 h3 HW ⊢
            rw [hm'] at h1' h3' HW ⊢
            have g4' : ((m : Int) != m') = true := by simp; omega
            have g4n : ¬ (m : Int) = m' := by omega
            clear hr hmk hm hm' hv hv' hu hu' IH h
            go_enter Tryz.func22, Tryz.ntmps22
            go_wp2
            go_ret
            exact ⟨rfl, HW.out⟩
        · have hb : (s.data.toList == s'.data.toList) = false := beq_false_of_ne (fun e => g3 (bytes_eq e))
          have hr : sameT (.mk k n s ts) (.mk k n s' ts') = false := by rw [hmk, hb]; simp
          rw [hr]
          have g3' : (s.toList == s'.toList) = false := by rw [Lib.toList_data, Lib.toList_data]; exact hb
          have g3n : ¬ s.toList = s'.toList := by rw [Lib.toList_data, Lib.toList_data]; exact fun e => g3 (bytes_eq e)
          clear hr hmk hm hm' hv hv' hu hu' IH h hb
          go_enter Tryz.func22, Tryz.ntmps22
          go_wp2
          go_ret
          exact ⟨rfl, HW.out⟩
      · have hr : sameT (.mk k n s ts) (.mk k n' s' ts') = false := by rw [hmk, beq_false_of_ne g2]; simp
        rw [hr]
        have g2' : (n != n') = true := by simpa using g2
        clear hr hmk hm hm' hv hv' hu hu' IH h
        go_enter Tryz.func22, Tryz.ntmps22
        go_wp2
        go_ret
        exact ⟨rfl, HW.out⟩
    · have hr : sameT (.mk k n s ts) (.mk k' n' s' ts') = false := by rw [hmk, beq_false_of_ne g1]; simp
      rw [hr]
      have g1' : (k != k') = true := by simpa using g1
      clear hr hmk hm hm' hv hv' hu hu' IH h
      go_enter Tryz.func22, Tryz.ntmps22
      go_wp2
      go_ret
      exact ⟨rfl, HW.out⟩

end Go.Proofs.YtaojalicnnnkmaaGreatDoor
/- The document's side of chapter 14: Same, of goals and the same goals. -/
namespace Go.Proofs.YtaojalicnnnkmaaGreatDoor
open Go.RowKit
set_option linter.unusedVariables false

theorem stays_of {w w' : World} (hb : Below w.heap.size w w') : Stays w w' := ⟨hb.size, fun x v hv => cell_later hb hv⟩
set_option maxHeartbeats 8000000 in
set_option maxRecDepth 100000 in
/-- Same: goals and the same goals. -/
theorem rSameG_at : ∀ (M : Nat) (l : List Gl), cntL l ≤ M → ∀ (w : World) (v v' : Value), GoalsV w l v → GoalsV w l v' → Calls Tryz.prog 20 #[v, v'] w fun e w' => e = .returned (.bool true) ∧ Below w.heap.size w w'
  | M, l, h, w, v, v', hv, hv' => by
    obtain ⟨a, c, rfl, h1, h2, h3⟩ := hv.len
    obtain ⟨a', c', rfl, h1', h2', _⟩ := hv'.len
    unfold maxLen at h2 h2'
    have IH := Lib.hid (fun (r : List Gl) (hr : cntL r < M) => rSameG_at (M - 1) r (by omega))
    have HV := Lib.hid hv
    have HV' := Lib.hid hv'
    obtain ⟨m, hm⟩ : ∃ m, l.length = m := ⟨_, rfl⟩
    have HM := Lib.hid hm
    have HH := Lib.hid h
    rw [hm] at h1 h3 h1' HV HV' ⊢
    clear hv hv' hm h
    go_enter Tryz.func20, Tryz.ntmps20
    go_wp2_with fail
    go_loopw [5] (fun i wr => ∃ j : Nat, j ≤ m ∧ i = .int .i64 j ∧ Hid (Below w.heap.size w wr)) (fun i _ => m - (intOf i).toNat)
    case atStart => exact ⟨0, Nat.zero_le _, rfl, Lib.hid (Below.refl _ _)⟩
    case round =>
      obtain ⟨j, hj, rfl, HB⟩ := hrel
      by_cases hjm : j < m
      · obtain ⟨g, hg⟩ : ∃ g, l[j]? = some g := ⟨_, List.getElem?_eq_getElem (by rw [HM.out]; exact hjm)⟩
        obtain ⟨b, off, kt, nt, st, at_, mt, ct, ar, mr, cr, rfl, _, d0, d1, d2, d3, d4, d5, _, htm, hrows⟩ := (HV.out.stay (stays_of HB.out)).get hg
        obtain ⟨b', off', kt', nt', st', at', mt', ct', ar', mr', cr', rfl, _, f0, f1, f2, f3, f4, f5, _, htm', hrows'⟩ := (HV'.out.stay (stays_of HB.out)).get hg
        have hgl : mr = g.l.length := by obtain ⟨_, _, e, _⟩ := hrows.len; cases e; rfl
        have hgl' : mr' = mr := by obtain ⟨_, _, e, _⟩ := hrows'.len; cases e; exact hgl.symm
        subst hgl'
        have hmrb : mr' ≤ 9223372036854775807 := by obtain ⟨_, _, e, h5, h6, _⟩ := hrows.len; cases e; unfold maxLen at h6; omega
        have HR := Lib.hid (And.intro hrows hrows')
        have HG := Lib.hid (And.intro hg hgl)
        have HS := Lib.hid (fun wq (hq : Below wr.heap.size wr wq) => rsame_at _ g.t (Nat.le_refl _) g.t wq _ _ (TmV.ext hq _ _ htm) (TmV.ext hq _ _ htm'))
        obtain ⟨k, hk⟩ : ∃ k, g.kind = k := ⟨_, rfl⟩
        rw [hk] at d0 f0
        have hjm2 : (j : Int) < m := by omega
        clear hrows hrows' hg hgl htm htm' hk
        go_wp2_with fail
        (refine wp_region_class (fun w' => (w'.cell? ⟨b, off + j * 6, none⟩ = some (.int .i64 k) ∧ w'.cell? ⟨b, off + j * 6 + 1, none⟩ = some (.int .i64 kt) ∧ w'.cell? ⟨b, off + j * 6 + 2, none⟩ = some (.int .i64 nt) ∧ w'.cell? ⟨b, off + j * 6 + 3, none⟩ = some (.string st) ∧ w'.cell? ⟨b, off + j * 6 + 4, none⟩ = some (.slice at_ mt ct) ∧ w'.cell? ⟨b, off + j * 6 + 5, none⟩ = some (.slice ar mr' cr) ∧ w'.cell? ⟨b', off' + j * 6, none⟩ = some (.int .i64 k) ∧ w'.cell? ⟨b', off' + j * 6 + 1, none⟩ = some (.int .i64 kt') ∧ w'.cell? ⟨b', off' + j * 6 + 2, none⟩ = some (.int .i64 nt') ∧ w'.cell? ⟨b', off' + j * 6 + 3, none⟩ = some (.string st') ∧ w'.cell? ⟨b', off' + j * 6 + 4, none⟩ = some (.slice at' mt' ct') ∧ w'.cell? ⟨b', off' + j * 6 + 5, none⟩ = some (.slice ar' mr' cr')) ∧ Below wr.heap.size wr w') (by kernel_rfl) (by kernel_rfl) (⟨⟨d0, d1, d2, d3, d4, d5, f0, f1, f2, f3, f4, f5⟩, (Below.refl _ _).drew⟩) ?_; (repeat (first | go_big_quiet_skip | (go_big_quiet_want; refine quiet_of ?_; apply Exists.intro; refine ⟨fun wq hq => ?_, ?_⟩; (focus ((try dsimp only at hq); go_simp; (first | done | with_reducible rfl | ((go_at_call 22; refine (HS.out wq hq.2).mono ?_; rintro e w6 ⟨rfl, h6⟩; rw [same_self]; exact ⟨rfl, ⟨cell_later h6 hq.1.1, cell_later h6 hq.1.2.1, cell_later h6 hq.1.2.2.1, cell_later h6 hq.1.2.2.2.1, cell_later h6 hq.1.2.2.2.2.1, cell_later h6 hq.1.2.2.2.2.2.1, cell_later h6 hq.1.2.2.2.2.2.2.1, cell_later h6 hq.1.2.2.2.2.2.2.2.1, cell_later h6 hq.1.2.2.2.2.2.2.2.2.1, cell_later h6 hq.1.2.2.2.2.2.2.2.2.2.1, cell_later h6 hq.1.2.2.2.2.2.2.2.2.2.2.1, cell_later h6 hq.1.2.2.2.2.2.2.2.2.2.2.2⟩, Below.trans hq.2 (h6.mono hq.2.size)⟩)) | fail))); try simp only [Act.put, List.setIfInBounds_toArray, List.set_cons_zero, List.set_cons_succ]; go_big_quiet_on) | fail)); refine wpQuiet_nil ?_; intro wz hz)
        have HB2 := Lib.hid (Ext.trans' HB.out hz.2)
        have HR2 := Lib.hid (And.intro (HR.out.1.stay (stays_of hz.2)) (HR.out.2.stay (stays_of hz.2)))
        have HC2 := Lib.hid (show wz.cell? ⟨b, off + j * 6 + 5, none⟩ = some (.slice ar mr' cr) ∧ wz.cell? ⟨b', off' + j * 6 + 5, none⟩ = some (.slice ar' mr' cr') from ⟨hz.1.2.2.2.2.2.1, hz.1.2.2.2.2.2.2.2.2.2.2.2⟩)
        clear hz HR HS HB d0 d1 d2 d3 d4 d5 f0 f1 f2 f3 f4 f5
        go_wp2_with fail
        go_loopw [6] (fun i wx => ∃ q : Nat, q ≤ mr' ∧ i = .int .i64 q ∧ Hid (Below wz.heap.size wz wx)) (fun i _ => mr' - (intOf i).toNat)
        case atStart => exact ⟨0, Nat.zero_le _, rfl, Lib.hid (Below.refl _ _)⟩
        case round =>
          obtain ⟨q, hq, rfl, HX⟩ := hrel
          have d5 := cell_later HX.out HC2.out.1
          have f5 := cell_later HX.out HC2.out.2
          by_cases hqm : q < mr'
          · obtain ⟨r, hr⟩ : ∃ r, g.l[q]? = some r := ⟨_, List.getElem?_eq_getElem (by rw [← HG.out.2]; exact hqm)⟩
            obtain ⟨b2, off2, a2, c2, rfl, _, s0, hgv⟩ := (HR2.out.1.stay (stays_of HX.out)).get hr
            obtain ⟨b3, off3, a3, c3, rfl, _, s1, hgv'⟩ := (HR2.out.2.stay (stays_of HX.out)).get hr
            have hlt := cnt_row (List.mem_of_getElem? HG.out.1) (List.mem_of_getElem? hr)
            have C := Lib.hid (fun wq (hq : Below wr.heap.size wr wq) => IH.out r (by have := HH.out; omega) wq _ _ (hgv.stay (stays_of hq)) (hgv'.stay (stays_of hq)))
            obtain ⟨x, hx⟩ : ∃ x, r.length = x := ⟨_, rfl⟩
            rw [hx] at C s0 s1
            have hqm2 : (q : Int) < mr' := by omega
            clear hr hgv hgv' hlt hx
            go_wp2_with fail
            (refine wp_region_class (fun w' => (w'.cell? ⟨b, off + j * 6 + 5, none⟩ = some (.slice (some ⟨b2, off2, none⟩) mr' cr) ∧ w'.cell? ⟨b', off' + j * 6 + 5, none⟩ = some (.slice (some ⟨b3, off3, none⟩) mr' cr') ∧ w'.cell? ⟨b2, off2 + q, none⟩ = some (.slice a2 x c2) ∧ w'.cell? ⟨b3, off3 + q, none⟩ = some (.slice a3 x c3)) ∧ Below wr.heap.size wr w') (by kernel_rfl) (by kernel_rfl) (⟨⟨d5, f5, s0, s1⟩, (Below.refl _ _).drew⟩) ?_; (repeat (first | go_big_quiet_skip | (go_big_quiet_want; refine quiet_of ?_; apply Exists.intro; refine ⟨fun wq hq => ?_, ?_⟩; (focus ((try dsimp only at hq); go_simp; (first | done | with_reducible rfl | ((go_at_call 20; refine (C.out wq hq.2).mono ?_; rintro e w6 ⟨rfl, h6⟩; exact ⟨rfl, ⟨cell_later h6 hq.1.1, cell_later h6 hq.1.2.1, cell_later h6 hq.1.2.2.1, cell_later h6 hq.1.2.2.2⟩, Below.trans hq.2 (h6.mono hq.2.size)⟩)) | fail))); try simp only [Act.put, List.setIfInBounds_toArray, List.set_cons_zero, List.set_cons_succ]; go_big_quiet_on) | fail)); refine wpQuiet_nil ?_; intro wz hz)
            have HX2 := Lib.hid (Ext.trans' HX.out hz.2)
            clear hz
            go_wp2
            go_roundw
            case rel => exact ⟨q + 1, by omega, by go_num, HX2⟩
            case measure => simp [intOf]; omega
          · have hqe : q = mr' := by omega
            subst hqe
            have HB3 := Lib.hid (Ext.trans' HB2.out HX.out)
            go_wp2
            go_roundw
            case rel => exact ⟨j + 1, by omega, by go_num, HB3⟩
            case measure => simp [intOf]; omega
      · have hje : j = m := by omega
        subst hje
        go_wp2
        go_ret
        exact ⟨rfl, HB.out⟩
end Go.Proofs.YtaojalicnnnkmaaGreatDoor
/- Terms: how deep one is asked of. -/
namespace Go.Proofs.YtaojalicnnnkmaaGreatDoor
open Go.RowKit
set_option linter.unusedVariables false

mutual
def deepT : Tm → Int → Bool
  | .mk _ _ _ ts, left => if left < 1 ∨ 12 < ts.length then true else deepsT ts (left - 1)
def deepsT : List Tm → Int → Bool
  | [], _ => false
  | x :: r, left => deepT x left || deepsT r left
end
end Go.Proofs.YtaojalicnnnkmaaGreatDoor
/- Stage 11's laws: how deep a term is asked of. -/
namespace Go.Proofs.YtaojalicnnnkmaaGreatDoor
open Go.RowKit
set_option linter.unusedVariables false

set_option maxHeartbeats 2000000 in
theorem deep14_at : ∀ (N : Nat) (x : Tm), sizeN x ≤ N → ∀ (left : Int), I64 left → ∀ (w : World) (v : Value), TmV w x v →
    Calls Tryz.prog 16 #[v, .int .i64 left] w fun e w' => e = .returned (.bool (deepT x left)) ∧ Below w.heap.size w w'
  | 0, x, h, left, hl, w, v, hv => by have := size_pos x; omega
  | N + 1, .mk k n s ts, h, left, hl, w, v, hv => by
    obtain ⟨u, rfl, hs, hk, hn, hu⟩ := tmV_iff.1 hv
    obtain ⟨a, c, rfl, h1, h2, h3⟩ := hu.len
    unfold BIG at h3
    unfold I64 at hl
    have hD : deepT (.mk k n s ts) left = if left < 1 ∨ 12 < ts.length then true else deepsT ts (left - 1) := by rw [deepT]
    by_cases hlt : left < 1
    · rw [hD, if_pos (Or.inl hlt)]
      clear hD
      go_enter Tryz.func16, Tryz.ntmps16
      go_wp2
      go_ret
      exact ⟨rfl, bel1' _ _⟩
    obtain ⟨m, hm⟩ : ∃ m, ts.length = m := ⟨_, rfl⟩
    by_cases h12 : 12 < m
    · rw [hD, if_pos (Or.inr (by rw [hm]; exact h12))]
      rw [hm] at h1 h3 ⊢
      clear hD hv hu hm
      go_enter Tryz.func16, Tryz.ntmps16
      go_wp2
      go_ret
      exact ⟨rfl, bel1' _ _⟩
    rw [hD, if_neg (by rw [hm]; omega)]
    have hI : I64 (left - 1) := by unfold I64; omega
    have IH := Lib.hid (fun (y : Tm) (hy : y ∈ ts) => deep14_at N y (mem_size h hy) (left - 1) hI)
    have HU := Lib.hid hu
    have HM := Lib.hid hm
    rw [hm] at h1 h3 hu HU ⊢
    obtain ⟨r, hr⟩ : ∃ r, deepsT ts (left - 1) = r := ⟨_, rfl⟩
    rw [hr]
    have HR := Lib.hid hr
    clear hD hv hu hm hr h
    go_enter Tryz.func16, Tryz.ntmps16
    go_wp2_with fail
    go_loopw [5] (fun v wr => ∃ i : Nat, i ≤ m ∧ v = .int .i64 i ∧ Hid (deepsT (ts.drop i) (left - 1) = r) ∧ Hid (Below (w.alloc (.cells #[.int .i64 k, .int .i64 n, .string s, .slice a m c] 31)).heap.size (w.alloc (.cells #[.int .i64 k, .int .i64 n, .string s, .slice a m c] 31)) wr)) (fun v _ => m - (intOf v).toNat)
    case atStart => exact ⟨0, Nat.zero_le _, rfl, Lib.hid (by rw [List.drop_zero]; exact HR.out), Lib.hid (Below.refl _ _)⟩
    case round =>
      obtain ⟨i, hi, rfl, HD, HB⟩ := hrel
      obtain ⟨e0, e1, e2, e3⟩ := box_cells w 31 _ _ _ _ HB.out
      by_cases hil : i < m
      · obtain ⟨y, hy⟩ : ∃ y, ts[i]? = some y := ⟨_, List.getElem?_eq_getElem (by rw [HM.out]; exact hil)⟩
        have hdr : ts.drop i = y :: ts.drop (i + 1) := by
          obtain ⟨hlt', rfl⟩ := List.getElem?_eq_some_iff.1 hy
          exact List.drop_eq_getElem_cons hlt'
        have hd := HD.out
        rw [hdr, deepsT] at hd
        have HBW := Lib.hid (Ext.trans' (bel1' w _) HB.out)
        obtain ⟨b, off, k', n', s', u', rfl, hbb, _, _, _, c0, c1, c2, c3, _, ht⟩ := (HU.out.ext HBW.out).get hy
        have ih := IH.out y (List.mem_of_getElem? hy) wr _ ht
        clear hdr HD ht
        cases hq : deepT y (left - 1)
        · rw [hq, Bool.false_or] at hd
          rw [hq] at ih
          have HD := Lib.hid hd
          clear hq hd hy
          (go_wp2_with fail; go_fit (ih); rintro e w2 ⟨rfl, b2⟩)
          have B2 := Lib.hid (Ext.trans' HB.out b2)
          clear b2
          go_wp2
          go_roundw
          case rel => exact ⟨i + 1, by omega, by go_num, HD, B2⟩
          case measure => simp [intOf]; omega
        · rw [hq, Bool.true_or] at hd
          rw [hq] at ih
          subst hd
          clear hq hy HR
          (go_wp2_with fail; go_fit (ih); rintro e w2 ⟨rfl, b2⟩)
          have B2 := Lib.hid (Ext.trans' HBW.out b2)
          clear b2
          go_wp2
          go_ret
          exact ⟨rfl, B2.out⟩
      · have hd := HD.out
        rw [List.drop_eq_nil_of_le (by rw [HM.out]; omega), deepsT] at hd
        subst hd
        clear HR HD
        go_wp2
        go_ret
        exact ⟨rfl, Ext.trans' (bel1' w _) HB.out⟩
end Go.Proofs.YtaojalicnnnkmaaGreatDoor
/- BodySays, walked, over awake's contract. -/
namespace Go.Proofs.YtaojalicnnnkmaaGreatDoor
open Go.RowKit
set_option linter.unusedVariables false

theorem old_noM (w : World) : Old noM w := fun _ _ => rfl
theorem ofE_cnt (t : Tm) : cntL (ofE t).1 ≤ 4000 := by
  cases hg : goodT t
  · have : ofE t = ([], 1) := by unfold ofE; rw [hg]; rfl
    rw [this]; simp [cntL]
  · rw [(ofE_erO hg).2]
    cases ho : ofB t with
    | none => simp [cntL]
    | some l => have h1 := of_cnt _ t (Nat.le_refl _) l ho; have h2 := (good_parts hg).1; show cntL l ≤ 4000; omega
end Go.Proofs.YtaojalicnnnkmaaGreatDoor
/- BodyJoins, walked, over awake's contract. -/
namespace Go.Proofs.YtaojalicnnnkmaaGreatDoor
open Go.RowKit
set_option linter.unusedVariables false

theorem cnt_le {t : Tm} {l : List Gl} {e : Int} (h : ofE t = (l, e)) : cntL l ≤ 4000 := by have := ofE_cnt t; rw [h] at this; exact this
set_option maxHeartbeats 16000000 in
set_option maxRecDepth 100000 in
theorem joins14_core {W : World} (PW : ∀ w, Below W.heap.size W w → Calls Tryz.prog 7 #[] w fun e w' => e = .returned (.bool true) ∧ Below w.heap.size w w')
    {v v' : Value} {x y : Tm} (hx : TmV W x v) (hy : TmV W y v') : Calls Tryz.prog 6 #[v, v'] W fun e w' => IsBool W true e w' := by
  obtain ⟨k, n, s, a, m, c, rfl, -, -, -, -⟩ := four_of hx
  obtain ⟨k', n', s', a', m', c', rfl, -, -, -, -⟩ := four_of hy
  obtain ⟨w1, e1, B1, z1, X1⟩ := box_new W #[.int .i64 k, .int .i64 n, .string s, .slice a m c] 31
  obtain ⟨w2, e2, B2, z2, X2⟩ := box_new w1 #[.int .i64 k', .int .i64 n', .string s', .slice a' m' c'] 31
  have HE := Lib.hid (And.intro e1 e2)
  have HW2 := Lib.hid (Ext.trans' B1 B2)
  rw [z1] at X2
  have HX := Lib.hid (And.intro (X1.ext B2) X2)
  have i30 : I64 30 := by unfold I64; omega
  have HC := Lib.hid (fun (wx : World) (hb : Below w2.heap.size w2 wx) => (show (wx.cell? ⟨W.heap.size, 0, none⟩ = some (.int .i64 k) ∧ wx.cell? ⟨W.heap.size, 1, none⟩ = some (.int .i64 n) ∧ wx.cell? ⟨W.heap.size, 2, none⟩ = some (.string s) ∧ wx.cell? ⟨W.heap.size, 3, none⟩ = some (.slice a m c)) ∧ (wx.cell? ⟨W.heap.size + 1, 0, none⟩ = some (.int .i64 k') ∧ wx.cell? ⟨W.heap.size + 1, 1, none⟩ = some (.int .i64 n') ∧ wx.cell? ⟨W.heap.size + 1, 2, none⟩ = some (.string s') ∧ wx.cell? ⟨W.heap.size + 1, 3, none⟩ = some (.slice a' m' c')) from by
    obtain ⟨y0, y1, y2, y3, _⟩ := (HX.out.1.ext hb).four
    obtain ⟨q0, q1, q2, q3, _⟩ := (HX.out.2.ext hb).four
    exact ⟨⟨y0, y1, y2, y3⟩, q0, q1, q2, q3⟩))
  have DX := Lib.hid (fun (w : World) (hb : Below W.heap.size W w) => deep14_at _ x (Nat.le_refl _) 30 i30 w _ (TmV.ext hb _ _ hx))
  have DY := Lib.hid (fun (w : World) (hb : Below W.heap.size W w) => deep14_at _ y (Nat.le_refl _) 30 i30 w _ (TmV.ext hb _ _ hy))
  have OX := Lib.hid (fun (w : World) (hb : Below W.heap.size W w) => bOf_at x w _ (TmV.ext hb _ _ hx))
  have OY := Lib.hid (fun (w : World) (hb : Below W.heap.size W w) => bOf_at y w _ (TmV.ext hb _ _ hy))
  obtain ⟨lx, ex, hlx⟩ : ∃ l e, ofE x = (l, e) := ⟨_, _, rfl⟩
  obtain ⟨ly, ey, hly⟩ : ∃ l e, ofE y = (l, e) := ⟨_, _, rfl⟩
  have HL := Lib.hid (And.intro hlx hly)
  unfold OfKE at OX OY
  rw [hlx] at OX
  rw [hly] at OY
  have HCOMP := Lib.hid (fun (wq : World) (hb : Below W.heap.size W wq) => (show Calls Tryz.prog 26 #[.string commaS, .slice (some ⟨wq.heap.size, 0, none⟩) 2 2] (wq.alloc (.cells #[.int .i64 k, .int .i64 n, .string s, .slice a m c, .int .i64 k', .int .i64 n', .string s', .slice a' m' c'] 31)) fun e w' => ∃ a9 c9, e = .returned (.agg #[.int .i64 2, .int .i64 0, .string commaS, .slice a9 2 c9]) ∧ TmV w' (nameT commaS [x, y]) (.agg #[.int .i64 2, .int .i64 0, .string commaS, .slice a9 2 c9]) ∧ Below wq.heap.size wq w' from by
    have px := tm_parts hx
    have py := tm_parts hy
    have htm := tms_new (D := noM) (w := wq) (fun _ _ => rfl) [(x, .slice a m c), (y, .slice a' m' c')] (fun p hp' => by
      simp only [List.mem_cons, List.not_mem_nil, or_false] at hp'
      rcases hp' with rfl | rfl
      · rw [px.2, hide_none]; exact TmV.ext hb _ _ hx
      · rw [py.2, hide_none]; exact TmV.ext hb _ _ hy) (by simp) 31 #[.int .i64 k, .int .i64 n, .string s, .slice a m c, .int .i64 k', .int .i64 n', .string s', .slice a' m' c'] (by simp only [List.flatMap_cons, List.flatMap_nil, List.append_nil, px.1, py.1]; rfl)
    have hh : Tms (hide noM (wq.alloc (.cells #[.int .i64 k, .int .i64 n, .string s, .slice a m c, .int .i64 k', .int .i64 n', .string s', .slice a' m' c'] 31))) (.slice (some ⟨wq.heap.size, 0, none⟩) 2 2) [x, y] := htm
    refine (comp_hide commaS (by unfold BIG; decide) (fun _ _ => rfl) hh).mono ?_
    rintro e w' ⟨a9, c9, he, h2, h3⟩
    exact ⟨a9, c9, he, h2.bare, Ext.trans' (bel1' wq _) h3⟩))
  have HJ := Lib.hid (fun (h : goodT (nameT commaS [x, y]) = true) => (ofE_join h).2.2)
  rw [hlx, hly] at HJ
  have C := PW w2 HW2.out
  clear hx hy e1 e2 B1 B2 z1 z2 X1 X2 i30 PW hlx hly
  go_enter Tryz.func6, Tryz.ntmps6
  go_upto_region 1 with fail
  (try rw [HE.out.1, HE.out.2])
  (go_wp2_with fail; go_fit (C); rintro e w3 ⟨rfl, b3⟩)
  have B3 := Lib.hid b3
  obtain ⟨⟨c0, c1, c2, c3⟩, -⟩ := HC.out _ b3
  clear b3 C
  have C := DX.out w3 (Ext.trans' HW2.out B3.out)
  cases hdx : deepT x 30
  rotate_left
  · rw [hdx] at C
    clear hdx
    (go_wp2_with fail; go_fit (C); rintro e w4 ⟨rfl, b4⟩)
    have H4 := Lib.hid (Ext.trans' HW2.out (Ext.trans' B3.out b4))
    clear b4 C
    go_wp2
    go_ret
    exact ⟨rfl, H4.out⟩
  rw [hdx] at C
  clear hdx
  (go_wp2_with fail; go_fit (C); rintro e w4 ⟨rfl, b4⟩)
  have B4 := Lib.hid (Ext.trans' B3.out b4)
  clear b4 C c0 c1 c2 c3
  obtain ⟨-, c0, c1, c2, c3⟩ := HC.out _ B4.out
  have C := DY.out w4 (Ext.trans' HW2.out B4.out)
  cases hdy : deepT y 30
  rotate_left
  · rw [hdy] at C
    clear hdy
    (go_wp2_with fail; go_fit (C); rintro e w5 ⟨rfl, b5⟩)
    have H5 := Lib.hid (Ext.trans' HW2.out (Ext.trans' B4.out b5))
    clear b5 C
    go_wp2
    go_ret
    exact ⟨rfl, H5.out⟩
  rw [hdy] at C
  clear hdy
  (go_wp2_with fail; go_fit (C); rintro e w5 ⟨rfl, b5⟩)
  have B5 := Lib.hid (Ext.trans' B4.out b5)
  clear b5 C c0 c1 c2 c3
  obtain ⟨⟨c0, c1, c2, c3⟩, -⟩ := HC.out _ B5.out
  have C := OX.out w5 (Ext.trans' HW2.out B5.out)
  (go_wp2_with fail; go_fit (C); rintro e w6 ⟨gx, rfl, hgx, b6⟩)
  have B6 := Lib.hid (Ext.trans' B5.out b6)
  have HGX := Lib.hid (show GoalsK w6 lx gx from hgx)
  clear C hgx b6 c0 c1 c2 c3
  obtain ⟨-, c0, c1, c2, c3⟩ := HC.out _ B6.out
  have C := OY.out w6 (Ext.trans' HW2.out B6.out)
  (go_wp2_with fail; go_fit (C); rintro e w7 ⟨gy, rfl, hgy, b7⟩)
  have B7 := Lib.hid (Ext.trans' B6.out b7)
  have HG7 := Lib.hid (And.intro (GoalsK.keep HGX.out (keeps_bare b7)) (show GoalsK w7 ly gy from hgy))
  clear C hgy b7 c0 c1 c2 c3 HGX
  obtain ⟨⟨c0, c1, c2, c3⟩, d0, d1, d2, d3⟩ := HC.out _ B7.out
  have C := HCOMP.out w7 (Ext.trans' HW2.out B7.out)
  (go_wp2_with fail; go_fit (C); rintro e w8 ⟨a9, c9, rfl, ht8, b8⟩)
  obtain ⟨w9, e9, b9, z9, x9⟩ := box_new w8 #[.int .i64 2, .int .i64 0, .string commaS, .slice a9 2 c9] 31
  have HE9 := Lib.hid e9
  have hb9 := Ext.trans' b8 b9
  have B9 := Lib.hid (Ext.trans' B7.out hb9)
  have HT9 := Lib.hid (TmV.ext b9 _ _ ht8)
  have HG9 := Lib.hid (And.intro (GoalsK.keep HG7.out.1 (keeps_bare hb9)) (GoalsK.keep HG7.out.2 (keeps_bare hb9)))
  have HX9 := Lib.hid x9
  obtain ⟨t0, t1, t2, t3, _⟩ := x9.four
  clear C ht8 b8 e9 b9 z9 x9 hb9 c0 c1 c2 c3 d0 d1 d2 d3 HG7
  go_upto_region 8 with fail
  (try rw [HE9.out])
  have C := Good_at (nameT commaS [x, y]) w9 _ HT9.out
  cases hg : goodT (nameT commaS [x, y])
  · rw [hg] at C
    clear hg
    (go_wp2_with fail; go_fit (C); rintro e w10 ⟨rfl, b10⟩)
    have H10 := Lib.hid (Ext.trans' HW2.out (Ext.trans' B9.out b10))
    clear b10 C
    go_wp2
    go_ret
    exact ⟨rfl, H10.out⟩
  rw [hg] at C
  have HJJ := Lib.hid (HJ.out hg)
  clear hg HJ
  (go_wp2_with fail; go_fit (C); rintro e w10 ⟨rfl, b10⟩)
  have B10 := Lib.hid (Ext.trans' B9.out b10)
  have HG10 := Lib.hid (And.intro (GoalsK.keep HG9.out.1 (keeps_bare b10)) (GoalsK.keep HG9.out.2 (keeps_bare b10)))
  have C := bOf_at (nameT commaS [x, y]) w10 _ (TmV.ext b10 _ _ HT9.out)
  have hx10 := (HX9.out.ext b10).four
  clear b10 HG9 t0 t1 t2 t3
  obtain ⟨t0, t1, t2, t3, _⟩ := hx10
  unfold OfKE at C
  rcases HJJ.out with ⟨l, q, h1, h2, h3⟩ | ⟨h1, h3⟩ | ⟨⟨l, h1⟩, h2, h3⟩
  · obtain ⟨rfl, rfl⟩ : lx = l ∧ ex = 0 := by injection h1 with h1 h2; exact ⟨h1, h2⟩
    obtain ⟨rfl, rfl⟩ : ly = q ∧ ey = 0 := by injection h2 with h1 h2; exact ⟨h1, h2⟩
    rw [h3] at C
    clear h1 h2 h3
    (go_wp2_with fail; go_fit (C); rintro e w11 ⟨gz, rfl, hgz, b11⟩)
    have B11 := Lib.hid (Ext.trans' B10.out b11)
    have HG11 := Lib.hid (And.intro (GoalsK.keep HG10.out.1 (keeps_bare b11)) (And.intro (GoalsK.keep HG10.out.2 (keeps_bare b11)) (show GoalsK w11 (lx ++ ly) gz from hgz)))
    clear C hgz b11 t0 t1 t2 t3 HG10
    have HSZ := Lib.hid (And.intro (cnt_le HL.out.1) (cnt_le HL.out.2))
    have C := goals_at (lx ++ ly) noM w11 gz (old_noM _) HG11.out.2.2.1
    (go_wp2_with fail; go_fit (C); rintro e w12 ⟨uz, rfl, huz, b12⟩)
    have B12 := Lib.hid (Ext.trans' B11.out b12)
    have HU12 := Lib.hid (show GoalsV w12 (lx ++ ly) uz from GoalsV.stay huz (Stays.unhide _ _))
    have HG12 := Lib.hid (And.intro (GoalsK.keep HG11.out.1 (keeps_bare b12)) (And.intro (GoalsK.keep HG11.out.2.1 (keeps_bare b12)) (GoalsK.keep HG11.out.2.2 (keeps_bare b12))))
    clear C huz b12 HG11
    have C := goals_own lx noM w12 gx (old_noM _) HG12.out.1.1
    unfold GoOwn at C
    (go_wp2_with fail; go_fit (C); rintro e w13 ⟨a6, n6, c6, D1, ps, rfl, q1, q2, q3, q4, q5⟩)
    have HQ := Lib.hid (And.intro q1 (And.intro q2 (And.intro q3 (And.intro q4 q5))))
    have B13 := Lib.hid (q4.bel (n := w12.heap.size) (Nat.le_refl _) (fun _ _ => rfl))
    clear C q1 q2 q3 q4 q5
    have C := goals_at ly D1 w13 gy HQ.out.2.2.2.2.2 (HG12.out.2.1.1.stay (stays_bl B13.out))
    (go_wp2_with fail; go_fit (C); rintro e w14 ⟨uy, rfl, huy, b14⟩)
    obtain ⟨qs, a4, c4, rfl, r1, r2, r3, r4, r5, r6, r7⟩ := GoalsV.pairs huy
    have B14 := Lib.hid b14
    have hR := HQ.out.2.2.1.turn (M := noM) @glOk_stay (Turn.below (D := D1) (M := noM) b14) HQ.out.2.2.2.2.1
    have HROW := Lib.hid (show w14.ownsRow w12.heap.size 80 6 (.slice a6 n6 c6) n6 (ps.flatMap glCells) by have h := hR.1; rw [HQ.out.1] at h; exact h)
    have hlx : n6 ≤ 4000 := by have h1 := HSZ.out.1; have h2 := cnt_len lx; have h3 := HQ.out.1; have h4 := congrArg List.length HQ.out.2.1; rw [List.length_map] at h4; omega
    have hly : ly.length ≤ 4000 := by have h1 := HSZ.out.2; have h2 := cnt_len ly; omega
    have HSRC := Lib.hid (show (qs.flatMap glCells).length = ly.length * 6 ∧ (ly.length = 0 ∨ ∃ ad, a4 = some ad ∧ ∀ j u, (qs.flatMap glCells)[j]? = some u → w14.cell? (ad.add j) = some u) from
      ⟨by rw [flat_len glCells_len, r1], r7.imp id fun ⟨ad, e, h⟩ => ⟨ad, e, fun j u hj => (Stays.unhide D1 w14).2 _ _ (h j u hj)⟩⟩)
    have HONE := Lib.hid (glCells_one qs r3)
    have HLE := Lib.hid (show w12.heap.size ≤ w14.heap.size from Nat.le_trans B13.out.size b14.size)
    have HAPP := Lib.hid (fun (a8 : Option Addr) (c8 : Nat) (w15 : World) (hown : w15.ownsRow w12.heap.size 80 6 (.slice a8 (n6 + ly.length) c8) (n6 + ly.length) (ps.flatMap glCells ++ qs.flatMap glCells)) (hg : w14.grownBy w15 (Value.slice a6 n6 c6).ownBlock) (hat : (Value.slice a8 (n6 + ly.length) c8).ownBlock = (Value.slice a6 n6 c6).ownBlock ∨ (Value.slice a8 (n6 + ly.length) c8).ownBlock = some w14.heap.size) =>
      app_goals (old_noM _) HQ.out.1 HQ.out.2.1 HQ.out.2.2.1 HQ.out.2.2.2.1 HQ.out.2.2.2.2 b14 r2 r3 hg hat (by rw [r1]) hown (by omega))
    obtain ⟨i0, hi0, hz0, hs0, hb0⟩ := info_parts infoGoalR
    obtain ⟨M, hM⟩ : ∃ M, ly.length = M := ⟨_, rfl⟩
    rw [hM] at HSRC HAPP hly ⊢
    clear C huy b14 hR r1 r2 r3 r4 r5 r6 r7 hM
    go_wp2_with (at_builtin; refine wpList_append_kw (by rfl) _ _ 48 rfl w12.heap.size 80 i0 (.agg #[.int .i64 0, .int .i64 0, .int .i64 0, .string ⟨#[]⟩, .slice none 0 0, .slice none 0 0]) 6 88 Tryz.underlying48 hi0 hz0 hs0 (by decide) hb0 rfl (.slice a6 n6 c6) n6 (ps.flatMap glCells) rfl HROW.out a4 M c4 (qs.flatMap glCells) rfl HSRC.out.1 HSRC.out.2 HONE.out (by unfold maxLen; omega) (by omega) HLE.out (n6 + M) _ rfl rfl ?_; intro a8 c8 w15 hown hgrow hat; have HN15 := Lib.hid (HAPP.out a8 c8 w15 hown hgrow hat); clear hown hgrow hat)
    have HG15 := Lib.hid (And.intro (GoalsK.keep HG12.out.1 (keeps_bare HN15.out.2)) (And.intro (GoalsK.keep HG12.out.2.1 (keeps_bare HN15.out.2)) (GoalsK.keep HG12.out.2.2 (keeps_bare HN15.out.2))))
    have B15 := Lib.hid (Ext.trans' B12.out HN15.out.2)
    have C := rSameG_at _ (lx ++ ly) (Nat.le_refl _) w15 uz _ (HU12.out.stay (stays_bl HN15.out.2)) HN15.out.1
    (go_wp2_with fail; go_fit (C); rintro e w16 ⟨rfl, b16⟩)
    have B16 := Lib.hid (Ext.trans' B15.out b16)
    have HG16 := Lib.hid (And.intro (GoalsK.keep HG15.out.1 (keeps_bare b16)) (And.intro (GoalsK.keep HG15.out.2.1 (keeps_bare b16)) (GoalsK.keep HG15.out.2.2 (keeps_bare b16))))
    clear C b16
    have CX := Lib.hid (fun (wq : World) (hq : Below w16.heap.size w16 wq) => Count_at lx (by have := HSZ.out.1; omega) wq gx (HG16.out.1.keep (keeps_bare hq)))
    have CY := Lib.hid (fun (wq : World) (hq : Below w16.heap.size w16 wq) => Count_at ly (by have := HSZ.out.2; omega) wq gy (HG16.out.2.1.keep (keeps_bare hq)))
    have CZ := Lib.hid (fun (wq : World) (hq : Below w16.heap.size w16 wq) => Count_at (lx ++ ly) (by have := HSZ.out.1; have := HSZ.out.2; rw [cnt_app]; omega) wq gz (HG16.out.2.2.keep (keeps_bare hq)))
    have UX := Lib.hid (fun (wq : World) (hq : Below w16.heap.size w16 wq) => Cuts_at lx wq gx (HG16.out.1.keep (keeps_bare hq)))
    have UY := Lib.hid (fun (wq : World) (hq : Below w16.heap.size w16 wq) => Cuts_at ly wq gy (HG16.out.2.1.keep (keeps_bare hq)))
    have UZ := Lib.hid (fun (wq : World) (hq : Below w16.heap.size w16 wq) => Cuts_at (lx ++ ly) wq gz (HG16.out.2.2.keep (keeps_bare hq)))
    obtain ⟨A, hA⟩ : ∃ A, cntL lx = A := ⟨_, rfl⟩
    obtain ⟨B, hB⟩ : ∃ B, cntL ly = B := ⟨_, rfl⟩
    obtain ⟨Z, hZ⟩ : ∃ Z, cntL (lx ++ ly) = Z := ⟨_, rfl⟩
    have hAB : (A : Int) + (B : Int) = (Z : Int) := by rw [cnt_app] at hZ; omega
    have hZ4 : Z ≤ 8000 := by rw [cnt_app] at hZ; have := HSZ.out.1; have := HSZ.out.2; omega
    have hwz : IntKind.i64.wrap (Z : Int) = (Z : Int) := by rw [IntKind.wrap_i64]; omega
    rw [hA] at CX
    rw [hB] at CY
    rw [hZ] at CZ
    rw [cut_app] at UZ
    clear hA hB hZ
    (go_wp2_with fail; go_fit (CZ.out _ (Below.refl _ _)); rintro e w17 ⟨rfl, b17⟩)
    have B17 := Lib.hid b17
    clear b17
    (go_wp2_with fail; go_fit (CX.out _ B17.out); rintro e w18 ⟨rfl, b18⟩)
    have B18 := Lib.hid (Ext.trans' B17.out b18)
    clear b18
    (go_wp2_with fail; go_fit (CY.out _ B18.out); rintro e w19 ⟨rfl, b19⟩)
    have B19 := Lib.hid (Ext.trans' B18.out b19)
    clear b19
    obtain ⟨p, hp⟩ : ∃ p, cutL lx = p := ⟨_, rfl⟩
    obtain ⟨r, hr⟩ : ∃ r, cutL ly = r := ⟨_, rfl⟩
    rw [hp] at UX UZ
    rw [hr] at UY UZ
    clear hp hr
    have C := UZ.out _ B19.out
    cases p
    · rw [Bool.false_or] at C
      (go_wp2_with fail; go_fit (C); rintro e w20 ⟨rfl, b20⟩)
      have B20 := Lib.hid (Ext.trans' B19.out b20)
      clear b20 C
      (go_wp2_with fail; go_fit (UX.out _ B20.out); rintro e w21 ⟨rfl, b21⟩)
      have B21 := Lib.hid (Ext.trans' B20.out b21)
      clear b21
      (go_wp2_with fail; go_fit (UY.out _ B21.out); rintro e w22 ⟨rfl, b22⟩)
      have H22 := Lib.hid (Ext.trans' HW2.out (Ext.trans' B16.out (Ext.trans' B21.out b22)))
      clear b22
      go_wp2
      go_ret
      exact ⟨by simp, H22.out⟩
    · rw [Bool.true_or] at C
      (go_wp2_with fail; go_fit (C); rintro e w20 ⟨rfl, b20⟩)
      have B20 := Lib.hid (Ext.trans' B19.out b20)
      clear b20 C
      (go_wp2_with fail; go_fit (UX.out _ B20.out); rintro e w21 ⟨rfl, b21⟩)
      have H21 := Lib.hid (Ext.trans' HW2.out (Ext.trans' B16.out (Ext.trans' B20.out b21)))
      clear b21
      go_wp2
      go_ret
      exact ⟨rfl, H21.out⟩
  · obtain ⟨rfl, rfl⟩ : lx = [] ∧ ex = 5 := by injection h1 with h1 h2; exact ⟨h1, h2⟩
    rw [h3] at C
    clear h1 h3
    (go_wp2_with fail; go_fit (C); rintro e w11 ⟨gz, rfl, _, b11⟩)
    have H11 := Lib.hid (Ext.trans' HW2.out (Ext.trans' B10.out b11))
    clear b11 C
    go_wp2
    go_ret
    exact ⟨rfl, H11.out⟩
  · obtain ⟨rfl, rfl⟩ : lx = l ∧ ex = 0 := by injection h1 with h1 h2; exact ⟨h1, h2⟩
    obtain ⟨rfl, rfl⟩ : ly = [] ∧ ey = 5 := by injection h2 with h1 h2; exact ⟨h1, h2⟩
    rw [h3] at C
    clear h1 h2 h3
    (go_wp2_with fail; go_fit (C); rintro e w11 ⟨gz, rfl, _, b11⟩)
    have H11 := Lib.hid (Ext.trans' HW2.out (Ext.trans' B10.out b11))
    clear b11 C
    go_wp2
    go_ret
    exact ⟨rfl, H11.out⟩
end Go.Proofs.YtaojalicnnnkmaaGreatDoor
/- The project's reader: bracketed. -/
namespace Go.Proofs.YtaojalicnnnkmaaGreatDoor
open Go.Shelf Go.RowKit
set_option linter.unusedVariables false

theorem tms_one {D : Nat → Bool} {w : World} {t : Tm} {v0 v1 v2 v3 : Value} (ho : Old D w) (h : TmV (hide D w) t (.agg #[v0, v1, v2, v3])) (ty : TypeId) : Tms (hide D (w.alloc (.cells #[v0, v1, v2, v3] ty))) (.slice (some ⟨w.heap.size, 0, none⟩) 1 1) [t] := by
  have hd : D w.heap.size = false := ho _ (Nat.le_refl _)
  obtain ⟨w1, hw1, hb1, _, hx1⟩ := box_new w #[v0, v1, v2, v3] ty
  rw [hw1]
  obtain ⟨r0, r1, r2, r3, rf⟩ := hx1.four
  refine ⟨_, 1, rfl, Nat.le_refl _, by unfold maxLen; omega, by unfold BIG; simp, Or.inr ⟨w.heap.size, 0, rfl, by rw [hide_size]; exact hx1.lt, ?_⟩⟩
  rw [TmRow]
  refine ⟨⟨v0, v1, v2, v3, ?_, ?_, ?_, ?_, TmV.later hb1 h⟩, by rw [TmRow]; trivial⟩
  · rw [hide_cell _ _ _ hd]; exact r0
  · rw [hide_cell _ _ _ hd]; exact r1
  · rw [hide_cell _ _ _ hd]; exact r2
  · rw [hide_cell _ _ _ hd]; exact r3
theorem tms_two {D : Nat → Bool} {w : World} {t u : Tm} {v0 v1 v2 v3 u0 u1 u2 u3 : Value} (ho : Old D w) (h : TmV (hide D w) t (.agg #[v0, v1, v2, v3])) (g : TmV (hide D w) u (.agg #[u0, u1, u2, u3])) (ty : TypeId) :
    Tms (hide D (w.alloc (.cells #[v0, v1, v2, v3, u0, u1, u2, u3] ty))) (.slice (some ⟨w.heap.size, 0, none⟩) 2 2) [t, u] := by
  have hd : D w.heap.size = false := ho _ (Nat.le_refl _)
  obtain ⟨w1, hw1, hb1, _, hx1⟩ := box_new w #[v0, v1, v2, v3, u0, u1, u2, u3] ty
  rw [hw1]
  refine ⟨_, 2, rfl, Nat.le_refl _, by unfold maxLen; omega, by unfold BIG; simp, Or.inr ⟨w.heap.size, 0, rfl, by rw [hide_size]; exact hx1.lt, ?_⟩⟩
  rw [TmRow, TmRow]
  refine ⟨⟨v0, v1, v2, v3, ?_, ?_, ?_, ?_, TmV.later hb1 h⟩, ⟨u0, u1, u2, u3, ?_, ?_, ?_, ?_, TmV.later hb1 g⟩, by rw [TmRow]; trivial⟩
  · rw [hide_cell _ _ _ hd]; exact hx1.cells 0 _ rfl
  · rw [hide_cell _ _ _ hd]; exact hx1.cells 1 _ rfl
  · rw [hide_cell _ _ _ hd]; exact hx1.cells 2 _ rfl
  · rw [hide_cell _ _ _ hd]; exact hx1.cells 3 _ rfl
  · rw [hide_cell _ _ _ hd]; exact hx1.cells 4 _ rfl
  · rw [hide_cell _ _ _ hd]; exact hx1.cells 5 _ rfl
  · rw [hide_cell _ _ _ hd]; exact hx1.cells 6 _ rfl
  · rw [hide_cell _ _ _ hd]; exact hx1.cells 7 _ rfl
theorem closed_none {T : TFun} {t : List UInt8} {s : RS} (h : T 1200 s = none) : closedR T t s = none := by unfold closedR; rw [h]
theorem closed_open {T : TFun} {t : List UInt8} {s s1 : RS} {p : TL} (h : T 1200 s = some (p, s1)) (hm : isMark t (headR s1) = false) : closedR T t s = none := by unfold closedR; rw [h]; simp only [(takesR_no hm).1]
theorem closed_done {T : TFun} {t : List UInt8} {s s1 : RS} {p : TL} (h : T 1200 s = some (p, s1)) (hm : isMark t (headR s1) = true) : closedR T t s = some (p.1, takesS t s1) := by unfold closedR; rw [h]; simp only [takesR_yes hm]
set_option maxHeartbeats 4000000 in
theorem paren_at {xs : List O} {n : Nat} (ih : IHT xs n) {D M : Nat → Bool} {w : World} {rb : Nat} {s : RS} (h : St D M w rb xs s) (hlt : s.rest.length < n) :
    Calls Tryz.prog 99 #[.pointer (some ⟨rb, 0, none⟩), .string ⟨#[40]⟩] w (BPost D M w rb xs (closedR (TERMX xs) [41] s)) := by
  obtain ⟨X, hX⟩ : ∃ X, closedR (TERMX xs) [41] s = X := ⟨_, rfl⟩
  rw [hX]
  have HXX := Lib.hid hX
  obtain ⟨w1, hw1, hb1, hz1, hx1⟩ := box_new w #[.int .i64 0, .int .i64 0, .string ⟨#[]⟩, .slice none 0 0] 31
  have h1 := h.box hb1 (Nat.le_refl _) hx1.lt
  have HMd := Lib.hid h.md
  have HMB := Lib.hid (Old.out h (Nat.le_refl _))
  have HT1 := Lib.hid (Turn.into (D := D) (M := M) hb1 (Nat.le_refl _))
  have HI := Lib.hid (ih _ _ _ rb _ 1200 h1 hlt)
  have HX1 := Lib.hid hx1
  clear h hX hlt ih h1 hx1 hb1 hz1
  go_enter Tryz.func99, Tryz.ntmps99
  go_wp2_with fail
  (try rw [hw1])
  clear hw1
  (go_wp2_with fail; go_fit (HI.out); rintro e w2 ⟨D2, M2, t2, v2, lv2, ok, rfl, htv, ht2, ho2, hok2, hsm2⟩)
  obtain ⟨k2, n2, s2, a2, m2, c2, rfl⟩ := htv.full
  have HDB := Lib.hid ((ht2.dd _ HX1.out.lt).trans (plusB_self D _))
  have HMB2 := Lib.hid ((ht2.mm _ HX1.out.lt).trans HMB.out)
  have HX2 := Lib.hid (HX1.out.turn ht2 HMB.out)
  have HT3 := Lib.hid ((HT1.out.trans ht2).set4 (b := w.heap.size) (Or.inl (Nat.le_refl _)) (.int .i64 k2) (.int .i64 n2) (.string s2) (.slice a2 m2 c2))
  have HV3 := Lib.hid (htv.put4 HDB.out (.int .i64 k2) (.int .i64 n2) (.string s2) (.slice a2 m2 c2))
  have HO3 := Lib.hid (ho2.put4 w.heap.size (.int .i64 k2) (.int .i64 n2) (.string s2) (.slice a2 m2 c2))
  have HX3 := Lib.hid (HX2.out.all4 (.int .i64 k2) (.int .i64 n2) (.string s2) (.slice a2 m2 c2))
  have HSM := Lib.hid hsm2
  have HOK := Lib.hid hok2
  obtain ⟨r0, r1, r2, r3, rf⟩ := HX2.out.four
  clear htv ht2 ho2 hok2 hsm2
  obtain ⟨w3, hw3⟩ : ∃ w3, set4 w2 w.heap.size (.int .i64 k2) (.int .i64 n2) (.string s2) (.slice a2 m2 c2) = w3 := ⟨_, rfl⟩
  rw [hw3] at HT3 HV3 HO3 HX3
  obtain ⟨p0, p1, p2, p3, pf⟩ := HX3.out.four
  cases hM : TERMX xs 1200 s with
  | none =>
    obtain rfl : ok = false := by rw [HOK.out, hM]; rfl
    have HN := Lib.hid (show X = none from HXX.out.symm.trans (closed_none hM))
    clear hM
    go_wp2_with fail
    (try rw [hw3])
    clear hw3
    refine wp_region_held_drew (S := fun w' => w'.cell? ⟨w.heap.size, 0, none⟩ = some (.int .i64 k2) ∧ w'.cell? ⟨w.heap.size, 1, none⟩ = some (.int .i64 n2) ∧ w'.cell? ⟨w.heap.size, 2, none⟩ = some (.string s2) ∧ w'.cell? ⟨w.heap.size, 3, none⟩ = some (.slice a2 m2 c2)) (by kernel_rfl) ⟨p0, p1, p2, p3⟩ (fun hHeld => ?_)
    first | (refine held_t (i := 0) hHeld ?_; apply Exists.intro; refine ⟨fun wq hq => ?_, ?_⟩; (focus ((try dsimp only at hq); go_simp; (first | done | with_reducible rfl | fail)))) | refine held_s (i := 0) hHeld ?_ | fail
    first | (refine held_t (i := 1) hHeld ?_; apply Exists.intro; refine ⟨fun wq hq => ?_, ?_⟩; (focus ((try dsimp only at hq); go_simp; (first | done | with_reducible rfl | fail)))) | refine held_s (i := 1) hHeld ?_ | fail
    first | (refine held_t (i := 2) hHeld ?_; apply Exists.intro; refine ⟨fun wq hq => ?_, ?_⟩; (focus ((try dsimp only at hq); go_simp; (first | done | with_reducible rfl | fail)))) | refine held_s (i := 2) hHeld ?_ | fail
    first | (refine held_t (i := 3) hHeld ?_; apply Exists.intro; refine ⟨fun wq hq => ?_, ?_⟩; (focus ((try dsimp only at hq); go_simp; (first | done | with_reducible rfl | fail)))) | refine held_s (i := 3) hHeld ?_ | fail
    first | (refine held_t (i := 4) hHeld ?_; apply Exists.intro; refine ⟨fun wq hq => ?_, ?_⟩; (focus ((try dsimp only at hq); go_simp; (first | done | with_reducible rfl | fail)))) | refine held_s (i := 4) hHeld ?_ | fail
    first | (refine held_t (i := 5) hHeld ?_; apply Exists.intro; refine ⟨fun wq hq => ?_, ?_⟩; (focus ((try dsimp only at hq); go_simp; (first | done | with_reducible rfl | fail)))) | refine held_s (i := 5) hHeld ?_ | fail
    try simp only [Act.put, List.setIfInBounds_toArray, List.set_cons_zero, List.set_cons_succ]
    refine held_c 6 fun K hK => ?_
    go_simp
    skip
    refine hK.out _ _ ((let q := ((HX3.out.ext (Below.refl _ _).drew).all4 (.int .i64 k2) (.int .i64 n2) (.string s2) (.slice a2 m2 c2)).four; ⟨q.1, q.2.1, q.2.2.1, q.2.2.2.1⟩)) (fun hHeld => ?_)
    clear hK K
    try simp only [Act.put, List.setIfInBounds_toArray, List.set_cons_zero, List.set_cons_succ]
    first | (refine held_t (i := 7) hHeld ?_; apply Exists.intro; refine ⟨fun wq hq => ?_, ?_⟩; (focus ((try dsimp only at hq); go_simp; (first | done | with_reducible rfl | fail)))) | refine held_s (i := 7) hHeld ?_ | fail
    try simp only [Act.put, List.setIfInBounds_toArray, List.set_cons_zero, List.set_cons_succ]
    refine wpAnyH_done (by kernel_rfl) ?_ _
    go_wp2
    refine bodyPost_ret (v := .tuple #[.agg #[.int .i64 k2, .int .i64 n2, .string s2, .slice a2 m2 c2], .bool false]) (by rw [results_cell_tmp rfl]; go_simp) rfl ?_
    exact bdone_none (HT3.out.trans (Turn.below (Below.refl _ _).drew)) (HO3.out.later (Nat.le_refl _)) HMd.out (Nat.le_refl _) HDB.out (TmV.later (Below.refl _ _).drew HV3.out) HN.out
  | some q =>
    obtain ⟨⟨tq, lq⟩, s1⟩ := q
    obtain rfl : ok = true := by rw [HOK.out, hM]; rfl
    obtain ⟨rfl, rfl, hs2⟩ := HSM.out _ _ hM
    have hs3 := hs2.put4 HDB.out HMB2.out (.int .i64 k2) (.int .i64 n2) (.string s2) (.slice a2 m2 c2)
    rw [hw3] at hs3
    have HM := Lib.hid hM
    have hs3d := hs3.later (Below.refl _ _).drew
    have HTK := Lib.hid (takes_at hs3d [41])
    have HMD := Lib.hid hs3d.md
    clear hM hs2 hs3 hs3d
    cases hmk : isMark [41] (headR s1) with
    | false =>
      rw [hmk] at HTK
      have HN := Lib.hid (show X = none from HXX.out.symm.trans (closed_open HM.out hmk))
      clear hmk
      go_wp2_with fail
      (try rw [hw3])
      clear hw3
      refine wp_region_held_drew (S := fun w' => w'.cell? ⟨w.heap.size, 0, none⟩ = some (.int .i64 k2) ∧ w'.cell? ⟨w.heap.size, 1, none⟩ = some (.int .i64 n2) ∧ w'.cell? ⟨w.heap.size, 2, none⟩ = some (.string s2) ∧ w'.cell? ⟨w.heap.size, 3, none⟩ = some (.slice a2 m2 c2)) (by kernel_rfl) ⟨p0, p1, p2, p3⟩ (fun hHeld => ?_)
      first | (refine held_t (i := 0) hHeld ?_; apply Exists.intro; refine ⟨fun wq hq => ?_, ?_⟩; (focus ((try dsimp only at hq); go_simp; (first | done | with_reducible rfl | fail)))) | refine held_s (i := 0) hHeld ?_ | fail
      first | (refine held_t (i := 1) hHeld ?_; apply Exists.intro; refine ⟨fun wq hq => ?_, ?_⟩; (focus ((try dsimp only at hq); go_simp; (first | done | with_reducible rfl | fail)))) | refine held_s (i := 1) hHeld ?_ | fail
      first | (refine held_t (i := 2) hHeld ?_; apply Exists.intro; refine ⟨fun wq hq => ?_, ?_⟩; (focus ((try dsimp only at hq); go_simp; (first | done | with_reducible rfl | fail)))) | refine held_s (i := 2) hHeld ?_ | fail
      first | (refine held_t (i := 3) hHeld ?_; apply Exists.intro; refine ⟨fun wq hq => ?_, ?_⟩; (focus ((try dsimp only at hq); go_simp; (first | done | with_reducible rfl | fail)))) | refine held_s (i := 3) hHeld ?_ | fail
      try simp only [Act.put, List.setIfInBounds_toArray, List.set_cons_zero, List.set_cons_succ]
      refine held_c 4 fun K hK => ?_
      go_simp
      (go_at_call 117; refine HTK.out.mono ?_; rintro e w4 ⟨rfl, hs4, ht4⟩; have HX4 := Lib.hid ((HX3.out.ext (Below.refl _ _).drew).turn ht4 HMB2.out); obtain ⟨q0, q1, q2, q3, qf⟩ := HX4.out.four; have HS4 := Lib.hid hs4; have HT4 := Lib.hid ht4)
      refine hK.out _ _ (⟨q0, q1, q2, q3⟩) (fun hHeld => ?_)
      clear hK K
      try simp only [Act.put, List.setIfInBounds_toArray, List.set_cons_zero, List.set_cons_succ]
      first | (refine held_t (i := 5) hHeld ?_; apply Exists.intro; refine ⟨fun wq hq => ?_, ?_⟩; (focus ((try dsimp only at hq); go_simp; (first | done | with_reducible rfl | fail)))) | refine held_s (i := 5) hHeld ?_ | fail
      try simp only [Act.put, List.setIfInBounds_toArray, List.set_cons_zero, List.set_cons_succ]
      refine held_c 6 fun K hK => ?_
      go_simp
      skip
      refine hK.out _ _ ((let q := (HX4.out.all4 (.int .i64 k2) (.int .i64 n2) (.string s2) (.slice a2 m2 c2)).four; ⟨q.1, q.2.1, q.2.2.1, q.2.2.2.1⟩)) (fun hHeld => ?_)
      clear hK K
      try simp only [Act.put, List.setIfInBounds_toArray, List.set_cons_zero, List.set_cons_succ]
      first | (refine held_t (i := 7) hHeld ?_; apply Exists.intro; refine ⟨fun wq hq => ?_, ?_⟩; (focus ((try dsimp only at hq); go_simp; (first | done | with_reducible rfl | fail)))) | refine held_s (i := 7) hHeld ?_ | fail
      try simp only [Act.put, List.setIfInBounds_toArray, List.set_cons_zero, List.set_cons_succ]
      refine wpAnyH_done (by kernel_rfl) ?_ _
      go_wp2
      refine bodyPost_ret (v := .tuple #[.agg #[.int .i64 k2, .int .i64 n2, .string s2, .slice a2 m2 c2], .bool false]) (by rw [results_cell_tmp rfl]; go_simp) rfl ?_
      exact bdone_none ((HT3.out.trans (Turn.below (Below.refl _ _).drew)).trans HT4.out) HS4.out.okd HMd.out (Nat.le_refl _) HDB.out (TmV.stay (HT4.out.stays HMD.out) _ _ (TmV.later (Below.refl _ _).drew HV3.out)) HN.out
    | true =>
      rw [hmk] at HTK
      have HN := Lib.hid (show X = some (t2, takesS [41] s1) from HXX.out.symm.trans (closed_done HM.out hmk))
      clear hmk
      go_wp2_with fail
      (try rw [hw3])
      clear hw3
      refine wp_region_held_drew (S := fun w' => w'.cell? ⟨w.heap.size, 0, none⟩ = some (.int .i64 k2) ∧ w'.cell? ⟨w.heap.size, 1, none⟩ = some (.int .i64 n2) ∧ w'.cell? ⟨w.heap.size, 2, none⟩ = some (.string s2) ∧ w'.cell? ⟨w.heap.size, 3, none⟩ = some (.slice a2 m2 c2)) (by kernel_rfl) ⟨p0, p1, p2, p3⟩ (fun hHeld => ?_)
      first | (refine held_t (i := 0) hHeld ?_; apply Exists.intro; refine ⟨fun wq hq => ?_, ?_⟩; (focus ((try dsimp only at hq); go_simp; (first | done | with_reducible rfl | fail)))) | refine held_s (i := 0) hHeld ?_ | fail
      first | (refine held_t (i := 1) hHeld ?_; apply Exists.intro; refine ⟨fun wq hq => ?_, ?_⟩; (focus ((try dsimp only at hq); go_simp; (first | done | with_reducible rfl | fail)))) | refine held_s (i := 1) hHeld ?_ | fail
      first | (refine held_t (i := 2) hHeld ?_; apply Exists.intro; refine ⟨fun wq hq => ?_, ?_⟩; (focus ((try dsimp only at hq); go_simp; (first | done | with_reducible rfl | fail)))) | refine held_s (i := 2) hHeld ?_ | fail
      first | (refine held_t (i := 3) hHeld ?_; apply Exists.intro; refine ⟨fun wq hq => ?_, ?_⟩; (focus ((try dsimp only at hq); go_simp; (first | done | with_reducible rfl | fail)))) | refine held_s (i := 3) hHeld ?_ | fail
      try simp only [Act.put, List.setIfInBounds_toArray, List.set_cons_zero, List.set_cons_succ]
      refine held_c 4 fun K hK => ?_
      go_simp
      (go_at_call 117; refine HTK.out.mono ?_; rintro e w4 ⟨rfl, hs4, ht4⟩; have HX4 := Lib.hid ((HX3.out.ext (Below.refl _ _).drew).turn ht4 HMB2.out); obtain ⟨q0, q1, q2, q3, qf⟩ := HX4.out.four; have HS4 := Lib.hid hs4; have HT4 := Lib.hid ht4)
      refine hK.out _ _ (⟨q0, q1, q2, q3⟩) (fun hHeld => ?_)
      clear hK K
      try simp only [Act.put, List.setIfInBounds_toArray, List.set_cons_zero, List.set_cons_succ]
      first | (refine held_t (i := 5) hHeld ?_; apply Exists.intro; refine ⟨fun wq hq => ?_, ?_⟩; (focus ((try dsimp only at hq); go_simp; (first | done | with_reducible rfl | fail)))) | refine held_s (i := 5) hHeld ?_ | fail
      try simp only [Act.put, List.setIfInBounds_toArray, List.set_cons_zero, List.set_cons_succ]
      refine held_c 6 fun K hK => ?_
      go_simp
      skip
      refine hK.out _ _ ((let q := (HX4.out.all4 (.int .i64 k2) (.int .i64 n2) (.string s2) (.slice a2 m2 c2)).four; ⟨q.1, q.2.1, q.2.2.1, q.2.2.2.1⟩)) (fun hHeld => ?_)
      clear hK K
      try simp only [Act.put, List.setIfInBounds_toArray, List.set_cons_zero, List.set_cons_succ]
      first | (refine held_t (i := 7) hHeld ?_; apply Exists.intro; refine ⟨fun wq hq => ?_, ?_⟩; (focus ((try dsimp only at hq); go_simp; (first | done | with_reducible rfl | fail)))) | refine held_s (i := 7) hHeld ?_ | fail
      try simp only [Act.put, List.setIfInBounds_toArray, List.set_cons_zero, List.set_cons_succ]
      refine wpAnyH_done (by kernel_rfl) ?_ _
      go_wp2
      refine bodyPost_ret (v := .tuple #[.agg #[.int .i64 k2, .int .i64 n2, .string s2, .slice a2 m2 c2], .bool true]) (by rw [results_cell_tmp rfl]; go_simp) rfl ?_
      exact bdone_some ((HT3.out.trans (Turn.below (Below.refl _ _).drew)).trans HT4.out) HS4.out HMd.out (Nat.le_refl _) HDB.out HMB2.out (TmV.stay (HT4.out.stays HMD.out) _ _ (TmV.later (Below.refl _ _).drew HV3.out)) HN.out
end Go.Proofs.YtaojalicnnnkmaaGreatDoor
