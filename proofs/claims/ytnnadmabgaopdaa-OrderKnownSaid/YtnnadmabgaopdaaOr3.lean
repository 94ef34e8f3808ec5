/- Package order: what is asked first; two terms compared. -/
import Derived.Test.YtnnadmabgaopdaaOr2
import Derived.Test.YtnnadmabgaopdaaH2
import Derived.BigQuiet
namespace Go.Proofs.Ytnnadmabgaopdaa
open Go.RowKit
set_option linter.unusedVariables false

set_option maxHeartbeats 2000000 in
theorem key_at {k n : Int} {s : ByteArray} {a : Option Addr} {m c : Nat} (h1 : m ≤ c) (h2 : c ≤ maxLen) (w : World) : Calls Try.prog 14 #[.agg #[.int .i64 k, .int .i64 n, .string s, .slice a m c]] w fun e w' => e = .returned (.tuple #[.int .i64 (placeK k m), .string s, .int .i64 m]) ∧ Below w.heap.size w w' := by
  by_cases g : k = 2
  · subst g
    by_cases g2 : 0 < m
    · rw [show placeK 2 m = 3 by unfold placeK; rw [if_pos ⟨rfl, g2⟩]]
      have g3 : (0 : Int) < m := by omega
      go_enter Try.func14, Try.ntmps14
      go_wp2_with fail
      go_quiet (fail)
      go_wp2
      go_ret3
      exact ⟨rfl, bel_drewN (bel1' w _) _⟩
    · rw [show placeK 2 m = 2 by unfold placeK; rw [if_neg (fun e => g2 e.2)]]
      have g3 : ¬ (0 : Int) < m := by omega
      go_enter Try.func14, Try.ntmps14
      go_wp2_with fail
      go_quiet (fail)
      go_wp2
      go_ret3
      exact ⟨rfl, bel_drewN (bel1' w _) _⟩
  · rw [show placeK k m = k by unfold placeK; rw [if_neg (fun e => g e.1)]]
    have g3 : (k == 2) = false := beq_false_of_ne g
    go_enter Try.func14, Try.ntmps14
    go_wp2_with fail
    go_quiet (fail)
    go_wp2
    go_ret3
    exact ⟨rfl, bel_drewN (bel1' w _) _⟩
theorem cmps_step {a b : List Tm} {i : Nat} {x y : Tm} (hx : a[i]? = some x) (hy : b[i]? = some y) : cmpL (a.drop i) (b.drop i) = or2 (cmpT x y) (cmpL (a.drop (i + 1)) (b.drop (i + 1))) := by
  obtain ⟨h1, rfl⟩ := List.getElem?_eq_some_iff.1 hx
  obtain ⟨h2, rfl⟩ := List.getElem?_eq_some_iff.1 hy
  rw [List.drop_eq_getElem_cons h1, List.drop_eq_getElem_cons h2, cmpL]
theorem cmps_more {a b : List Tm} {i : Nat} {x : Tm} (hx : a[i]? = some x) (hb : b.length ≤ i) : cmpL (a.drop i) (b.drop i) = 1 := by
  obtain ⟨h1, rfl⟩ := List.getElem?_eq_some_iff.1 hx
  rw [List.drop_eq_getElem_cons h1, List.drop_eq_nil_of_le hb, cmpL]
theorem cmps_less {a b : List Tm} {i : Nat} {x : Tm} (hx : b[i]? = some x) (hb : a.length ≤ i) : cmpL (a.drop i) (b.drop i) = -1 := by
  obtain ⟨h1, rfl⟩ := List.getElem?_eq_some_iff.1 hx
  rw [List.drop_eq_getElem_cons h1, List.drop_eq_nil_of_le hb, cmpL]
set_option maxHeartbeats 4000000 in
set_option maxRecDepth 100000 in
theorem cmps_at {w : World} {va vb : Value} {ts ts' : List Tm} (hu : Tms w va ts) (hu' : Tms w vb ts')
    (IH : Hid (∀ x ∈ ts, ∀ (y : Tm) (w : World) (va vb : Value), TmV w x va → TmV w y vb → Calls Try.prog 23 #[va, vb] w fun e w' => e = .returned (.int .i64 (cmpT x y)) ∧ Below w.heap.size w w')) :
    Calls Try.prog 36 #[va, vb, .func (.func 23) #[] #[]] w fun e w' => e = .returned (.int .i64 (cmpL ts ts')) ∧ Below w.heap.size w w' := by
  obtain ⟨a, c, rfl, h1, h2, h3⟩ := hu.len
  obtain ⟨a', c', rfl, h1', h2', h3'⟩ := hu'.len
  unfold BIG at h3 h3'
  obtain ⟨m, hm⟩ : ∃ m, ts.length = m := ⟨_, rfl⟩
  obtain ⟨m', hm'⟩ : ∃ m', ts'.length = m' := ⟨_, rfl⟩
  obtain ⟨r, hr⟩ : ∃ r, cmpL ts ts' = r := ⟨_, rfl⟩
  rw [hr]
  have HR := Lib.hid hr
  have HU := Lib.hid hu
  have HU' := Lib.hid hu'
  have HM := Lib.hid hm
  have HM' := Lib.hid hm'
  rw [hm] at h1 h3 HU hu ⊢
  rw [hm'] at h1' h3' HU' hu' ⊢
  clear hr hm hm' hu hu'
  go_enter Try.func36, Try.ntmps36
  go_wp2_with fail
  go_loopw [13] (fun v wr => ∃ i : Nat, i ≤ m ∧ v = .int .i64 i ∧ Hid (cmpL (ts.drop i) (ts'.drop i) = r) ∧ Hid (Below w.heap.size w wr)) (fun v _ => m - (intOf v).toNat)
  case atStart => exact ⟨0, Nat.zero_le _, rfl, Lib.hid (by rw [List.drop_zero, List.drop_zero]; exact HR.out), Lib.hid (Below.refl _ _)⟩
  case round =>
    obtain ⟨i, hi, rfl, HD, HB⟩ := hrel
    by_cases hil : i < m
    · obtain ⟨x, hx⟩ : ∃ x, ts[i]? = some x := ⟨_, List.getElem?_eq_getElem (by rw [HM.out]; exact hil)⟩
      obtain ⟨b, off, k1, n1, s1, u1, rfl, hbb, _, _, _, c0, c1, c2, c3, htu, ht⟩ := (HU.out.ext HB.out).get hx
      obtain ⟨au, cu, rfl, _⟩ := htu.len
      clear htu
      by_cases him : i < m'
      · obtain ⟨y, hy⟩ : ∃ y, ts'[i]? = some y := ⟨_, List.getElem?_eq_getElem (by rw [HM'.out]; exact him)⟩
        have hd := HD.out
        rw [cmps_step hx hy] at hd
        unfold or2 at hd
        obtain ⟨b', off', k2, n2, s2, u2, rfl, hbb', _, _, _, d0, d1, d2, d3, htu', ht'⟩ := (HU'.out.ext HB.out).get hy
        obtain ⟨au', cu', rfl, _⟩ := htu'.len
        clear htu'
        have hw : Below wr.heap.size wr ((wr.alloc (box4 k1 n1 s1 (.slice au x.args.length cu) 25)).alloc (box4 k2 n2 s2 (.slice au' y.args.length cu') 25)) := (bel1' wr _).alloc (by simp) _
        have ih := IH.out x (List.mem_of_getElem? hx) y _ _ _ (TmV.ext hw _ _ ht) (TmV.ext hw _ _ ht')
        have HWW := Lib.hid hw
        have him' : ¬ ((m' : Int) ≤ i) := by omega
        clear HD ht ht' hx hy hw
        by_cases hq : cmpT x y = 0
        · rw [if_pos hq] at hd
          rw [hq] at ih
          have HD := Lib.hid hd
          clear hq hd
          (go_wp2_with fail; go_fit (ih); rintro e w2 ⟨rfl, b2⟩)
          have B2 := Lib.hid (Ext.trans' HB.out (Ext.trans' HWW.out b2))
          clear b2
          go_wp2
          go_roundw
          case rel => exact ⟨i + 1, by omega, by go_num, HD, B2⟩
          case measure => simp [intOf]; omega
        · rw [if_neg hq] at hd
          subst hd
          obtain ⟨q, hqq⟩ : ∃ q, cmpT x y = q := ⟨_, rfl⟩
          rw [hqq] at hq ih
          have hq1 : (q != 0) = true := by simpa using hq
          have HQQ := Lib.hid hqq
          clear HR hqq
          (go_wp2_with fail; go_fit (ih); rintro e w2 ⟨rfl, b2⟩)
          have B2 := Lib.hid (Ext.trans' HB.out (Ext.trans' HWW.out b2))
          clear b2
          go_wp2
          go_ret
          exact ⟨congrArg (fun z => Ending.returned (.int .i64 z)) HQQ.out.symm, B2.out⟩
      · have hd := HD.out
        rw [cmps_more hx (by rw [HM'.out]; omega)] at hd
        subst hd
        have him' : ((m' : Int) ≤ i) := by omega
        have B2 := Lib.hid (Ext.trans' HB.out (bel1' wr (box4 k1 n1 s1 (.slice au x.args.length cu) 25)))
        clear HR HD ht hx
        go_wp2
        go_ret
        exact ⟨rfl, B2.out⟩
    · have him : i = m := by omega
      subst him
      by_cases hmm : i < m'
      · obtain ⟨y, hy⟩ : ∃ y, ts'[i]? = some y := ⟨_, List.getElem?_eq_getElem (by rw [HM'.out]; exact hmm)⟩
        have hd := HD.out
        rw [cmps_less hy (by rw [HM.out]; omega)] at hd
        subst hd
        have hmi : (i : Int) < m' := by omega
        clear HR HD hy
        go_wp2
        go_ret
        exact ⟨rfl, HB.out⟩
      · have hd := HD.out
        rw [List.drop_eq_nil_of_le (by rw [HM.out]; omega), List.drop_eq_nil_of_le (by rw [HM'.out]; omega), cmpL] at hd
        subst hd
        have hmi : ¬ (i : Int) < m' := by omega
        clear HR HD
        go_wp2
        go_ret
        exact ⟨rfl, HB.out⟩
theorem row_new (w : World) (cs : Array Value) (ty : TypeId) {j : Nat} {u : Value} (h : cs.toList[j]? = some u) : (w.alloc (.cells cs ty)).cell? ⟨w.heap.size, j, none⟩ = some u := by
  have := cell_new w cs ty j u h
  rw [add_plain, Nat.zero_add] at this
  exact this
theorem row_ints (w : World) (a b c d : Int) (ty : TypeId) (i : Nat) (x : Int) (h : [a, b, c, d][i]? = some x) : (w.alloc (.cells #[.int .i64 a, .int .i64 b, .int .i64 c, .int .i64 d] ty)).cell? ⟨w.heap.size, 0 + i, none⟩ = some (.int .i64 x) := by
  rw [Nat.zero_add]
  refine row_new w _ ty ?_
  show ([a, b, c, d].map (Value.int .i64))[i]? = _
  rw [List.getElem?_map, h]
  rfl
theorem or_last (x : Int) : or2 x 0 = x := by unfold or2; split <;> simp_all
theorem or_four (a b c d : Int) : orL [a, b, c, d] = or2 a (or2 b (or2 c d)) := by
  rw [orL, orL, orL, orL, orL, or_last]
set_option maxHeartbeats 8000000 in
set_option maxRecDepth 100000 in
theorem compare_at : ∀ (N : Nat) (x : Tm), sizeN x ≤ N → ∀ (y : Tm) (w : World) (va vb : Value), TmV w x va → TmV w y vb →
    Calls Try.prog 23 #[va, vb] w fun e w' => e = .returned (.int .i64 (cmpT x y)) ∧ Below w.heap.size w w'
  | 0, x, h, y, w, va, vb, hv, hv' => by have := size_pos x; omega
  | N + 1, .mk k n s ts, h, .mk k' n' s' ts', w, va, vb, hv, hv' => by
    obtain ⟨u, rfl, hs, hk, hn, hu⟩ := tmV_iff.1 hv
    obtain ⟨u', rfl, hs', hk', hn', hu'⟩ := tmV_iff.1 hv'
    obtain ⟨a, c, rfl, h1, h2, h3⟩ := hu.len
    obtain ⟨a', c', rfl, h1', h2', h3'⟩ := hu'.len
    unfold BIG at h3 h3' hs hs'
    have IH := Lib.hid (fun (x : Tm) (hx : x ∈ ts) => compare_at N x (mem_size h hx))
    have hw : Below w.heap.size w ((w.alloc (box4 k n s (.slice a ts.length c) 25)).alloc (box4 k' n' s' (.slice a' ts'.length c') 25)) := (bel1' w _).alloc (by simp) _
    have E := Lib.hid (fun wr (hb : Below ((w.alloc (box4 k n s (.slice a ts.length c) 25)).alloc (box4 k' n' s' (.slice a' ts'.length c') 25)).heap.size ((w.alloc (box4 k n s (.slice a ts.length c) 25)).alloc (box4 k' n' s' (.slice a' ts'.length c') 25)) wr) => cmps_at ((hu.ext hw).ext hb) ((hu'.ext hw).ext hb) IH)
    rw [cmp_mk]
    unfold firstK
    generalize cmpL ts ts' = r at E ⊢
    obtain ⟨m, hm⟩ : ∃ m, ts.length = m := ⟨_, rfl⟩
    obtain ⟨m', hm'⟩ : ∃ m', ts'.length = m' := ⟨_, rfl⟩
    rw [hm] at hw E h1 ⊢
    rw [hm'] at hw E h1' ⊢
    have KA := fun w => key_at (k := k) (n := n) (s := s) (a := a) h1 h2 w
    have KB := fun w => key_at (k := k') (n := n') (s := s') (a := a') h1' h2' w
    generalize placeK k m = p at KA ⊢
    generalize placeK k' m' = p' at KB ⊢
    have CA := fun w => cmpI_at p p' w
    have CB := fun w => cmpL_at n n' w
    have CC := fun w => cmpI_at m m' w
    have CD := fun w => cmpS_at s s' w
    generalize cmpI p p' = ra at CA ⊢
    generalize cmpI n n' = rb at CB ⊢
    generalize cmpI m m' = rc at CC ⊢
    generalize cmpB s.data.toList s'.data.toList = rd at CD ⊢
    have HCA := Lib.hid CA
    have HCB := Lib.hid CB
    have HCC := Lib.hid CC
    have HCD := Lib.hid CD
    have HO := Lib.hid (fun (b : Nat) (w : World) hc => or_at [ra, rb, rc, rd] b 0 4 w (by simp) (by unfold maxLen; decide) hc)
    rw [or_four] at HO
    generalize or2 ra (or2 rb (or2 rc rd)) = f at HO ⊢
    have HW := Lib.hid hw
    clear hm hm' hv hv' hu hu' h hw CA CB CC CD
    go_enter Try.func23, Try.ntmps23
    (go_wp2_with fail; go_fit (KA _); rintro e w1 ⟨rfl, b1⟩)
    obtain ⟨d0, d1, d2, d3⟩ := box_cells (w.alloc (box4 k n s (.slice a m c) 25)) 25 _ _ _ _ b1
    have b1' := Ext.trans' (bel1' (w.alloc (box4 k n s (.slice a m c) 25)) (box4 k' n' s' (.slice a' m' c') 25)) b1
    obtain ⟨c0, c1, c2, c3⟩ := box_cells w 25 _ _ _ _ b1'
    simp only [World.size_alloc] at d0 d1 d2 d3
    (go_wp2_with fail; go_fit (KB _); rintro e w2 ⟨rfl, b2⟩)
    have b12 := Ext.trans' b1 b2
    have b12' := Ext.trans' b1' b2
    obtain ⟨d0, d1, d2, d3⟩ := box_cells (w.alloc (box4 k n s (.slice a m c) 25)) 25 _ _ _ _ b12
    obtain ⟨c0, c1, c2, c3⟩ := box_cells w 25 _ _ _ _ b12'
    simp only [World.size_alloc] at d0 d1 d2 d3
    have B12 := Lib.hid b12
    clear b1 b2 b12 b12' b1'
    go_wp2_with fail
    refine wp_region_held_drew (S := fun w' => (w'.cell? ⟨w.heap.size, 1, none⟩ = some (.int .i64 n) ∧ w'.cell? ⟨w.heap.size + 1, 1, none⟩ = some (.int .i64 n'))) (by kernel_rfl) (⟨c1, d1⟩) (fun hHeld => ?_)
    first | (refine held_t (i := 0) hHeld ?_; apply Exists.intro; refine ⟨fun wq hq => ?_, ?_⟩; (focus ((try dsimp only at hq); go_simp; (first | done | with_reducible rfl | fail)))) | refine held_s (i := 0) hHeld ?_ | fail
    first | (refine held_t (i := 1) hHeld ?_; apply Exists.intro; refine ⟨fun wq hq => ?_, ?_⟩; (focus ((try dsimp only at hq); go_simp; (first | done | with_reducible rfl | fail)))) | refine held_s (i := 1) hHeld ?_ | fail
    first | (refine held_t (i := 3) hHeld ?_; apply Exists.intro; refine ⟨fun wq hq => ?_, ?_⟩; (focus ((try dsimp only at hq); go_simp; (first | done | with_reducible rfl | fail)))) | refine held_s (i := 3) hHeld ?_ | fail
    first | (refine held_t (i := 4) hHeld ?_; apply Exists.intro; refine ⟨fun wq hq => ?_, ?_⟩; (focus ((try dsimp only at hq); go_simp; (first | done | with_reducible rfl | fail)))) | refine held_s (i := 4) hHeld ?_ | fail
    first | (refine held_t (i := 5) hHeld ?_; apply Exists.intro; refine ⟨fun wq hq => ?_, ?_⟩; (focus ((try dsimp only at hq); go_simp; (first | done | with_reducible rfl | fail)))) | refine held_s (i := 5) hHeld ?_ | fail
    first | (refine held_t (i := 6) hHeld ?_; apply Exists.intro; refine ⟨fun wq hq => ?_, ?_⟩; (focus ((try dsimp only at hq); go_simp; (first | done | with_reducible rfl | fail)))) | refine held_s (i := 6) hHeld ?_ | fail
    first | (refine held_t (i := 8) hHeld ?_; apply Exists.intro; refine ⟨fun wq hq => ?_, ?_⟩; (focus ((try dsimp only at hq); go_simp; (first | done | with_reducible rfl | fail)))) | refine held_s (i := 8) hHeld ?_ | fail
    first | (refine held_t (i := 9) hHeld ?_; apply Exists.intro; refine ⟨fun wq hq => ?_, ?_⟩; (focus ((try dsimp only at hq); go_simp; (first | done | with_reducible rfl | fail)))) | refine held_s (i := 9) hHeld ?_ | fail
    first | (refine held_t (i := 11) hHeld ?_; apply Exists.intro; refine ⟨fun wq hq => ?_, ?_⟩; (focus ((try dsimp only at hq); go_simp; (first | done | with_reducible rfl | fail)))) | refine held_s (i := 11) hHeld ?_ | fail
    first | (refine held_t (i := 12) hHeld ?_; apply Exists.intro; refine ⟨fun wq hq => ?_, ?_⟩; (focus ((try dsimp only at hq); go_simp; (first | done | with_reducible rfl | fail)))) | refine held_s (i := 12) hHeld ?_ | fail
    try simp only [Act.put, List.setIfInBounds_toArray, List.set_cons_zero, List.set_cons_succ]
    refine held_calm (i := 2) hHeld ?_; apply Exists.intro; refine ⟨fun wq hq => ?_, ?_⟩; (focus ((try dsimp only at hq); go_simp; (go_at_call 33; refine (HCA.out wq).mono ?_; rintro e w6 ⟨rfl, rfl⟩; exact ⟨rfl, rfl⟩)))
    try simp only [Act.put, List.setIfInBounds_toArray, List.set_cons_zero, List.set_cons_succ]
    refine held_calm (i := 7) hHeld ?_; apply Exists.intro; refine ⟨fun wq hq => ?_, ?_⟩; (focus ((try dsimp only at hq); go_simp; (go_at_call 34; refine (HCB.out wq).mono ?_; rintro e w6 ⟨rfl, rfl⟩; exact ⟨rfl, rfl⟩)))
    try simp only [Act.put, List.setIfInBounds_toArray, List.set_cons_zero, List.set_cons_succ]
    refine held_calm (i := 10) hHeld ?_; apply Exists.intro; refine ⟨fun wq hq => ?_, ?_⟩; (focus ((try dsimp only at hq); go_simp; (go_at_call 33; refine (HCC.out wq).mono ?_; rintro e w6 ⟨rfl, rfl⟩; exact ⟨rfl, rfl⟩)))
    try simp only [Act.put, List.setIfInBounds_toArray, List.set_cons_zero, List.set_cons_succ]
    refine held_calm (i := 13) hHeld ?_; apply Exists.intro; refine ⟨fun wq hq => ?_, ?_⟩; (focus ((try dsimp only at hq); go_simp; (go_at_call 35; refine (HCD.out wq).mono ?_; rintro e w6 ⟨rfl, rfl⟩; exact ⟨rfl, rfl⟩)))
    try simp only [Act.put, List.setIfInBounds_toArray, List.set_cons_zero, List.set_cons_succ]
    refine held_c 14 fun K hK => ?_
    go_simp
    skip
    refine hK.out _ _ (⟨cell_later (bel1' _ _) hHeld.1, cell_later (bel1' _ _) hHeld.2⟩) (fun hHeld => ?_)
    clear hK K
    try simp only [Act.put, List.setIfInBounds_toArray, List.set_cons_zero, List.set_cons_succ]
    refine held_c 15 fun K hK => ?_
    go_simp
    (go_at_call 32; refine Calls.mono (HO.out _ _ ?_) ?_; exact row_ints _ _ _ _ _ _; rintro e w6 ⟨rfl, rfl⟩)
    refine hK.out _ _ (hHeld) (fun hHeld => ?_)
    clear hK K
    try simp only [Act.put, List.setIfInBounds_toArray, List.set_cons_zero, List.set_cons_succ]
    first | (refine held_t (i := 16) hHeld ?_; apply Exists.intro; refine ⟨fun wq hq => ?_, ?_⟩; (focus ((try dsimp only at hq); go_simp; (first | done | with_reducible rfl | fail)))) | refine held_s (i := 16) hHeld ?_ | fail
    try simp only [Act.put, List.setIfInBounds_toArray, List.set_cons_zero, List.set_cons_succ]
    refine wpAnyH_done (by kernel_rfl) ?_ _
    have b3 : Below w2.heap.size w2 ((w2.alloc (.cells #[.int .i64 ra, .int .i64 rb, .int .i64 rc, .int .i64 rd] 3)).drew) := (bel1' w2 _).drew
    generalize (w2.alloc (.cells #[.int .i64 ra, .int .i64 rb, .int .i64 rc, .int .i64 rd] 3)).drew = w3 at b3 ⊢
    have b13 := Ext.trans' B12.out b3
    have b13' := Ext.trans' (bel1' (w.alloc (box4 k n s (.slice a m c) 25)) (box4 k' n' s' (.slice a' m' c') 25)) b13
    obtain ⟨d0, d1, d2, d3⟩ := box_cells (w.alloc (box4 k n s (.slice a m c) 25)) 25 _ _ _ _ b13
    obtain ⟨c0, c1, c2, c3⟩ := box_cells w 25 _ _ _ _ b13'
    simp only [World.size_alloc] at d0 d1 d2 d3
    have HE := E.out w3 b13
    have B13 := Lib.hid b13
    clear b3 b13 b13' B12 E HO HCA HCB HCC HCD KA KB IH hHeld
    by_cases hf : f = 0
    · have hor : or2 f r = r := if_pos hf
      have HOR := Lib.hid hor
      subst hf
      clear hor
      (go_wp2_with fail; go_fit (HE); rintro e w4 ⟨rfl, b4⟩)
      have B4 := Lib.hid (Ext.trans' HW.out (Ext.trans' B13.out b4))
      clear b4
      go_wp2
      go_ret
      exact ⟨congrArg (fun z => Ending.returned (.int .i64 z)) HOR.out.symm, B4.out⟩
    · have hor : or2 f r = f := if_neg hf
      have HOR := Lib.hid hor
      have hf1 : (f != 0) = true := by simpa using hf
      have B4 := Lib.hid (Ext.trans' HW.out B13.out)
      clear hor HE
      go_wp2
      go_ret
      exact ⟨congrArg (fun z => Ending.returned (.int .i64 z)) HOR.out.symm, B4.out⟩
set_option maxHeartbeats 2000000 in
theorem ogood_at {x y : Tm} {w : World} {va vb : Value} (hv : TmV w x va) (hv' : TmV w y vb) : Calls Try.prog 22 #[va, vb] w fun e w' => e = .returned (.bool (goodT x && goodT y)) ∧ Below w.heap.size w w' := by
  have GX := fun w (h : TmV w x va) => Good_at x w va h
  have GY := fun w (h : TmV w y vb) => Good_at y w vb h
  generalize goodT x = p at GX ⊢
  generalize goodT y = q at GY ⊢
  obtain ⟨k, n, s, u, rfl⟩ := hv.four
  obtain ⟨k', n', s', u', rfl⟩ := hv'.four
  have hw : Below w.heap.size w ((w.alloc (box4 k n s u 25)).alloc (box4 k' n' s' u' 25)) := (bel1' w _).alloc (by simp) _
  have hv0 := TmV.ext hw _ _ hv
  have hv0' := TmV.ext hw _ _ hv'
  have HWW := Lib.hid hw
  clear hv hv' hw
  cases p
  · rw [Bool.false_and]
    clear GY
    go_enter Try.func22, Try.ntmps22
    (go_wp2_with fail; go_fit (GX _ hv0); rintro e w1 ⟨rfl, b1⟩)
    have B1 := Lib.hid (Ext.trans' HWW.out b1)
    clear b1
    go_wp2
    go_ret
    exact ⟨rfl, B1.out⟩
  · rw [Bool.true_and]
    go_enter Try.func22, Try.ntmps22
    (go_wp2_with fail; go_fit (GX _ hv0); rintro e w1 ⟨rfl, b1⟩)
    obtain ⟨d0, d1, d2, d3⟩ := box_cells (w.alloc (box4 k n s u 25)) 25 _ _ _ _ b1
    simp only [World.size_alloc] at d0 d1 d2 d3
    (go_wp2_with fail; go_fit (GY _ (TmV.ext b1 _ _ hv0')); rintro e w2 ⟨rfl, b2⟩)
    have B2 := Lib.hid (Ext.trans' HWW.out (Ext.trans' b1 b2))
    clear b1 b2
    go_wp2
    go_ret
    exact ⟨rfl, B2.out⟩
theorem cmpG_no {x y : Tm} (h : (goodT x && goodT y) = false) : cmpG x y = 0 := by unfold cmpG; rw [h]; rfl
theorem cmpG_ok {x y : Tm} (h : (goodT x && goodT y) = true) : cmpG x y = cmpT x y := by unfold cmpG; rw [h]; rfl
set_option maxHeartbeats 2000000 in
theorem Cmp_at {x y : Tm} {w : World} {va vb : Value} (hv : TmV w x va) (hv' : TmV w y vb) : Calls Try.prog 12 #[va, vb] w fun e w' => e = .returned (.int .i64 (cmpG x y)) ∧ Below w.heap.size w w' := by
  have G := fun w (h : TmV w x va) (h' : TmV w y vb) => ogood_at h h'
  have C := fun w (h : TmV w x va) (h' : TmV w y vb) => compare_at _ x (Nat.le_refl _) y w va vb h h'
  obtain ⟨k, n, s, u, rfl⟩ := hv.four
  obtain ⟨k', n', s', u', rfl⟩ := hv'.four
  have hw : Below w.heap.size w ((w.alloc (box4 k n s u 25)).alloc (box4 k' n' s' u' 25)) := (bel1' w _).alloc (by simp) _
  have hv0 := TmV.ext hw _ _ hv
  have hv0' := TmV.ext hw _ _ hv'
  have HWW := Lib.hid hw
  clear hv hv' hw
  cases hg : (goodT x && goodT y)
  · rw [cmpG_no hg]
    rw [hg] at G
    clear hg C
    go_enter Try.func12, Try.ntmps12
    (go_wp2_with fail; go_fit (G _ hv0 hv0'); rintro e w1 ⟨rfl, b1⟩)
    have B1 := Lib.hid (Ext.trans' HWW.out b1)
    clear b1
    go_wp2
    go_ret
    exact ⟨rfl, B1.out⟩
  · rw [cmpG_ok hg]
    rw [hg] at G
    clear hg
    go_enter Try.func12, Try.ntmps12
    (go_wp2_with fail; go_fit (G _ hv0 hv0'); rintro e w1 ⟨rfl, b1⟩)
    have b1' := Ext.trans' (bel1' (w.alloc (box4 k n s u 25)) (box4 k' n' s' u' 25)) b1
    obtain ⟨d0, d1, d2, d3⟩ := box_cells (w.alloc (box4 k n s u 25)) 25 _ _ _ _ b1
    obtain ⟨c0, c1, c2, c3⟩ := box_cells w 25 _ _ _ _ b1'
    simp only [World.size_alloc] at d0 d1 d2 d3
    (go_wp2_with fail; go_fit (C _ (TmV.ext b1 _ _ hv0) (TmV.ext b1 _ _ hv0')); rintro e w2 ⟨rfl, b2⟩)
    have B2 := Lib.hid (Ext.trans' HWW.out (Ext.trans' b1 b2))
    clear b1 b2
    go_wp2
    go_ret
    exact ⟨rfl, B2.out⟩
end Go.Proofs.Ytnnadmabgaopdaa
