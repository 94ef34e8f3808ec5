import Derived.Test.YtobdhcaoeholhaaGreatDoorHbyaj
import Derived.Test.YtobdhcaoeholhaaGreatDoorHbyal
import Derived.Test.YtobdhcaoeholhaaGreatDoorHbyah
import Derived.Deep.RegionHeld3
import Derived.Laws.StructEq
set_option linter.unusedVariables false
set_option linter.unusedSimpArgs false
/- The project's writer: the operator by which a term is written; its level. -/
namespace Go.Proofs.YtobdhcaoeholhaaGreatDoor
open Go.Shelf Go.RowKit
set_option linter.unusedVariables false
set_option maxRecDepth 100000

theorem wbox_ext_new (w : World) (cs : Array Value) (ty : TypeId) {w' : World} (hb : Below (w.alloc (.cells cs ty)).heap.size (w.alloc (.cells cs ty)) w') : Box w' w.heap.size cs.toList := by
  obtain ⟨w1, rfl, _, _, h⟩ := box_new w cs ty
  exact h.ext hb
theorem wbox_all3 {w : World} {b : Nat} {v0 v1 v2 : Value} (h : Box w b [v0, v1, v2]) (u0 u1 u2 : Value) : Box (set3 w b u0 u1 u2) b [u0, u1, u2] :=
  ((h.set (k := 0) (by simp)).set (k := 1) (by simp)).set (k := 2) (by simp)
theorem one_eta (xs : List O) (n : List UInt8) (d : Int) : ∃ (on ok : ByteArray) (ol : Int) (og : Bool), oneB xs n d = (⟨on, ok, ol⟩, og) := by
  obtain ⟨⟨⟨a, b, c⟩, g⟩, h⟩ : ∃ y, oneB xs n d = y := ⟨_, rfl⟩
  exact ⟨a, b, c, g, h⟩
set_option maxHeartbeats 8000000 in
theorem operator_one {M : Nat → Bool} {w : World} {wb : Nat} {xs : List O} {vs : List Int} {out : List UInt8} (h : Wr M w wb xs vs out) {k n : Int} {s : ByteArray} {y : Tm} {v : Value} (hv : TmV (hide M w) (.mk k n s [y]) v) :
    Calls Tryz.prog 132 #[.pointer (some ⟨wb, 0, none⟩), v] w fun e w' => e = .returned (.tuple #[oVal (opW (preO xs) (betO xs) (.mk k n s [y])).1, .bool (opW (preO xs) (betO xs) (.mk k n s [y])).2]) ∧ Below w.heap.size w w' := by
  obtain ⟨u, rfl, hs, hk64, hn64, hu⟩ := tmV_iff.1 hv
  obtain ⟨au, cu, rfl, hu1, hu2, hu3⟩ := hu.len
  unfold BIG at hu3 hs
  unfold maxLen at hu2
  have hu2' : (1 : Nat) ≤ cu := hu1
  have hu := show Tms (hide M w) (.slice au 1 cu) [y] from hu
  show Calls Tryz.prog 132 #[.pointer (some ⟨wb, 0, none⟩), .agg #[.int .i64 k, .int .i64 n, .string s, .slice au 1 cu]] w _
  obtain ⟨pn, pk, pl, pg, hpre⟩ := one_eta xs (bl s) 1
  obtain ⟨X, hX⟩ : ∃ X, opW (preO xs) (betO xs) (.mk k n s [y]) = X := ⟨_, rfl⟩
  rw [hX]
  rw [opW_one, show preO xs (bl s) = (⟨pn, pk, pl⟩, pg) from hpre] at hX
  obtain ⟨w1, hw1, hb1, hz1, hx1⟩ := box_new w #[.int .i64 k, .int .i64 n, .string s, .slice au 1 cu] 27
  obtain ⟨w2, hw2, hb2, hz2, hx2⟩ := box_new w1 #[.string ⟨#[]⟩, .string ⟨#[]⟩, .int .i64 0] 33
  have hb12 := Ext.trans' hb1 hb2
  have h2 := h.later hb12
  obtain ⟨vo, _, _, o1, _, _, of, po, _, _⟩ := h2.parts
  have hP := fun (wq : World) (hb : Below w2.heap.size w2 wq) => pre_walk (po.ext hb) s
  rw [hpre] at hP
  have HP := Lib.hid hP
  have HQ := Lib.hid (fun (wq : World) (hb : Below w2.heap.size w2 wq) => plain_any s wq (h2.con.err.ext hb) (by omega))
  have HY := Lib.hid ((Tms.later hb12 hu).bare)
  have HX1 := Lib.hid (hx1.ext hb2)
  have HX2 := Lib.hid hx2
  have HXX := Lib.hid hX
  have HB2 := Lib.hid hb12
  obtain ⟨b0, b1, b2, b3, bf⟩ := HX1.out.four
  obtain ⟨r0, r1, r2, rf⟩ := hx2.three
  have hwlt := h2.lt
  have hm1 : wb ≠ w2.heap.size := by omega
  have hm2 : w.heap.size ≠ w2.heap.size := by have := HX1.out.lt; omega
  have hsz1 : w.heap.size ≤ w1.heap.size := by omega
  have HSB := Lib.hid hsz1
  have hn12 : w1.heap.size ≠ w.heap.size := by omega
  clear h hv hu hb1 hb2 hx1 hx2 hz1 hz2 hb12 h2 po hX hpre hP
  go_enter Tryz.func132, Tryz.ntmps132
  go_wp2_with fail
  (try rw [hw1])
  (try rw [hw2])
  clear hw1 hw2
  go_wp2_with fail
  refine wp_region_held_drew (S := fun w' => (w'.cell? ⟨wb, 0, none⟩ = some vo ∧ w'.cell? ⟨w.heap.size, 2, none⟩ = some (.string s)) ∧ Below w2.heap.size w2 w') (by kernel_rfl) ⟨⟨o1, b2⟩, (Below.refl _ _).drew⟩ (fun hHeld => ?_)
  first | (refine held_t (i := 0) hHeld ?_; apply Exists.intro; refine ⟨fun wq hq => ?_, ?_⟩; (focus ((try dsimp only at hq); go_simp; (first | done | with_reducible rfl | fail)))) | refine held_s (i := 0) hHeld ?_ | fail
  first | (refine held_t (i := 1) hHeld ?_; apply Exists.intro; refine ⟨fun wq hq => ?_, ?_⟩; (focus ((try dsimp only at hq); go_simp; (first | done | with_reducible rfl | fail)))) | refine held_s (i := 1) hHeld ?_ | fail
  first | (refine held_t (i := 2) hHeld ?_; apply Exists.intro; refine ⟨fun wq hq => ?_, ?_⟩; (focus ((try dsimp only at hq); go_simp; (first | done | with_reducible rfl | fail)))) | refine held_s (i := 2) hHeld ?_ | fail
  first | (refine held_t (i := 3) hHeld ?_; apply Exists.intro; refine ⟨fun wq hq => ?_, ?_⟩; (focus ((try dsimp only at hq); go_simp; (first | done | with_reducible rfl | fail)))) | refine held_s (i := 3) hHeld ?_ | fail
  first | (refine held_t (i := 4) hHeld ?_; apply Exists.intro; refine ⟨fun wq hq => ?_, ?_⟩; (focus ((try dsimp only at hq); go_simp; (first | done | with_reducible rfl | fail)))) | refine held_s (i := 4) hHeld ?_ | fail
  first | (refine held_t (i := 5) hHeld ?_; apply Exists.intro; refine ⟨fun wq hq => ?_, ?_⟩; (focus ((try dsimp only at hq); go_simp; (first | done | with_reducible rfl | fail)))) | refine held_s (i := 5) hHeld ?_ | fail
  try simp only [Act.put, List.setIfInBounds_toArray, List.set_cons_zero, List.set_cons_succ]
  refine wpAnyH_ready (rs := [6, 10]) (by kernel_rfl) (by simp) ?_
  refine AllReadyH.cons (by simp only [List.getElem?_toArray, List.getElem?_cons_zero, List.getElem?_cons_succ]; rfl) (fun K hK => ?_) (AllReadyH.cons (by simp only [List.getElem?_toArray, List.getElem?_cons_zero, List.getElem?_cons_succ]; rfl) (fun K hK => ?_) AllReadyH.nil)
  · go_simp
    (go_at_call 38; refine (HP.out _ hHeld.2).mono ?_; rintro e w4 ⟨rfl, hb4⟩)
    refine hK.out _ _ (⟨⟨cell_later hb4 hHeld.1.1, cell_later hb4 hHeld.1.2⟩, Ext.trans' hHeld.2 hb4⟩) (fun hHeld => ?_)
    clear hK K
    try simp only [Act.put, List.setIfInBounds_toArray, List.set_cons_zero, List.set_cons_succ]
    have hS4 := hHeld
    first | (refine held_t (i := 7) hHeld ?_; apply Exists.intro; refine ⟨fun wq hq => ?_, ?_⟩; (focus ((try dsimp only at hq); go_simp; (first | done | with_reducible rfl | fail)))) | refine held_s (i := 7) hHeld ?_ | fail
    first | (refine held_t (i := 8) hHeld ?_; apply Exists.intro; refine ⟨fun wq hq => ?_, ?_⟩; (focus ((try dsimp only at hq); go_simp; (first | done | with_reducible rfl | fail)))) | refine held_s (i := 8) hHeld ?_ | fail
    first | (refine held_t (i := 9) hHeld ?_; apply Exists.intro; refine ⟨fun wq hq => ?_, ?_⟩; (focus ((try dsimp only at hq); go_simp; (first | done | with_reducible rfl | fail)))) | refine held_s (i := 9) hHeld ?_ | fail
    try simp only [Act.put, List.setIfInBounds_toArray, List.set_cons_zero, List.set_cons_succ]
    refine held_c 10 fun K hK => ?_
    go_simp
    skip
    refine hK.out _ _ (⟨⟨cell_later (bel1' _ _) hHeld.1.1, cell_later (bel1' _ _) hHeld.1.2⟩, Ext.trans' hHeld.2 (bel1' _ _)⟩) (fun hHeld => ?_)
    clear hK K
    try simp only [Act.put, List.setIfInBounds_toArray, List.set_cons_zero, List.set_cons_succ]
    refine held_c 11 fun K hK => ?_
    go_simp
    skip
    refine hK.out _ _ (⟨⟨cell_later (bel1' _ _) hS4.1.1, cell_later (bel1' _ _) hS4.1.2⟩, Ext.trans' hS4.2 (bel1' _ _)⟩) (fun hHeld => ?_)
    clear hK K
    try simp only [Act.put, List.setIfInBounds_toArray, List.set_cons_zero, List.set_cons_succ]
    first | (refine held_t (i := 12) hHeld ?_; apply Exists.intro; refine ⟨fun wq hq => ?_, ?_⟩; (focus ((try dsimp only at hq); go_simp; (first | done | with_reducible rfl | fail)))) | refine held_s (i := 12) hHeld ?_ | fail
    try simp only [Act.put, List.setIfInBounds_toArray, List.set_cons_zero, List.set_cons_succ]
    refine wpAnyH_done (by kernel_rfl) ?_ _
    have HBX := Lib.hid (wbox_ext_new w4 #[.string pn, .string pk, .int .i64 pl] 33 (Below.refl _ _))
    have HBW := Lib.hid hHeld.2
    clear hHeld hS4 hb4
    generalize World.alloc w4 (.cells #[.string pn, .string pk, .int .i64 pl] 33) = w5 at *
    generalize w4.heap.size = A at *
    have HB3 := Lib.hid (Ext.trans' HB2.out HBW.out)
    clear b0 b1 b2 b3 bf r0 r1 r2 rf o1
    obtain ⟨b0, b1, b2, b3, bf⟩ := (HX1.out.ext HBW.out).four
    obtain ⟨r0, r1, r2, rf⟩ := (HX2.out.ext HBW.out).three
    obtain ⟨x0, x1, x2, xf⟩ := HBX.out.three
    cases pg with
    | false =>
      have HN := Lib.hid (show X = zO from HXX.out.symm.trans rfl)
      go_wp2
      (try simp only [Exit.inBlock, Exit.then])
      refine bodyPost_ret (v := .tuple #[.agg #[.string ⟨#[]⟩, .string ⟨#[]⟩, .int .i64 0], .bool false]) (by rw [results_cell_tmp rfl]; go_simp; (try rfl)) rfl ?_
      rw [HN.out]
      exact ⟨rfl, Below.set3 HB3.out HSB.out _ _ _⟩
    | true =>
      have HQ5 := HQ.out _ HBW.out
      cases hp : plainB (bl s) with
      | false =>
        have HN := Lib.hid (show X = zO from HXX.out.symm.trans (by rw [hp]; rfl))
        rw [hp] at HQ5
        have HQ5 := Lib.hid HQ5
        clear hp
        (go_wp2_with fail; go_fit (HQ5.out); rintro e w6 ⟨rfl, hb6⟩)
        have HB6 := Lib.hid (Ext.trans' HB3.out hb6)
        obtain ⟨r0, r1, r2, rf⟩ := ((HX2.out.ext HBW.out).ext hb6).three
        clear hb6 b0 b1 b2 b3 bf x0 x1 x2 xf
        go_wp2
        (try simp only [Exit.inBlock, Exit.then])
        refine bodyPost_ret (v := .tuple #[.agg #[.string ⟨#[]⟩, .string ⟨#[]⟩, .int .i64 0], .bool false]) (by rw [results_cell_tmp rfl]; go_simp; (try rfl)) rfl ?_
        rw [HN.out]
        exact ⟨rfl, Below.set3 HB6.out HSB.out _ _ _⟩
      | true =>
        rw [hp] at HQ5
        have HQ5 := Lib.hid HQ5
        by_cases hmin : s.toList = [45]
        · have hmt : (s.toList == [45]) = true := beq_iff_eq.2 hmin
          have hmb : (bl s == [45]) = true := by rw [Lib.toList_data] at hmt; exact hmt
          clear hmin
          (go_wp2_with fail; go_fit (HQ5.out); rintro e w6 ⟨rfl, hb6⟩)
          have HB6 := Lib.hid (Ext.trans' HB3.out hb6)
          clear b0 b1 b2 b3 bf x0 x1 x2 xf r0 r1 r2 rf
          obtain ⟨b0, b1, b2, b3, bf⟩ := ((HX1.out.ext HBW.out).ext hb6).four
          obtain ⟨r0, r1, r2, rf⟩ := ((HX2.out.ext HBW.out).ext hb6).three
          obtain ⟨x0, x1, x2, xf⟩ := (HBX.out.ext hb6).three
          obtain ⟨b, off, yk, yn, ys, yu, rfl, hbb, hyk, _, _, c0, c1, c2, c3, _, _⟩ := (((HY.out.ext HBW.out).ext hb6)).get (i := 0) rfl
          replace c0 : w6.cell? ⟨b, off, none⟩ = some (.int .i64 yk) := c0
          clear hb6 c1 c2 c3
          by_cases hk1 : yk = 1
          · have HN := Lib.hid (show X = zO from HXX.out.symm.trans (by rw [hp, hmb, hyk, hk1]; rfl))
            have hkt : (yk == 1) = true := beq_iff_eq.2 hk1
            clear hk1 hp hmb hyk
            go_wp2
            refine bodyPost_ret (v := .tuple #[.agg #[.string ⟨#[]⟩, .string ⟨#[]⟩, .int .i64 0], .bool false]) (by rw [results_cell_tmp rfl]; go_simp; (try rfl)) rfl ?_
            rw [HN.out]
            exact ⟨rfl, Below.set3 HB6.out HSB.out _ _ _⟩
          · have hkt : (yk == 1) = false := beq_false_of_ne hk1
            have HN := Lib.hid (show X = (⟨pn, pk, pl⟩, true) from HXX.out.symm.trans (by rw [hp, hmb, hyk, hkt]; rfl))
            clear hk1 hp hmb hyk
            go_wp2
            refine bodyPost_ret (v := .tuple #[oVal ⟨pn, pk, pl⟩, .bool true]) (by rw [results_cell_tmp rfl]; go_simp) rfl ?_
            rw [HN.out]
            exact ⟨rfl, Below.set3 HB6.out HSB.out _ _ _⟩
        · have hmt : (s.toList == [45]) = false := beq_false_of_ne hmin
          have hmb : (bl s == [45]) = false := by rw [Lib.toList_data] at hmt; exact hmt
          have HN := Lib.hid (show X = (⟨pn, pk, pl⟩, true) from HXX.out.symm.trans (by rw [hp, hmb]; rfl))
          clear hmin hp hmb
          (go_wp2_with fail; go_fit (HQ5.out); rintro e w6 ⟨rfl, hb6⟩)
          have HB6 := Lib.hid (Ext.trans' HB3.out hb6)
          clear b0 b1 b2 b3 bf x0 x1 x2 xf r0 r1 r2 rf
          obtain ⟨b0, b1, b2, b3, bf⟩ := ((HX1.out.ext HBW.out).ext hb6).four
          obtain ⟨r0, r1, r2, rf⟩ := ((HX2.out.ext HBW.out).ext hb6).three
          obtain ⟨x0, x1, x2, xf⟩ := (HBX.out.ext hb6).three
          clear hb6
          go_wp2
          refine bodyPost_ret (v := .tuple #[oVal ⟨pn, pk, pl⟩, .bool true]) (by rw [results_cell_tmp rfl]; go_simp) rfl ?_
          rw [HN.out]
          exact ⟨rfl, Below.set3 HB6.out HSB.out _ _ _⟩
  · go_simp
    skip
    refine hK.out _ _ (⟨⟨cell_later (bel1' _ _) hHeld.1.1, cell_later (bel1' _ _) hHeld.1.2⟩, Ext.trans' hHeld.2 (bel1' _ _)⟩) (fun hHeld => ?_)
    clear hK K
    try simp only [Act.put, List.setIfInBounds_toArray, List.set_cons_zero, List.set_cons_succ]
    refine held_c 6 fun K hK => ?_
    go_simp
    (go_at_call 38; refine (HP.out _ hHeld.2).mono ?_; rintro e w7 ⟨rfl, hb7⟩; have hbx : Box w7 w2.heap.size [.string ⟨#[]⟩, .string ⟨#[]⟩, .int .i64 0] := wbox_ext_new w2.drew _ _ hb7; obtain ⟨e0, e1, e2, ef⟩ := hbx.three)
    refine hK.out _ _ (⟨⟨cell_later hb7 hHeld.1.1, cell_later hb7 hHeld.1.2⟩, Ext.trans' hHeld.2 hb7⟩) (fun hHeld => ?_)
    clear hK K
    try simp only [Act.put, List.setIfInBounds_toArray, List.set_cons_zero, List.set_cons_succ]
    first | (refine held_t (i := 7) hHeld ?_; apply Exists.intro; refine ⟨fun wq hq => ?_, ?_⟩; (focus ((try dsimp only at hq); go_simp; (first | done | with_reducible rfl | fail)))) | refine held_s (i := 7) hHeld ?_ | fail
    first | (refine held_t (i := 8) hHeld ?_; apply Exists.intro; refine ⟨fun wq hq => ?_, ?_⟩; (focus ((try dsimp only at hq); go_simp; (first | done | with_reducible rfl | fail)))) | refine held_s (i := 8) hHeld ?_ | fail
    first | (refine held_t (i := 9) hHeld ?_; apply Exists.intro; refine ⟨fun wq hq => ?_, ?_⟩; (focus ((try dsimp only at hq); go_simp; (first | done | with_reducible rfl | fail)))) | refine held_s (i := 9) hHeld ?_ | fail
    try simp only [Act.put, List.setIfInBounds_toArray, List.set_cons_zero, List.set_cons_succ]
    refine held_c 11 fun K hK => ?_
    go_simp
    skip
    refine hK.out _ _ (⟨⟨far3 hHeld.1.1 hm1 _ _ _, far3 hHeld.1.2 hm2 _ _ _⟩, Below.set3 hHeld.2 (Nat.le_refl _) _ _ _⟩) (fun hHeld => ?_)
    clear hK K
    try simp only [Act.put, List.setIfInBounds_toArray, List.set_cons_zero, List.set_cons_succ]
    first | (refine held_t (i := 12) hHeld ?_; apply Exists.intro; refine ⟨fun wq hq => ?_, ?_⟩; (focus ((try dsimp only at hq); go_simp; (first | done | with_reducible rfl | fail)))) | refine held_s (i := 12) hHeld ?_ | fail
    try simp only [Act.put, List.setIfInBounds_toArray, List.set_cons_zero, List.set_cons_succ]
    refine wpAnyH_done (by kernel_rfl) ?_ _
    have HBX := Lib.hid (show Box (((w7.setCell ⟨w2.heap.size, 0, none⟩ (.string pn)).setCell ⟨w2.heap.size, 1, none⟩ (.string pk)).setCell ⟨w2.heap.size, 2, none⟩ (.int .i64 pl)) w2.heap.size [.string pn, .string pk, .int .i64 pl] from wbox_all3 hbx (.string pn) (.string pk) (.int .i64 pl))
    have HBW := Lib.hid (show Below w2.heap.size w2 (((w7.setCell ⟨w2.heap.size, 0, none⟩ (.string pn)).setCell ⟨w2.heap.size, 1, none⟩ (.string pk)).setCell ⟨w2.heap.size, 2, none⟩ (.int .i64 pl)) from hHeld.2)
    clear hHeld hb7 hbx e0 e1 e2 ef
    generalize (((w7.setCell ⟨w2.heap.size, 0, none⟩ (.string pn)).setCell ⟨w2.heap.size, 1, none⟩ (.string pk)).setCell ⟨w2.heap.size, 2, none⟩ (.int .i64 pl)) = w5 at *
    generalize hA : w2.heap.size = A at HBX
    clear hA
    have HB3 := Lib.hid (Ext.trans' HB2.out HBW.out)
    clear b0 b1 b2 b3 bf r0 r1 r2 rf o1
    obtain ⟨b0, b1, b2, b3, bf⟩ := (HX1.out.ext HBW.out).four
    obtain ⟨r0, r1, r2, rf⟩ := (HX2.out.ext HBW.out).three
    obtain ⟨x0, x1, x2, xf⟩ := HBX.out.three
    cases pg with
    | false =>
      have HN := Lib.hid (show X = zO from HXX.out.symm.trans rfl)
      go_wp2
      (try simp only [Exit.inBlock, Exit.then])
      refine bodyPost_ret (v := .tuple #[.agg #[.string ⟨#[]⟩, .string ⟨#[]⟩, .int .i64 0], .bool false]) (by rw [results_cell_tmp rfl]; go_simp; (try rfl)) rfl ?_
      rw [HN.out]
      exact ⟨rfl, Below.set3 HB3.out HSB.out _ _ _⟩
    | true =>
      have HQ5 := HQ.out _ HBW.out
      cases hp : plainB (bl s) with
      | false =>
        have HN := Lib.hid (show X = zO from HXX.out.symm.trans (by rw [hp]; rfl))
        rw [hp] at HQ5
        have HQ5 := Lib.hid HQ5
        clear hp
        (go_wp2_with fail; go_fit (HQ5.out); rintro e w6 ⟨rfl, hb6⟩)
        have HB6 := Lib.hid (Ext.trans' HB3.out hb6)
        obtain ⟨r0, r1, r2, rf⟩ := ((HX2.out.ext HBW.out).ext hb6).three
        clear hb6 b0 b1 b2 b3 bf x0 x1 x2 xf
        go_wp2
        (try simp only [Exit.inBlock, Exit.then])
        refine bodyPost_ret (v := .tuple #[.agg #[.string ⟨#[]⟩, .string ⟨#[]⟩, .int .i64 0], .bool false]) (by rw [results_cell_tmp rfl]; go_simp; (try rfl)) rfl ?_
        rw [HN.out]
        exact ⟨rfl, Below.set3 HB6.out HSB.out _ _ _⟩
      | true =>
        rw [hp] at HQ5
        have HQ5 := Lib.hid HQ5
        by_cases hmin : s.toList = [45]
        · have hmt : (s.toList == [45]) = true := beq_iff_eq.2 hmin
          have hmb : (bl s == [45]) = true := by rw [Lib.toList_data] at hmt; exact hmt
          clear hmin
          (go_wp2_with fail; go_fit (HQ5.out); rintro e w6 ⟨rfl, hb6⟩)
          have HB6 := Lib.hid (Ext.trans' HB3.out hb6)
          clear b0 b1 b2 b3 bf x0 x1 x2 xf r0 r1 r2 rf
          obtain ⟨b0, b1, b2, b3, bf⟩ := ((HX1.out.ext HBW.out).ext hb6).four
          obtain ⟨r0, r1, r2, rf⟩ := ((HX2.out.ext HBW.out).ext hb6).three
          obtain ⟨x0, x1, x2, xf⟩ := (HBX.out.ext hb6).three
          obtain ⟨b, off, yk, yn, ys, yu, rfl, hbb, hyk, _, _, c0, c1, c2, c3, _, _⟩ := (((HY.out.ext HBW.out).ext hb6)).get (i := 0) rfl
          replace c0 : w6.cell? ⟨b, off, none⟩ = some (.int .i64 yk) := c0
          clear hb6 c1 c2 c3
          by_cases hk1 : yk = 1
          · have HN := Lib.hid (show X = zO from HXX.out.symm.trans (by rw [hp, hmb, hyk, hk1]; rfl))
            have hkt : (yk == 1) = true := beq_iff_eq.2 hk1
            clear hk1 hp hmb hyk
            go_wp2
            refine bodyPost_ret (v := .tuple #[.agg #[.string ⟨#[]⟩, .string ⟨#[]⟩, .int .i64 0], .bool false]) (by rw [results_cell_tmp rfl]; go_simp; (try rfl)) rfl ?_
            rw [HN.out]
            exact ⟨rfl, Below.set3 HB6.out HSB.out _ _ _⟩
          · have hkt : (yk == 1) = false := beq_false_of_ne hk1
            have HN := Lib.hid (show X = (⟨pn, pk, pl⟩, true) from HXX.out.symm.trans (by rw [hp, hmb, hyk, hkt]; rfl))
            clear hk1 hp hmb hyk
            go_wp2
            refine bodyPost_ret (v := .tuple #[oVal ⟨pn, pk, pl⟩, .bool true]) (by rw [results_cell_tmp rfl]; go_simp) rfl ?_
            rw [HN.out]
            exact ⟨rfl, Below.set3 HB6.out HSB.out _ _ _⟩
        · have hmt : (s.toList == [45]) = false := beq_false_of_ne hmin
          have hmb : (bl s == [45]) = false := by rw [Lib.toList_data] at hmt; exact hmt
          have HN := Lib.hid (show X = (⟨pn, pk, pl⟩, true) from HXX.out.symm.trans (by rw [hp, hmb]; rfl))
          clear hmin hp hmb
          (go_wp2_with fail; go_fit (HQ5.out); rintro e w6 ⟨rfl, hb6⟩)
          have HB6 := Lib.hid (Ext.trans' HB3.out hb6)
          clear b0 b1 b2 b3 bf x0 x1 x2 xf r0 r1 r2 rf
          obtain ⟨b0, b1, b2, b3, bf⟩ := ((HX1.out.ext HBW.out).ext hb6).four
          obtain ⟨r0, r1, r2, rf⟩ := ((HX2.out.ext HBW.out).ext hb6).three
          obtain ⟨x0, x1, x2, xf⟩ := (HBX.out.ext hb6).three
          clear hb6
          go_wp2
          refine bodyPost_ret (v := .tuple #[oVal ⟨pn, pk, pl⟩, .bool true]) (by rw [results_cell_tmp rfl]; go_simp) rfl ?_
          rw [HN.out]
          exact ⟨rfl, Below.set3 HB6.out HSB.out _ _ _⟩

set_option maxHeartbeats 8000000 in
theorem operator_two {M : Nat → Bool} {w : World} {wb : Nat} {xs : List O} {vs : List Int} {out : List UInt8} (h : Wr M w wb xs vs out) {k n : Int} {s : ByteArray} {y z : Tm} {v : Value} (hv : TmV (hide M w) (.mk k n s [y, z]) v) :
    Calls Tryz.prog 132 #[.pointer (some ⟨wb, 0, none⟩), v] w fun e w' => e = .returned (.tuple #[oVal (opW (preO xs) (betO xs) (.mk k n s [y, z])).1, .bool (opW (preO xs) (betO xs) (.mk k n s [y, z])).2]) ∧ Below w.heap.size w w' := by
  obtain ⟨u, rfl, hs, hk64, hn64, hu⟩ := tmV_iff.1 hv
  obtain ⟨au, cu, rfl, hu1, hu2, hu3⟩ := hu.len
  unfold BIG at hu3 hs
  unfold maxLen at hu2
  have hu2' : (2 : Nat) ≤ cu := hu1
  show Calls Tryz.prog 132 #[.pointer (some ⟨wb, 0, none⟩), .agg #[.int .i64 k, .int .i64 n, .string s, .slice au 2 cu]] w _
  obtain ⟨pn, pk, pl, pg, hpre⟩ := one_eta xs (bl s) 2
  obtain ⟨X, hX⟩ : ∃ X, opW (preO xs) (betO xs) (.mk k n s [y, z]) = X := ⟨_, rfl⟩
  rw [hX]
  rw [opW_two, show betO xs (bl s) = (⟨pn, pk, pl⟩, pg) from hpre] at hX
  obtain ⟨w1, hw1, hb1, hz1, hx1⟩ := box_new w #[.int .i64 k, .int .i64 n, .string s, .slice au 2 cu] 27
  obtain ⟨w2, hw2, hb2, hz2, hx2⟩ := box_new w1 #[.string ⟨#[]⟩, .string ⟨#[]⟩, .int .i64 0] 33
  have hb12 := Ext.trans' hb1 hb2
  have h2 := h.later hb12
  obtain ⟨vo, _, _, o1, _, _, of, po, _, _⟩ := h2.parts
  have hP := fun (wq : World) (hb : Below w2.heap.size w2 wq) => in_walk (po.ext hb) s
  rw [hpre] at hP
  have HP := Lib.hid hP
  have HX1 := Lib.hid (hx1.ext hb2)
  have HX2 := Lib.hid hx2
  have HXX := Lib.hid hX
  have HB2 := Lib.hid hb12
  obtain ⟨b0, b1, b2, b3, bf⟩ := HX1.out.four
  obtain ⟨r0, r1, r2, rf⟩ := hx2.three
  have hwlt := h.lt
  have hm1 : wb ≠ w1.heap.size := by omega
  have hm2 : w.heap.size ≠ w1.heap.size := by omega
  have hsz1 : w.heap.size ≤ w1.heap.size := by omega
  have HSB := Lib.hid hsz1
  clear h hv hu hb1 hb2 hx1 hx2 hz1 hz2 hb12 h2 po hX hpre hP
  by_cases hdot : s.toList = [46]
  · have hmt : (s.toList == [46]) = true := beq_iff_eq.2 hdot
    have hmb : (bl s == [46]) = true := by rw [Lib.toList_data] at hmt; exact hmt
    have HN := Lib.hid (show X = zO from HXX.out.symm.trans (by rw [hmb]; rfl))
    clear hdot hmb
    go_enter Tryz.func132, Tryz.ntmps132
    go_wp2_with fail
    (try rw [hw1])
    (try rw [hw2])
    clear hw1 hw2
    go_wp2
    (try simp only [Exit.inBlock, Exit.then])
    refine bodyPost_ret (v := .tuple #[.agg #[.string ⟨#[]⟩, .string ⟨#[]⟩, .int .i64 0], .bool false]) (by rw [results_cell_tmp rfl]; go_simp; (try rfl)) rfl ?_
    rw [HN.out]
    exact ⟨rfl, Below.set3 HB2.out HSB.out _ _ _⟩
  · have hmt : (s.toList == [46]) = false := beq_false_of_ne hdot
    have hmb : (bl s == [46]) = false := by rw [Lib.toList_data] at hmt; exact hmt
    have HN := Lib.hid (show X = (⟨pn, pk, pl⟩, pg) from HXX.out.symm.trans (by rw [hmb]; rfl))
    clear hdot hmb
    go_enter Tryz.func132, Tryz.ntmps132
    go_wp2_with fail
    (try rw [hw1])
    (try rw [hw2])
    clear hw1 hw2
    go_wp2_with fail
    refine wp_region_held_drew (S := fun w' => w'.cell? ⟨wb, 0, none⟩ = some vo ∧ w'.cell? ⟨w.heap.size, 2, none⟩ = some (.string s)) (by kernel_rfl) ⟨o1, b2⟩ (fun hHeld => ?_)
    first | (refine held_t (i := 0) hHeld ?_; apply Exists.intro; refine ⟨fun wq hq => ?_, ?_⟩; (focus ((try dsimp only at hq); go_simp; (first | done | with_reducible rfl | fail)))) | refine held_s (i := 0) hHeld ?_ | fail
    first | (refine held_t (i := 1) hHeld ?_; apply Exists.intro; refine ⟨fun wq hq => ?_, ?_⟩; (focus ((try dsimp only at hq); go_simp; (first | done | with_reducible rfl | fail)))) | refine held_s (i := 1) hHeld ?_ | fail
    first | (refine held_t (i := 2) hHeld ?_; apply Exists.intro; refine ⟨fun wq hq => ?_, ?_⟩; (focus ((try dsimp only at hq); go_simp; (first | done | with_reducible rfl | fail)))) | refine held_s (i := 2) hHeld ?_ | fail
    first | (refine held_t (i := 3) hHeld ?_; apply Exists.intro; refine ⟨fun wq hq => ?_, ?_⟩; (focus ((try dsimp only at hq); go_simp; (first | done | with_reducible rfl | fail)))) | refine held_s (i := 3) hHeld ?_ | fail
    first | (refine held_t (i := 4) hHeld ?_; apply Exists.intro; refine ⟨fun wq hq => ?_, ?_⟩; (focus ((try dsimp only at hq); go_simp; (first | done | with_reducible rfl | fail)))) | refine held_s (i := 4) hHeld ?_ | fail
    first | (refine held_t (i := 5) hHeld ?_; apply Exists.intro; refine ⟨fun wq hq => ?_, ?_⟩; (focus ((try dsimp only at hq); go_simp; (first | done | with_reducible rfl | fail)))) | refine held_s (i := 5) hHeld ?_ | fail
    try simp only [Act.put, List.setIfInBounds_toArray, List.set_cons_zero, List.set_cons_succ]
    refine held_c 6 fun K hK => ?_
    go_simp
    (go_at_call 37; refine (HP.out _ (Below.refl _ _).drew).mono ?_; rintro e w7 ⟨rfl, hb7⟩; have hbr : Box w7 w1.heap.size [.string ⟨#[]⟩, .string ⟨#[]⟩, .int .i64 0] := HX2.out.ext (Ext.trans' (Below.refl _ _).drew hb7); obtain ⟨e0, e1, e2, ef⟩ := hbr.three)
    refine hK.out _ _ (⟨cell_later hb7 hHeld.1, cell_later hb7 hHeld.2⟩) (fun hHeld => ?_)
    clear hK K
    try simp only [Act.put, List.setIfInBounds_toArray, List.set_cons_zero, List.set_cons_succ]
    first | (refine held_t (i := 7) hHeld ?_; apply Exists.intro; refine ⟨fun wq hq => ?_, ?_⟩; (focus ((try dsimp only at hq); go_simp; (first | done | with_reducible rfl | fail)))) | refine held_s (i := 7) hHeld ?_ | fail
    first | (refine held_t (i := 8) hHeld ?_; apply Exists.intro; refine ⟨fun wq hq => ?_, ?_⟩; (focus ((try dsimp only at hq); go_simp; (first | done | with_reducible rfl | fail)))) | refine held_s (i := 8) hHeld ?_ | fail
    try simp only [Act.put, List.setIfInBounds_toArray, List.set_cons_zero, List.set_cons_succ]
    refine held_c 9 fun K hK => ?_
    go_simp
    skip
    refine hK.out _ _ (⟨far3 hHeld.1 hm1 _ _ _, far3 hHeld.2 hm2 _ _ _⟩) (fun hHeld => ?_)
    clear hK K
    try simp only [Act.put, List.setIfInBounds_toArray, List.set_cons_zero, List.set_cons_succ]
    first | (refine held_t (i := 10) hHeld ?_; apply Exists.intro; refine ⟨fun wq hq => ?_, ?_⟩; (focus ((try dsimp only at hq); go_simp; (first | done | with_reducible rfl | fail)))) | refine held_s (i := 10) hHeld ?_ | fail
    try simp only [Act.put, List.setIfInBounds_toArray, List.set_cons_zero, List.set_cons_succ]
    refine wpAnyH_done (by kernel_rfl) ?_ _
    have HB8 := Lib.hid (show Below w.heap.size w (((w7.setCell ⟨w1.heap.size, 0, none⟩ (.string pn)).setCell ⟨w1.heap.size, 1, none⟩ (.string pk)).setCell ⟨w1.heap.size, 2, none⟩ (.int .i64 pl)) from Below.set3 (Ext.trans' HB2.out (Ext.trans' (Below.refl _ _).drew hb7)) HSB.out _ _ _)
    obtain ⟨q0, q1, q2, qf⟩ := (show Box (((w7.setCell ⟨w1.heap.size, 0, none⟩ (.string pn)).setCell ⟨w1.heap.size, 1, none⟩ (.string pk)).setCell ⟨w1.heap.size, 2, none⟩ (.int .i64 pl)) w1.heap.size [.string pn, .string pk, .int .i64 pl] from wbox_all3 hbr (.string pn) (.string pk) (.int .i64 pl)).three
    clear hHeld hb7 hbr e0 e1 e2 ef r0 r1 r2 rf b0 b1 b2 b3 bf o1
    generalize (((w7.setCell ⟨w1.heap.size, 0, none⟩ (.string pn)).setCell ⟨w1.heap.size, 1, none⟩ (.string pk)).setCell ⟨w1.heap.size, 2, none⟩ (.int .i64 pl)) = w8 at *
    go_wp2
    (try simp only [Exit.inBlock, Exit.then])
    refine bodyPost_ret (v := .tuple #[oVal ⟨pn, pk, pl⟩, .bool pg]) (by rw [results_cell_tmp rfl]; go_simp) rfl ?_
    rw [HN.out]
    exact ⟨rfl, HB8.out⟩
set_option maxHeartbeats 4000000 in
theorem operator_other {M : Nat → Bool} {w : World} {wb : Nat} {xs : List O} {vs : List Int} {out : List UInt8} (h : Wr M w wb xs vs out) {k n : Int} {s : ByteArray} {ts : List Tm} (h1 : ts.length ≠ 1) (h2 : ts.length ≠ 2) {v : Value} (hv : TmV (hide M w) (.mk k n s ts) v) :
    Calls Tryz.prog 132 #[.pointer (some ⟨wb, 0, none⟩), v] w fun e w' => e = .returned (.tuple #[oVal (opW (preO xs) (betO xs) (.mk k n s ts)).1, .bool (opW (preO xs) (betO xs) (.mk k n s ts)).2]) ∧ Below w.heap.size w w' := by
  obtain ⟨u, rfl, hs, hk64, hn64, hu⟩ := tmV_iff.1 hv
  obtain ⟨au, cu, rfl, hu1, hu2, hu3⟩ := hu.len
  unfold BIG at hu3 hs
  unfold maxLen at hu2
  have hX : opW (preO xs) (betO xs) (.mk k n s ts) = zO := by
    match ts, h1, h2 with
    | [], _, _ => rfl
    | [_], h1, _ => exact absurd rfl h1
    | [_, _], _, h2 => exact absurd rfl h2
    | _ :: _ :: _ :: _, _, _ => rfl
  rw [hX]
  obtain ⟨m, hm⟩ : ∃ m, ts.length = m := ⟨_, rfl⟩
  rw [hm] at h1 h2 hu1 hu3
  rw [hm]
  have hm1 : ((m : Int) == 1) = false := beq_false_of_ne (by omega)
  have hm2 : ((m : Int) == 2) = false := beq_false_of_ne (by omega)
  obtain ⟨w1, hw1, hb1, hz1, hx1⟩ := box_new w #[.int .i64 k, .int .i64 n, .string s, .slice au m cu] 27
  obtain ⟨w2, hw2, hb2, hz2, hx2⟩ := box_new w1 #[.string ⟨#[]⟩, .string ⟨#[]⟩, .int .i64 0] 33
  have HB2 := Lib.hid (Ext.trans' hb1 hb2)
  obtain ⟨b0, b1, b2, b3, bf⟩ := (hx1.ext hb2).four
  obtain ⟨r0, r1, r2, rf⟩ := hx2.three
  have hsz1 : w.heap.size ≤ w1.heap.size := by omega
  have HSB := Lib.hid hsz1
  clear h hv hu hb1 hb2 hx1 hx2 hz1 hz2 hX hm h1 h2
  go_enter Tryz.func132, Tryz.ntmps132
  go_wp2_with fail
  (try rw [hw1])
  (try rw [hw2])
  clear hw1 hw2
  go_wp2
  (try simp only [Exit.inBlock, Exit.then])
  refine bodyPost_ret (v := .tuple #[.agg #[.string ⟨#[]⟩, .string ⟨#[]⟩, .int .i64 0], .bool false]) (by rw [results_cell_tmp rfl]; go_simp; (try rfl)) rfl ?_
  exact ⟨rfl, Below.set3 HB2.out HSB.out _ _ _⟩
theorem operator_at {M : Nat → Bool} {w : World} {wb : Nat} {xs : List O} {vs : List Int} {out : List UInt8} (h : Wr M w wb xs vs out) {x : Tm} {v : Value} (hv : TmV (hide M w) x v) :
    Calls Tryz.prog 132 #[.pointer (some ⟨wb, 0, none⟩), v] w fun e w' => e = .returned (.tuple #[oVal (opW (preO xs) (betO xs) x).1, .bool (opW (preO xs) (betO xs) x).2]) ∧ Below w.heap.size w w' := by
  match x, hv with
  | .mk k n s [], hv => exact operator_other h (by simp) (by simp) hv
  | .mk k n s [y], hv => exact operator_one h hv
  | .mk k n s [y, z], hv => exact operator_two h hv
  | .mk k n s (a :: b :: c :: r), hv => exact operator_other h (by simp) (by simp) hv
set_option maxHeartbeats 8000000 in
theorem level_atom {M : Nat → Bool} {w : World} {wb : Nat} {xs : List O} {vs : List Int} {out : List UInt8} (h : Wr M w wb xs vs out) {n : Int} {s : ByteArray} {v : Value} (hv : TmV (hide M w) (.mk 2 n s []) v) :
    Calls Tryz.prog 89 #[.pointer (some ⟨wb, 0, none⟩), v] w fun e w' => e = .returned (.int .i64 (levW (preO xs) (betO xs) (.mk 2 n s []))) ∧ Below w.heap.size w w' := by
  obtain ⟨u, rfl, hs, hk64, hn64, hu⟩ := tmV_iff.1 hv
  obtain ⟨au, cu, rfl, hu1, hu2, hu3⟩ := hu.len
  unfold BIG at hu3 hs
  unfold maxLen at hu2
  show Calls Tryz.prog 89 #[.pointer (some ⟨wb, 0, none⟩), .agg #[.int .i64 2, .int .i64 n, .string s, .slice au 0 cu]] w _
  obtain ⟨pn, pk, pl, pg, hpre⟩ := one_eta xs (bl s) 1
  obtain ⟨bn, bk, bv, bg, hbet⟩ := one_eta xs (bl s) 2
  have hX : levW (preO xs) (betO xs) (.mk 2 n s []) = max pl bv := by
    show max (preO xs (bl s)).1.l (betO xs (bl s)).1.l = _
    rw [show preO xs (bl s) = (⟨pn, pk, pl⟩, pg) from hpre, show betO xs (bl s) = (⟨bn, bk, bv⟩, bg) from hbet]
  rw [hX]
  obtain ⟨w1, hw1, hb1, hz1, hx1⟩ := box_new w #[.int .i64 2, .int .i64 n, .string s, .slice au 0 cu] 27
  have h2 := h.later hb1
  obtain ⟨vo, _, _, o1, _, _, of, po, _, _⟩ := h2.parts
  have hP := fun (wq : World) (hb : Below w1.heap.size w1 wq) => pre_walk (po.ext hb) s
  have hQ := fun (wq : World) (hb : Below w1.heap.size w1 wq) => in_walk (po.ext hb) s
  rw [hpre] at hP
  rw [hbet] at hQ
  have HP := Lib.hid hP
  have HQ := Lib.hid hQ
  have HX1 := Lib.hid hx1
  have HB1 := Lib.hid hb1
  have HO1 := Lib.hid o1
  obtain ⟨b0, b1, b2, b3, bf⟩ := hx1.four
  have hwlt := h.lt
  have hm1 : wb ≠ w1.heap.size := by omega
  have hm2 : w.heap.size ≠ w1.heap.size := by omega
  have HWL := Lib.hid hwlt
  clear h hv hu hb1 hx1 hz1 h2 po hX hpre hbet hP hQ
  go_enter Tryz.func89, Tryz.ntmps89
  go_wp2_with fail
  (try rw [hw1])
  clear hw1
  go_wp2_with fail
  refine wp_region_held_drew (S := fun w' => (w'.cell? ⟨wb, 0, none⟩ = some vo ∧ w'.cell? ⟨w.heap.size, 2, none⟩ = some (.string s)) ∧ Below w1.heap.size w1 w') (by kernel_rfl) ⟨⟨o1, b2⟩, (Below.refl _ _).drew⟩ (fun hHeld => ?_)
  first | (refine held_t (i := 0) hHeld ?_; apply Exists.intro; refine ⟨fun wq hq => ?_, ?_⟩; (focus ((try dsimp only at hq); go_simp; (first | done | with_reducible rfl | fail)))) | refine held_s (i := 0) hHeld ?_ | fail
  first | (refine held_t (i := 1) hHeld ?_; apply Exists.intro; refine ⟨fun wq hq => ?_, ?_⟩; (focus ((try dsimp only at hq); go_simp; (first | done | with_reducible rfl | fail)))) | refine held_s (i := 1) hHeld ?_ | fail
  first | (refine held_t (i := 2) hHeld ?_; apply Exists.intro; refine ⟨fun wq hq => ?_, ?_⟩; (focus ((try dsimp only at hq); go_simp; (first | done | with_reducible rfl | fail)))) | refine held_s (i := 2) hHeld ?_ | fail
  first | (refine held_t (i := 3) hHeld ?_; apply Exists.intro; refine ⟨fun wq hq => ?_, ?_⟩; (focus ((try dsimp only at hq); go_simp; (first | done | with_reducible rfl | fail)))) | refine held_s (i := 3) hHeld ?_ | fail
  first | (refine held_t (i := 4) hHeld ?_; apply Exists.intro; refine ⟨fun wq hq => ?_, ?_⟩; (focus ((try dsimp only at hq); go_simp; (first | done | with_reducible rfl | fail)))) | refine held_s (i := 4) hHeld ?_ | fail
  first | (refine held_t (i := 5) hHeld ?_; apply Exists.intro; refine ⟨fun wq hq => ?_, ?_⟩; (focus ((try dsimp only at hq); go_simp; (first | done | with_reducible rfl | fail)))) | refine held_s (i := 5) hHeld ?_ | fail
  try simp only [Act.put, List.setIfInBounds_toArray, List.set_cons_zero, List.set_cons_succ]
  refine wpAnyH_ready (rs := [6, 10]) (by kernel_rfl) (by simp) ?_
  refine AllReadyH.cons (by simp only [List.getElem?_toArray, List.getElem?_cons_zero, List.getElem?_cons_succ]; rfl) (fun K hK => ?_) (AllReadyH.cons (by simp only [List.getElem?_toArray, List.getElem?_cons_zero, List.getElem?_cons_succ]; rfl) (fun K hK => ?_) AllReadyH.nil)
  · go_simp
    (go_at_call 38; refine (HP.out _ hHeld.2).mono ?_; rintro e w4 ⟨rfl, hb4⟩)
    refine hK.out _ _ (⟨⟨cell_later hb4 hHeld.1.1, cell_later hb4 hHeld.1.2⟩, Ext.trans' hHeld.2 hb4⟩) (fun hHeld => ?_)
    clear hK K
    try simp only [Act.put, List.setIfInBounds_toArray, List.set_cons_zero, List.set_cons_succ]
    have hS4 := hHeld
    first | (refine held_t (i := 7) hHeld ?_; apply Exists.intro; refine ⟨fun wq hq => ?_, ?_⟩; (focus ((try dsimp only at hq); go_simp; (first | done | with_reducible rfl | fail)))) | refine held_s (i := 7) hHeld ?_ | fail
    first | (refine held_t (i := 8) hHeld ?_; apply Exists.intro; refine ⟨fun wq hq => ?_, ?_⟩; (focus ((try dsimp only at hq); go_simp; (first | done | with_reducible rfl | fail)))) | refine held_s (i := 8) hHeld ?_ | fail
    first | (refine held_t (i := 9) hHeld ?_; apply Exists.intro; refine ⟨fun wq hq => ?_, ?_⟩; (focus ((try dsimp only at hq); go_simp; (first | done | with_reducible rfl | fail)))) | refine held_s (i := 9) hHeld ?_ | fail
    try simp only [Act.put, List.setIfInBounds_toArray, List.set_cons_zero, List.set_cons_succ]
    refine held_c 10 fun K hK => ?_
    go_simp
    skip
    refine hK.out _ _ (⟨⟨cell_later (bel1' _ _) hHeld.1.1, cell_later (bel1' _ _) hHeld.1.2⟩, Ext.trans' hHeld.2 (bel1' _ _)⟩) (fun hHeld => ?_)
    clear hK K
    try simp only [Act.put, List.setIfInBounds_toArray, List.set_cons_zero, List.set_cons_succ]
    refine held_c 11 fun K hK => ?_
    go_simp
    skip
    refine hK.out _ _ (⟨⟨cell_later (bel1' _ _) hS4.1.1, cell_later (bel1' _ _) hS4.1.2⟩, Ext.trans' hS4.2 (bel1' _ _)⟩) (fun hHeld => ?_)
    clear hK K
    try simp only [Act.put, List.setIfInBounds_toArray, List.set_cons_zero, List.set_cons_succ]
    first | (refine held_t (i := 12) hHeld ?_; apply Exists.intro; refine ⟨fun wq hq => ?_, ?_⟩; (focus ((try dsimp only at hq); go_simp; (first | done | with_reducible rfl | fail)))) | refine held_s (i := 12) hHeld ?_ | fail
    try simp only [Act.put, List.setIfInBounds_toArray, List.set_cons_zero, List.set_cons_succ]
    refine wpAnyH_done (by kernel_rfl) ?_ _
    have HBX := Lib.hid (wbox_ext_new w4 #[.string pn, .string pk, .int .i64 pl] 33 (Below.refl _ _))
    have HBW := Lib.hid hHeld.2
    clear hHeld hS4 hb4
    generalize World.alloc w4 (.cells #[.string pn, .string pk, .int .i64 pl] 33) = w5 at *
    generalize w4.heap.size = A at *
    clear b0 b1 b2 b3 bf o1
    have HBY := HBX
    have HBV := HBW
    clear HBX HBW hm1 hm2
    obtain ⟨b0, b1, b2, b3, bf⟩ := (HX1.out.ext HBV.out).four
    have o1 := cell_later HBV.out HO1.out
    have hm1 : wb ≠ w5.heap.size := by have := HBV.out.size; have := HWL.out; have := HX1.out.lt; omega
    have hm2 : w.heap.size ≠ w5.heap.size := by have := HBV.out.size; have := HX1.out.lt; omega
    have HP2 := Lib.hid (fun wq (hb : Below w5.heap.size w5 wq) => HQ.out wq (Ext.trans' HBV.out hb))
    go_wp2_with fail
    refine wp_region_held_drew (S := fun w' => (w'.cell? ⟨wb, 0, none⟩ = some vo ∧ w'.cell? ⟨w.heap.size, 2, none⟩ = some (.string s)) ∧ Below w5.heap.size w5 w') (by kernel_rfl) ⟨⟨o1, b2⟩, (Below.refl _ _).drew⟩ (fun hHeld => ?_)
    first | (refine held_t (i := 0) hHeld ?_; apply Exists.intro; refine ⟨fun wq hq => ?_, ?_⟩; (focus ((try dsimp only at hq); go_simp; (first | done | with_reducible rfl | fail)))) | refine held_s (i := 0) hHeld ?_ | fail
    first | (refine held_t (i := 1) hHeld ?_; apply Exists.intro; refine ⟨fun wq hq => ?_, ?_⟩; (focus ((try dsimp only at hq); go_simp; (first | done | with_reducible rfl | fail)))) | refine held_s (i := 1) hHeld ?_ | fail
    first | (refine held_t (i := 2) hHeld ?_; apply Exists.intro; refine ⟨fun wq hq => ?_, ?_⟩; (focus ((try dsimp only at hq); go_simp; (first | done | with_reducible rfl | fail)))) | refine held_s (i := 2) hHeld ?_ | fail
    first | (refine held_t (i := 3) hHeld ?_; apply Exists.intro; refine ⟨fun wq hq => ?_, ?_⟩; (focus ((try dsimp only at hq); go_simp; (first | done | with_reducible rfl | fail)))) | refine held_s (i := 3) hHeld ?_ | fail
    first | (refine held_t (i := 4) hHeld ?_; apply Exists.intro; refine ⟨fun wq hq => ?_, ?_⟩; (focus ((try dsimp only at hq); go_simp; (first | done | with_reducible rfl | fail)))) | refine held_s (i := 4) hHeld ?_ | fail
    first | (refine held_t (i := 5) hHeld ?_; apply Exists.intro; refine ⟨fun wq hq => ?_, ?_⟩; (focus ((try dsimp only at hq); go_simp; (first | done | with_reducible rfl | fail)))) | refine held_s (i := 5) hHeld ?_ | fail
    try simp only [Act.put, List.setIfInBounds_toArray, List.set_cons_zero, List.set_cons_succ]
    refine wpAnyH_ready (rs := [6, 10]) (by kernel_rfl) (by simp) ?_
    refine AllReadyH.cons (by simp only [List.getElem?_toArray, List.getElem?_cons_zero, List.getElem?_cons_succ]; rfl) (fun K hK => ?_) (AllReadyH.cons (by simp only [List.getElem?_toArray, List.getElem?_cons_zero, List.getElem?_cons_succ]; rfl) (fun K hK => ?_) AllReadyH.nil)
    · go_simp
      (go_at_call 37; refine (HP2.out _ hHeld.2).mono ?_; rintro e w4 ⟨rfl, hb4⟩)
      refine hK.out _ _ (⟨⟨cell_later hb4 hHeld.1.1, cell_later hb4 hHeld.1.2⟩, Ext.trans' hHeld.2 hb4⟩) (fun hHeld => ?_)
      clear hK K
      try simp only [Act.put, List.setIfInBounds_toArray, List.set_cons_zero, List.set_cons_succ]
      have hS4 := hHeld
      first | (refine held_t (i := 7) hHeld ?_; apply Exists.intro; refine ⟨fun wq hq => ?_, ?_⟩; (focus ((try dsimp only at hq); go_simp; (first | done | with_reducible rfl | fail)))) | refine held_s (i := 7) hHeld ?_ | fail
      first | (refine held_t (i := 8) hHeld ?_; apply Exists.intro; refine ⟨fun wq hq => ?_, ?_⟩; (focus ((try dsimp only at hq); go_simp; (first | done | with_reducible rfl | fail)))) | refine held_s (i := 8) hHeld ?_ | fail
      first | (refine held_t (i := 9) hHeld ?_; apply Exists.intro; refine ⟨fun wq hq => ?_, ?_⟩; (focus ((try dsimp only at hq); go_simp; (first | done | with_reducible rfl | fail)))) | refine held_s (i := 9) hHeld ?_ | fail
      try simp only [Act.put, List.setIfInBounds_toArray, List.set_cons_zero, List.set_cons_succ]
      refine held_c 10 fun K hK => ?_
      go_simp
      skip
      refine hK.out _ _ (⟨⟨cell_later (bel1' _ _) hHeld.1.1, cell_later (bel1' _ _) hHeld.1.2⟩, Ext.trans' hHeld.2 (bel1' _ _)⟩) (fun hHeld => ?_)
      clear hK K
      try simp only [Act.put, List.setIfInBounds_toArray, List.set_cons_zero, List.set_cons_succ]
      refine held_c 11 fun K hK => ?_
      go_simp
      skip
      refine hK.out _ _ (⟨⟨cell_later (bel1' _ _) hS4.1.1, cell_later (bel1' _ _) hS4.1.2⟩, Ext.trans' hS4.2 (bel1' _ _)⟩) (fun hHeld => ?_)
      clear hK K
      try simp only [Act.put, List.setIfInBounds_toArray, List.set_cons_zero, List.set_cons_succ]
      first | (refine held_t (i := 12) hHeld ?_; apply Exists.intro; refine ⟨fun wq hq => ?_, ?_⟩; (focus ((try dsimp only at hq); go_simp; (first | done | with_reducible rfl | fail)))) | refine held_s (i := 12) hHeld ?_ | fail
      try simp only [Act.put, List.setIfInBounds_toArray, List.set_cons_zero, List.set_cons_succ]
      refine wpAnyH_done (by kernel_rfl) ?_ _
      have HBZ := Lib.hid (wbox_ext_new w4 #[.string bn, .string bk, .int .i64 bv] 33 (Below.refl _ _))
      have HBU := Lib.hid hHeld.2
      clear hHeld hS4 hb4
      generalize World.alloc w4 (.cells #[.string bn, .string bk, .int .i64 bv] 33) = w9 at *
      generalize w4.heap.size = A2 at *
      have HB9 := Lib.hid (Ext.trans' HB1.out (Ext.trans' HBV.out HBU.out))
      obtain ⟨x0, x1, x2, xf⟩ := (HBY.out.ext HBU.out).three
      obtain ⟨y0, y1, y2, yf⟩ := HBZ.out.three
      clear x0 x1 xf y0 y1 yf
      go_wp2
      go_ret
      exact ⟨rfl, HB9.out⟩
    · go_simp
      skip
      refine hK.out _ _ (⟨⟨cell_later (bel1' _ _) hHeld.1.1, cell_later (bel1' _ _) hHeld.1.2⟩, Ext.trans' hHeld.2 (bel1' _ _)⟩) (fun hHeld => ?_)
      clear hK K
      try simp only [Act.put, List.setIfInBounds_toArray, List.set_cons_zero, List.set_cons_succ]
      refine held_c 6 fun K hK => ?_
      go_simp
      (go_at_call 37; refine (HP2.out _ hHeld.2).mono ?_; rintro e w7 ⟨rfl, hb7⟩; have hbx : Box w7 w5.heap.size [.string ⟨#[]⟩, .string ⟨#[]⟩, .int .i64 0] := wbox_ext_new w5.drew _ _ hb7; obtain ⟨e0, e1, e2, ef⟩ := hbx.three)
      refine hK.out _ _ (⟨⟨cell_later hb7 hHeld.1.1, cell_later hb7 hHeld.1.2⟩, Ext.trans' hHeld.2 hb7⟩) (fun hHeld => ?_)
      clear hK K
      try simp only [Act.put, List.setIfInBounds_toArray, List.set_cons_zero, List.set_cons_succ]
      first | (refine held_t (i := 7) hHeld ?_; apply Exists.intro; refine ⟨fun wq hq => ?_, ?_⟩; (focus ((try dsimp only at hq); go_simp; (first | done | with_reducible rfl | fail)))) | refine held_s (i := 7) hHeld ?_ | fail
      first | (refine held_t (i := 8) hHeld ?_; apply Exists.intro; refine ⟨fun wq hq => ?_, ?_⟩; (focus ((try dsimp only at hq); go_simp; (first | done | with_reducible rfl | fail)))) | refine held_s (i := 8) hHeld ?_ | fail
      first | (refine held_t (i := 9) hHeld ?_; apply Exists.intro; refine ⟨fun wq hq => ?_, ?_⟩; (focus ((try dsimp only at hq); go_simp; (first | done | with_reducible rfl | fail)))) | refine held_s (i := 9) hHeld ?_ | fail
      try simp only [Act.put, List.setIfInBounds_toArray, List.set_cons_zero, List.set_cons_succ]
      refine held_c 11 fun K hK => ?_
      go_simp
      skip
      refine hK.out _ _ (⟨⟨far3 hHeld.1.1 hm1 _ _ _, far3 hHeld.1.2 hm2 _ _ _⟩, Below.set3 hHeld.2 (Nat.le_refl _) _ _ _⟩) (fun hHeld => ?_)
      clear hK K
      try simp only [Act.put, List.setIfInBounds_toArray, List.set_cons_zero, List.set_cons_succ]
      first | (refine held_t (i := 12) hHeld ?_; apply Exists.intro; refine ⟨fun wq hq => ?_, ?_⟩; (focus ((try dsimp only at hq); go_simp; (first | done | with_reducible rfl | fail)))) | refine held_s (i := 12) hHeld ?_ | fail
      try simp only [Act.put, List.setIfInBounds_toArray, List.set_cons_zero, List.set_cons_succ]
      refine wpAnyH_done (by kernel_rfl) ?_ _
      have HBZ := Lib.hid (show Box (((w7.setCell ⟨w5.heap.size, 0, none⟩ (.string bn)).setCell ⟨w5.heap.size, 1, none⟩ (.string bk)).setCell ⟨w5.heap.size, 2, none⟩ (.int .i64 bv)) w5.heap.size [.string bn, .string bk, .int .i64 bv] from wbox_all3 hbx (.string bn) (.string bk) (.int .i64 bv))
      have HBU := Lib.hid (show Below w5.heap.size w5 (((w7.setCell ⟨w5.heap.size, 0, none⟩ (.string bn)).setCell ⟨w5.heap.size, 1, none⟩ (.string bk)).setCell ⟨w5.heap.size, 2, none⟩ (.int .i64 bv)) from hHeld.2)
      clear hHeld hb7 hbx e0 e1 e2 ef
      generalize (((w7.setCell ⟨w5.heap.size, 0, none⟩ (.string bn)).setCell ⟨w5.heap.size, 1, none⟩ (.string bk)).setCell ⟨w5.heap.size, 2, none⟩ (.int .i64 bv)) = w9 at *
      generalize hA2 : w5.heap.size = A2 at HBZ
      clear hA2
      have HB9 := Lib.hid (Ext.trans' HB1.out (Ext.trans' HBV.out HBU.out))
      obtain ⟨x0, x1, x2, xf⟩ := (HBY.out.ext HBU.out).three
      obtain ⟨y0, y1, y2, yf⟩ := HBZ.out.three
      clear x0 x1 xf y0 y1 yf
      go_wp2
      go_ret
      exact ⟨rfl, HB9.out⟩
  · go_simp
    skip
    refine hK.out _ _ (⟨⟨cell_later (bel1' _ _) hHeld.1.1, cell_later (bel1' _ _) hHeld.1.2⟩, Ext.trans' hHeld.2 (bel1' _ _)⟩) (fun hHeld => ?_)
    clear hK K
    try simp only [Act.put, List.setIfInBounds_toArray, List.set_cons_zero, List.set_cons_succ]
    refine held_c 6 fun K hK => ?_
    go_simp
    (go_at_call 38; refine (HP.out _ hHeld.2).mono ?_; rintro e w7 ⟨rfl, hb7⟩; have hbx : Box w7 w1.heap.size [.string ⟨#[]⟩, .string ⟨#[]⟩, .int .i64 0] := wbox_ext_new w1.drew _ _ hb7; obtain ⟨e0, e1, e2, ef⟩ := hbx.three)
    refine hK.out _ _ (⟨⟨cell_later hb7 hHeld.1.1, cell_later hb7 hHeld.1.2⟩, Ext.trans' hHeld.2 hb7⟩) (fun hHeld => ?_)
    clear hK K
    try simp only [Act.put, List.setIfInBounds_toArray, List.set_cons_zero, List.set_cons_succ]
    first | (refine held_t (i := 7) hHeld ?_; apply Exists.intro; refine ⟨fun wq hq => ?_, ?_⟩; (focus ((try dsimp only at hq); go_simp; (first | done | with_reducible rfl | fail)))) | refine held_s (i := 7) hHeld ?_ | fail
    first | (refine held_t (i := 8) hHeld ?_; apply Exists.intro; refine ⟨fun wq hq => ?_, ?_⟩; (focus ((try dsimp only at hq); go_simp; (first | done | with_reducible rfl | fail)))) | refine held_s (i := 8) hHeld ?_ | fail
    first | (refine held_t (i := 9) hHeld ?_; apply Exists.intro; refine ⟨fun wq hq => ?_, ?_⟩; (focus ((try dsimp only at hq); go_simp; (first | done | with_reducible rfl | fail)))) | refine held_s (i := 9) hHeld ?_ | fail
    try simp only [Act.put, List.setIfInBounds_toArray, List.set_cons_zero, List.set_cons_succ]
    refine held_c 11 fun K hK => ?_
    go_simp
    skip
    refine hK.out _ _ (⟨⟨far3 hHeld.1.1 hm1 _ _ _, far3 hHeld.1.2 hm2 _ _ _⟩, Below.set3 hHeld.2 (Nat.le_refl _) _ _ _⟩) (fun hHeld => ?_)
    clear hK K
    try simp only [Act.put, List.setIfInBounds_toArray, List.set_cons_zero, List.set_cons_succ]
    first | (refine held_t (i := 12) hHeld ?_; apply Exists.intro; refine ⟨fun wq hq => ?_, ?_⟩; (focus ((try dsimp only at hq); go_simp; (first | done | with_reducible rfl | fail)))) | refine held_s (i := 12) hHeld ?_ | fail
    try simp only [Act.put, List.setIfInBounds_toArray, List.set_cons_zero, List.set_cons_succ]
    refine wpAnyH_done (by kernel_rfl) ?_ _
    have HBX := Lib.hid (show Box (((w7.setCell ⟨w1.heap.size, 0, none⟩ (.string pn)).setCell ⟨w1.heap.size, 1, none⟩ (.string pk)).setCell ⟨w1.heap.size, 2, none⟩ (.int .i64 pl)) w1.heap.size [.string pn, .string pk, .int .i64 pl] from wbox_all3 hbx (.string pn) (.string pk) (.int .i64 pl))
    have HBW := Lib.hid (show Below w1.heap.size w1 (((w7.setCell ⟨w1.heap.size, 0, none⟩ (.string pn)).setCell ⟨w1.heap.size, 1, none⟩ (.string pk)).setCell ⟨w1.heap.size, 2, none⟩ (.int .i64 pl)) from hHeld.2)
    clear hHeld hb7 hbx e0 e1 e2 ef
    generalize (((w7.setCell ⟨w1.heap.size, 0, none⟩ (.string pn)).setCell ⟨w1.heap.size, 1, none⟩ (.string pk)).setCell ⟨w1.heap.size, 2, none⟩ (.int .i64 pl)) = w5 at *
    generalize hA : w1.heap.size = A at HBX
    clear hA
    clear b0 b1 b2 b3 bf o1
    have HBY := HBX
    have HBV := HBW
    clear HBX HBW hm1 hm2
    obtain ⟨b0, b1, b2, b3, bf⟩ := (HX1.out.ext HBV.out).four
    have o1 := cell_later HBV.out HO1.out
    have hm1 : wb ≠ w5.heap.size := by have := HBV.out.size; have := HWL.out; have := HX1.out.lt; omega
    have hm2 : w.heap.size ≠ w5.heap.size := by have := HBV.out.size; have := HX1.out.lt; omega
    have HP2 := Lib.hid (fun wq (hb : Below w5.heap.size w5 wq) => HQ.out wq (Ext.trans' HBV.out hb))
    go_wp2_with fail
    refine wp_region_held_drew (S := fun w' => (w'.cell? ⟨wb, 0, none⟩ = some vo ∧ w'.cell? ⟨w.heap.size, 2, none⟩ = some (.string s)) ∧ Below w5.heap.size w5 w') (by kernel_rfl) ⟨⟨o1, b2⟩, (Below.refl _ _).drew⟩ (fun hHeld => ?_)
    first | (refine held_t (i := 0) hHeld ?_; apply Exists.intro; refine ⟨fun wq hq => ?_, ?_⟩; (focus ((try dsimp only at hq); go_simp; (first | done | with_reducible rfl | fail)))) | refine held_s (i := 0) hHeld ?_ | fail
    first | (refine held_t (i := 1) hHeld ?_; apply Exists.intro; refine ⟨fun wq hq => ?_, ?_⟩; (focus ((try dsimp only at hq); go_simp; (first | done | with_reducible rfl | fail)))) | refine held_s (i := 1) hHeld ?_ | fail
    first | (refine held_t (i := 2) hHeld ?_; apply Exists.intro; refine ⟨fun wq hq => ?_, ?_⟩; (focus ((try dsimp only at hq); go_simp; (first | done | with_reducible rfl | fail)))) | refine held_s (i := 2) hHeld ?_ | fail
    first | (refine held_t (i := 3) hHeld ?_; apply Exists.intro; refine ⟨fun wq hq => ?_, ?_⟩; (focus ((try dsimp only at hq); go_simp; (first | done | with_reducible rfl | fail)))) | refine held_s (i := 3) hHeld ?_ | fail
    first | (refine held_t (i := 4) hHeld ?_; apply Exists.intro; refine ⟨fun wq hq => ?_, ?_⟩; (focus ((try dsimp only at hq); go_simp; (first | done | with_reducible rfl | fail)))) | refine held_s (i := 4) hHeld ?_ | fail
    first | (refine held_t (i := 5) hHeld ?_; apply Exists.intro; refine ⟨fun wq hq => ?_, ?_⟩; (focus ((try dsimp only at hq); go_simp; (first | done | with_reducible rfl | fail)))) | refine held_s (i := 5) hHeld ?_ | fail
    try simp only [Act.put, List.setIfInBounds_toArray, List.set_cons_zero, List.set_cons_succ]
    refine wpAnyH_ready (rs := [6, 10]) (by kernel_rfl) (by simp) ?_
    refine AllReadyH.cons (by simp only [List.getElem?_toArray, List.getElem?_cons_zero, List.getElem?_cons_succ]; rfl) (fun K hK => ?_) (AllReadyH.cons (by simp only [List.getElem?_toArray, List.getElem?_cons_zero, List.getElem?_cons_succ]; rfl) (fun K hK => ?_) AllReadyH.nil)
    · go_simp
      (go_at_call 37; refine (HP2.out _ hHeld.2).mono ?_; rintro e w4 ⟨rfl, hb4⟩)
      refine hK.out _ _ (⟨⟨cell_later hb4 hHeld.1.1, cell_later hb4 hHeld.1.2⟩, Ext.trans' hHeld.2 hb4⟩) (fun hHeld => ?_)
      clear hK K
      try simp only [Act.put, List.setIfInBounds_toArray, List.set_cons_zero, List.set_cons_succ]
      have hS4 := hHeld
      first | (refine held_t (i := 7) hHeld ?_; apply Exists.intro; refine ⟨fun wq hq => ?_, ?_⟩; (focus ((try dsimp only at hq); go_simp; (first | done | with_reducible rfl | fail)))) | refine held_s (i := 7) hHeld ?_ | fail
      first | (refine held_t (i := 8) hHeld ?_; apply Exists.intro; refine ⟨fun wq hq => ?_, ?_⟩; (focus ((try dsimp only at hq); go_simp; (first | done | with_reducible rfl | fail)))) | refine held_s (i := 8) hHeld ?_ | fail
      first | (refine held_t (i := 9) hHeld ?_; apply Exists.intro; refine ⟨fun wq hq => ?_, ?_⟩; (focus ((try dsimp only at hq); go_simp; (first | done | with_reducible rfl | fail)))) | refine held_s (i := 9) hHeld ?_ | fail
      try simp only [Act.put, List.setIfInBounds_toArray, List.set_cons_zero, List.set_cons_succ]
      refine held_c 10 fun K hK => ?_
      go_simp
      skip
      refine hK.out _ _ (⟨⟨cell_later (bel1' _ _) hHeld.1.1, cell_later (bel1' _ _) hHeld.1.2⟩, Ext.trans' hHeld.2 (bel1' _ _)⟩) (fun hHeld => ?_)
      clear hK K
      try simp only [Act.put, List.setIfInBounds_toArray, List.set_cons_zero, List.set_cons_succ]
      refine held_c 11 fun K hK => ?_
      go_simp
      skip
      refine hK.out _ _ (⟨⟨cell_later (bel1' _ _) hS4.1.1, cell_later (bel1' _ _) hS4.1.2⟩, Ext.trans' hS4.2 (bel1' _ _)⟩) (fun hHeld => ?_)
      clear hK K
      try simp only [Act.put, List.setIfInBounds_toArray, List.set_cons_zero, List.set_cons_succ]
      first | (refine held_t (i := 12) hHeld ?_; apply Exists.intro; refine ⟨fun wq hq => ?_, ?_⟩; (focus ((try dsimp only at hq); go_simp; (first | done | with_reducible rfl | fail)))) | refine held_s (i := 12) hHeld ?_ | fail
      try simp only [Act.put, List.setIfInBounds_toArray, List.set_cons_zero, List.set_cons_succ]
      refine wpAnyH_done (by kernel_rfl) ?_ _
      have HBZ := Lib.hid (wbox_ext_new w4 #[.string bn, .string bk, .int .i64 bv] 33 (Below.refl _ _))
      have HBU := Lib.hid hHeld.2
      clear hHeld hS4 hb4
      generalize World.alloc w4 (.cells #[.string bn, .string bk, .int .i64 bv] 33) = w9 at *
      generalize w4.heap.size = A2 at *
      have HB9 := Lib.hid (Ext.trans' HB1.out (Ext.trans' HBV.out HBU.out))
      obtain ⟨x0, x1, x2, xf⟩ := (HBY.out.ext HBU.out).three
      obtain ⟨y0, y1, y2, yf⟩ := HBZ.out.three
      clear x0 x1 xf y0 y1 yf
      go_wp2
      go_ret
      exact ⟨rfl, HB9.out⟩
    · go_simp
      skip
      refine hK.out _ _ (⟨⟨cell_later (bel1' _ _) hHeld.1.1, cell_later (bel1' _ _) hHeld.1.2⟩, Ext.trans' hHeld.2 (bel1' _ _)⟩) (fun hHeld => ?_)
      clear hK K
      try simp only [Act.put, List.setIfInBounds_toArray, List.set_cons_zero, List.set_cons_succ]
      refine held_c 6 fun K hK => ?_
      go_simp
      (go_at_call 37; refine (HP2.out _ hHeld.2).mono ?_; rintro e w7 ⟨rfl, hb7⟩; have hbx : Box w7 w5.heap.size [.string ⟨#[]⟩, .string ⟨#[]⟩, .int .i64 0] := wbox_ext_new w5.drew _ _ hb7; obtain ⟨e0, e1, e2, ef⟩ := hbx.three)
      refine hK.out _ _ (⟨⟨cell_later hb7 hHeld.1.1, cell_later hb7 hHeld.1.2⟩, Ext.trans' hHeld.2 hb7⟩) (fun hHeld => ?_)
      clear hK K
      try simp only [Act.put, List.setIfInBounds_toArray, List.set_cons_zero, List.set_cons_succ]
      first | (refine held_t (i := 7) hHeld ?_; apply Exists.intro; refine ⟨fun wq hq => ?_, ?_⟩; (focus ((try dsimp only at hq); go_simp; (first | done | with_reducible rfl | fail)))) | refine held_s (i := 7) hHeld ?_ | fail
      first | (refine held_t (i := 8) hHeld ?_; apply Exists.intro; refine ⟨fun wq hq => ?_, ?_⟩; (focus ((try dsimp only at hq); go_simp; (first | done | with_reducible rfl | fail)))) | refine held_s (i := 8) hHeld ?_ | fail
      first | (refine held_t (i := 9) hHeld ?_; apply Exists.intro; refine ⟨fun wq hq => ?_, ?_⟩; (focus ((try dsimp only at hq); go_simp; (first | done | with_reducible rfl | fail)))) | refine held_s (i := 9) hHeld ?_ | fail
      try simp only [Act.put, List.setIfInBounds_toArray, List.set_cons_zero, List.set_cons_succ]
      refine held_c 11 fun K hK => ?_
      go_simp
      skip
      refine hK.out _ _ (⟨⟨far3 hHeld.1.1 hm1 _ _ _, far3 hHeld.1.2 hm2 _ _ _⟩, Below.set3 hHeld.2 (Nat.le_refl _) _ _ _⟩) (fun hHeld => ?_)
      clear hK K
      try simp only [Act.put, List.setIfInBounds_toArray, List.set_cons_zero, List.set_cons_succ]
      first | (refine held_t (i := 12) hHeld ?_; apply Exists.intro; refine ⟨fun wq hq => ?_, ?_⟩; (focus ((try dsimp only at hq); go_simp; (first | done | with_reducible rfl | fail)))) | refine held_s (i := 12) hHeld ?_ | fail
      try simp only [Act.put, List.setIfInBounds_toArray, List.set_cons_zero, List.set_cons_succ]
      refine wpAnyH_done (by kernel_rfl) ?_ _
      have HBZ := Lib.hid (show Box (((w7.setCell ⟨w5.heap.size, 0, none⟩ (.string bn)).setCell ⟨w5.heap.size, 1, none⟩ (.string bk)).setCell ⟨w5.heap.size, 2, none⟩ (.int .i64 bv)) w5.heap.size [.string bn, .string bk, .int .i64 bv] from wbox_all3 hbx (.string bn) (.string bk) (.int .i64 bv))
      have HBU := Lib.hid (show Below w5.heap.size w5 (((w7.setCell ⟨w5.heap.size, 0, none⟩ (.string bn)).setCell ⟨w5.heap.size, 1, none⟩ (.string bk)).setCell ⟨w5.heap.size, 2, none⟩ (.int .i64 bv)) from hHeld.2)
      clear hHeld hb7 hbx e0 e1 e2 ef
      generalize (((w7.setCell ⟨w5.heap.size, 0, none⟩ (.string bn)).setCell ⟨w5.heap.size, 1, none⟩ (.string bk)).setCell ⟨w5.heap.size, 2, none⟩ (.int .i64 bv)) = w9 at *
      generalize hA2 : w5.heap.size = A2 at HBZ
      clear hA2
      have HB9 := Lib.hid (Ext.trans' HB1.out (Ext.trans' HBV.out HBU.out))
      obtain ⟨x0, x1, x2, xf⟩ := (HBY.out.ext HBU.out).three
      obtain ⟨y0, y1, y2, yf⟩ := HBZ.out.three
      clear x0 x1 xf y0 y1 yf
      go_wp2
      go_ret
      exact ⟨rfl, HB9.out⟩

set_option maxHeartbeats 4000000 in
theorem level_other {M : Nat → Bool} {w : World} {wb : Nat} {xs : List O} {vs : List Int} {out : List UInt8} (h : Wr M w wb xs vs out) {k n : Int} {s : ByteArray} {ts : List Tm} (hne : k ≠ 2 ∨ ts ≠ []) {v : Value} (hv : TmV (hide M w) (.mk k n s ts) v) :
    Calls Tryz.prog 89 #[.pointer (some ⟨wb, 0, none⟩), v] w fun e w' => e = .returned (.int .i64 (levW (preO xs) (betO xs) (.mk k n s ts))) ∧ Below w.heap.size w w' := by
  obtain ⟨u, rfl, hs, hk64, hn64, hu⟩ := tmV_iff.1 hv
  obtain ⟨au, cu, rfl, hu1, hu2, hu3⟩ := hu.len
  unfold BIG at hu3 hs
  unfold maxLen at hu2
  have hX : levW (preO xs) (betO xs) (.mk k n s ts) = (opW (preO xs) (betO xs) (.mk k n s ts)).1.l := by
    unfold levW
    rw [if_neg]
    intro e
    simp only [Bool.and_eq_true, beq_iff_eq, List.isEmpty_iff] at e
    rcases hne with h | h
    · exact h e.1
    · exact h e.2
  rw [hX]
  obtain ⟨m, hm⟩ : ∃ m, ts.length = m := ⟨_, rfl⟩
  obtain ⟨w1, hw1, hb1, hz1, hx1⟩ := box_new w #[.int .i64 k, .int .i64 n, .string s, .slice au ts.length cu] 27
  have HO := operator_at (h.later hb1) (TmV.later hb1 hv)
  obtain ⟨⟨⟨on, ok, ol⟩, og⟩, hop⟩ : ∃ Y, opW (preO xs) (betO xs) (.mk k n s ts) = Y := ⟨_, rfl⟩
  rw [hop] at HO ⊢
  have HO := Lib.hid HO
  have hm0 : ((k == 2) = false) ∨ ((k == 2) = true ∧ ((m : Int) == 0) = false) := by
    cases hk : (k == 2) with
    | false => exact Or.inl rfl
    | true =>
      refine Or.inr ⟨rfl, beq_false_of_ne (fun e => ?_)⟩
      have hk2 : k = 2 := by simpa using hk
      have : ts = [] := List.length_eq_zero_iff.1 (by omega)
      rcases hne with h | h
      · exact h hk2
      · exact h this
  rw [hm] at hu1 hu3 hw1 hx1 HO
  rw [hm]
  have HB1 := Lib.hid hb1
  obtain ⟨b0, b1, b2, b3, bf⟩ := hx1.four
  clear h hv hu hb1 hx1 hz1 hX hm hop hne
  rcases hm0 with hk | ⟨hk, hmz⟩
  all_goals
    go_enter Tryz.func89, Tryz.ntmps89
    go_wp2_with fail
    (try rw [hw1])
    clear hw1
    (go_wp2_with fail; go_fit (HO.out); rintro e w2 ⟨rfl, hb2⟩)
    have HB2 := Lib.hid (Ext.trans' HB1.out (Ext.trans' hb2 (bel1' _ (.cells #[.string on, .string ok, .int .i64 ol] 33))))
    clear hb2
    go_wp2
    go_ret
    exact ⟨rfl, HB2.out⟩
theorem level_at {M : Nat → Bool} {w : World} {wb : Nat} {xs : List O} {vs : List Int} {out : List UInt8} (h : Wr M w wb xs vs out) {x : Tm} {v : Value} (hv : TmV (hide M w) x v) :
    Calls Tryz.prog 89 #[.pointer (some ⟨wb, 0, none⟩), v] w fun e w' => e = .returned (.int .i64 (levW (preO xs) (betO xs) x)) ∧ Below w.heap.size w w' := by
  cases x with
  | mk k n s ts =>
    by_cases hk : k = 2
    · subst hk
      cases ts with
      | nil => exact level_atom h hv
      | cons a r => exact level_other h (Or.inr (by simp)) hv
    · exact level_other h (Or.inl hk) hv
end Go.Proofs.YtobdhcaoeholhaaGreatDoor
