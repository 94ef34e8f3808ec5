/- Package term: List, walked. -/
import Derived.Test.YthikbenfhaglkaaTnJ
namespace Go.Proofs.Ythikbenfhaglkaa
open Go.RowKit Go.Shelf
attribute [local go_sem] Oper.semAt_some
set_option linter.unusedVariables false

theorem back_terms {D : Nat → Bool} {w : World} (xs : List (Item D w)) : (back xs).map (fun x => x.2.1.1) = (xs.map (fun x => x.1.1)).reverse := by
  unfold back
  rw [← List.map_reverse]
  apply List.ext_getElem?
  intro i
  rw [List.getElem?_map, List.getElem?_mapIdx, List.getElem?_map]
  cases xs.reverse[i]? <;> rfl
theorem list_rev {D : Nat → Bool} {w : World} (xs : List (Item D w)) : ((back xs).map (fun x => x.2.1.1)).reverse = xs.map (fun x => x.1.1) := by rw [back_terms, List.reverse_reverse]
set_option maxRecDepth 100000 in
set_option maxHeartbeats 8000000 in
theorem list_in {D : Nat → Bool} {w : World} {v : Value} {l : List Tm} {x : Tm} {vt : Value} (ho : Old D w) (hl : Tms (hide D w) v l) (hx : TmV (hide D w) x vt) :
    Calls Try.prog 15 #[v, vt] w fun e w' => ∃ r, e = .returned r ∧ TmV (hide D w') (listT l x) r ∧ Below w.heap.size w w' := by
  obtain ⟨ao, c, xs, rfl, hxs, hI⟩ := items_of hl
  obtain ⟨u, rfl⟩ := hx.pair
  obtain ⟨au, cu, rfl⟩ := val_slice hx.bare
  obtain ⟨m, hm⟩ : ∃ m, l.length = m := ⟨_, rfl⟩
  rw [hm] at hI ⊢
  have HXS := Lib.hid hxs
  clear hl hm hxs
  obtain ⟨kx, hkx⟩ : ∃ k, x.k = k := ⟨_, rfl⟩
  obtain ⟨nx, hnx⟩ : ∃ k, x.n = k := ⟨_, rfl⟩
  obtain ⟨sx, hsx⟩ : ∃ k, x.s = k := ⟨_, rfl⟩
  obtain ⟨mx, hmx⟩ : ∃ k, x.args.length = k := ⟨_, rfl⟩
  have hS : ∀ W, Below ((w.alloc (box4 kx nx sx (.slice au mx cu) 25)).alloc (box4 0 0 ⟨#[]⟩ (.slice none 0 0) 25)).heap.size ((w.alloc (box4 kx nx sx (.slice au mx cu) 25)).alloc (box4 0 0 ⟨#[]⟩ (.slice none 0 0) 25)) W → w.heap.size + 3 ≤ W.heap.size → ListAt D w W x (.slice au mx cu) := fun W hb hbig => by
    have hw : Below w.heap.size w W := Ext.trans' ((bel1' _ _).alloc (by simp) _) hb
    rw [hmx] at hx
    exact { tm := TmV.stay (Stays.below hw fun k hk hd => plus_low hk hd) _ _ hx, b0 := by rw [hkx]; exact cell_later hb (by simp), b1 := by rw [hnx]; exact cell_later hb (by simp), b2 := by rw [hsx]; exact cell_later hb (by simp), b3 := cell_later hb (by simp), fz := fun j => by rw [World.frozen?_of_block (hb.block w.heap.size (by simp <;> omega))]; simp, fz1 := fun j => by rw [World.frozen?_of_block (hb.block (w.heap.size + 1) (by simp <;> omega))]; simp, r0 := cell_later hb (by simp), r1 := cell_later hb (by simp), r2 := cell_later hb (by simp), r3 := cell_later hb (by simp), bel := hw, big := hbig }
  show Calls Try.prog 15 #[.slice ao m c, .agg #[.int .i64 x.k, .int .i64 x.n, .string x.s, .slice au x.args.length cu]] w _
  rw [hkx, hnx, hsx, hmx]
  have HS := Lib.hid hS
  have HO := Lib.hid ho
  have HI := Lib.hid hI
  clear hkx hnx hsx hmx hS ho hx hI
  refine (callsIn_wide (n := 6)).1 ?_
  refine callsIn_of_wp_marks Try.func15 rfl trivial ?_ rfl
  simp only [Try.ntmps15, List.size_toArray, List.length_cons, List.length_nil, Nat.reduceAdd, Nat.reduceSub, Array.replicate_succ, Array.replicate_zero, List.push_toArray, List.append_toArray, List.nil_append, List.cons_append]
  gi_wp2_with (refine ⟨trivial, ?_⟩; gi_at_call 31; refine (back_in Fence.wide (6 - 1) trivial rfl _ _ _ _).mono ?_; rintro e w' ⟨rfl, rfl⟩)
  have hsz : (((w.alloc (box4 kx nx sx (.slice au mx cu) 25)).alloc (box4 0 0 ⟨#[]⟩ (.slice none 0 0) 25)).alloc (.cells #[.slice ao m c] 23)).heap.size = w.heap.size + 3 := by simp
  have hbx : (((w.alloc (box4 kx nx sx (.slice au mx cu) 25)).alloc (box4 0 0 ⟨#[]⟩ (.slice none 0 0) 25)).alloc (.cells #[.slice ao m c] 23)).cell? ⟨w.heap.size + 2, 0, none⟩ = some (.slice ao m c) := by
    have h := cell_new ((w.alloc (box4 kx nx sx (.slice au mx cu) 25)).alloc (box4 0 0 ⟨#[]⟩ (.slice none 0 0) 25)) #[.slice ao m c] 23 0 (.slice ao m c) rfl
    rw [add_plain, show ((w.alloc (box4 kx nx sx (.slice au mx cu) 25)).alloc (box4 0 0 ⟨#[]⟩ (.slice none 0 0) 25)).heap.size = w.heap.size + 2 by simp] at h
    exact h
  have hst := HS.out _ (bel1' _ (.cells #[.slice ao m c] 23)) (by rw [hsz]; exact Nat.le_refl _)
  obtain ⟨W0, hW0⟩ : ∃ W0, ((w.alloc (box4 kx nx sx (.slice au mx cu) 25)).alloc (box4 0 0 ⟨#[]⟩ (.slice none 0 0) 25)).alloc (.cells #[.slice ao m c] 23) = W0 := ⟨_, rfl⟩
  unfold box4 at hW0
  unfold box4 at hsz hbx hst
  rw [hW0] at hsz hbx hst ⊢
  clear hW0 HS
  have HO2 := HO.out
  refine wpIn_rangeFunc_ownH rfl (by omega) (gf := 39) (lb := #[.pointer (some ⟨w.heap.size + 1 + 1, 0, none⟩)]) rfl trivial (enters_of Try.func39 (by kernel_rfl) rfl)
    (back_stops Fence.wide (6 - 1) trivial rfl (by omega) (w.heap.size + 1 + 1) w.heap.size ao m c xs W0 hst.bel (Nat.le_refl _) (by omega) hbx HI.out) Kq.trans (Kq.put (by omega) (by omega)) (Below.refl _ _) (fun _ => rfl)
    (fun pre W => ∃ T u, T = listT ((pre.map (fun x => x.2.1.1)).reverse) x ∧ ListAt D w W T u)
    (fun _ _ _ => False)
    (fun pre A B row ⟨T, u, h1, h2⟩ hg hr => ⟨T, u, h1, h2.kept (by omega) hg hr⟩)
    (fun _ _ _ _ _ hs _ _ => hs)
    ⟨x, _, rfl, hst⟩
    (fun y a' W => ∃ Bx, w.heap.size + 3 ≤ Bx ∧ (W.cell? ⟨Bx, 0, none⟩ = some (.int .i64 y.2.1.1.k) ∧ W.cell? ⟨Bx, 1, none⟩ = some (.int .i64 y.2.1.1.n) ∧ W.cell? ⟨Bx, 2, none⟩ = some (.string y.2.1.1.s) ∧ W.cell? ⟨Bx, 3, none⟩ = some y.2.1.2) ∧
      a' = { tmps := #[.slice ao m c, .agg #[.int .i64 kx, .int .i64 nx, .string sx, .slice au mx cu], undef, .pointer (some ⟨w.heap.size, 0, none⟩), .pointer (some ⟨w.heap.size + 1, 0, none⟩), undef, .pointer (some ⟨Bx, 0, none⟩), .slice ao m c, .func (.func 39) #[] #[.pointer (some ⟨w.heap.size + 1 + 1, 0, none⟩)], .int .i64 (y.1 : Int), .agg #[.int .i64 y.2.1.1.k, .int .i64 y.2.1.1.n, .string y.2.1.1.s, y.2.1.2], undef, undef, undef, undef, undef], defers := [] })
    (fun y a' _ A B row ⟨Bx, h0, h1, h2⟩ hg hr => ⟨Bx, h0, ⟨cell_kept h1.1 hg (fun r e => (hr r e).2), cell_kept h1.2.1 hg (fun r e => (hr r e).2), cell_kept h1.2.2.1 hg (fun r e => (hr r e).2), cell_kept h1.2.2.2 hg (fun r e => (hr r e).2)⟩, h2⟩)
    ?assign ?body ?done ?stop
  case assign =>
    rintro lp pre ⟨i, ⟨⟨t, ut⟩, htv⟩⟩ W K ⟨T, u, hT, hLA⟩ hK
    have htv2 : TmV w t (pVal (t, ut)) := htv.bare
    obtain ⟨at', ct', hut⟩ := val_slice htv2
    obtain ⟨mt, hmt⟩ : ∃ mt, t.args.length = mt := ⟨_, rfl⟩
    rw [hmt] at hut
    clear htv2 hmt
    subst hut
    have hb1 := hLA.bel
    have hb2 := hLA.big
    gi_wp2
    exact hK _ _ ((KeepsOthers.alloc _ _).from _) (Kq.below (bel1' W _) hb1.size (by omega)) ⟨T, u, hT, hLA.kept (C := w.heap.size) (Nat.le_refl _) (World.grownBy_alloc W _ none) (fun r e => by cases e)⟩ ⟨W.heap.size, hb2, ⟨by simp, by simp, by simp, by simp⟩, rfl⟩
  case body =>
    rintro lp pre ⟨i, ⟨⟨t, ut⟩, htv⟩⟩ a' W hlp ⟨r, hr⟩ ⟨T, u, hT, hLA⟩ ⟨Bx, hBx, ⟨f0, f1, f2, f3⟩, rfl⟩ hlt
    have htv2 : TmV W t (pVal (t, ut)) := TmV.ext hLA.bel _ _ htv.bare
    obtain ⟨at', ct', hut⟩ := val_slice htv2
    obtain ⟨aT, cT, huT⟩ := val_slice hLA.tm.bare
    have hone : ∀ v ∈ ([(t, ut), (T, u)] : List TmP).flatMap pCells, v.oneCell' = true := pCells_one _ (w := W) (fun p hp => by
      simp at hp
      rcases hp with rfl | rfl
      · exact htv2
      · exact hLA.tm.bare)
    obtain ⟨mt, hmt⟩ : ∃ mt, t.args.length = mt := ⟨_, rfl⟩
    obtain ⟨mT, hmT⟩ : ∃ mt, T.args.length = mt := ⟨_, rfl⟩
    rw [hmt] at hut
    rw [hmT] at huT
    have e0 := hLA.b0
    have e1 := hLA.b1
    have e2 := hLA.b2
    have e3 := hLA.b3
    have HTV : Hid (TmV (hide D w) t (pVal (t, ut))) := Lib.hid htv
    have HT := Lib.hid hT
    have HLA := Lib.hid hLA
    clear htv2 hmt hmT hT hLA
    subst hut huT
    have HC := fun (W1 : World) (ad : Addr) (hsrc : ∀ (j : Nat) (v : Value), (([(t, .slice at' mt ct'), (T, .slice aT mT cT)] : List TmP).flatMap pCells)[j]? = some v → W1.cell? (ad.add j) = some v) => comp_ps (w := W1) (ao := some ad) (m := 2) (c := 2) [(t, .slice at' mt ct'), (T, .slice aT mT cT)] ⟨#[46]⟩ rfl (by unfold BIG; omega) hone (Or.inr ⟨ad, rfl, hsrc⟩)
    gi_wp2_with (refine ⟨trivial, ?_⟩; gi_at_call 8; refine (CallsIn.inRound lp (callsIn_wide.2 (HC _ ⟨W.heap.size, 0, none⟩ (fun j v hv => cell_new _ _ _ j v hv)))).mono ?_; rintro e w4 ⟨a4, c4, rfl, hR, hB⟩; obtain ⟨g0, g1, g2, g3, gf⟩ := HLA.out.box hB)
    obtain ⟨hn1, hn2⟩ := HLA.out.next HO2 HTV.out hR hB
    have hbig := HLA.out.big
    refine ⟨hn2.from _, ?_, ⟨consT t T, .slice a4 2 c4, by rw [HT.out]; simp [listT], hn1⟩⟩
    show Kq w.heap.size (w.heap.size + 1 + 1) W (setFour w4 w.heap.size (.int .i64 2) (.int .i64 0) (.string ⟨#[46]⟩) (.slice a4 2 c4))
    have hWw := Ext.trans' (bel1' W _) hB
    exact ⟨by rw [set_size]; exact hWw.size, fun k hk => (set_kept _ _ _ _ k (by omega)).trans (hWw.block k (by omega))⟩
  case done =>
    rintro Dd ys W hD rfl ⟨T, u, hT, hLA⟩ hK
    obtain ⟨aT, cT, huT⟩ := val_slice hLA.tm.bare
    obtain ⟨mT, hmT⟩ : ∃ mT, T.args.length = mT := ⟨_, rfl⟩
    rw [hmT] at huT
    have e0 := hLA.b0
    have e1 := hLA.b1
    have e2 := hLA.b2
    have e3 := hLA.b3
    have q0 := hLA.r0
    have q1 := hLA.r1
    have q2 := hLA.r2
    have q3 := hLA.r3
    have qf := hLA.fz1
    have hT2 : T = listT l x := by rw [hT, list_rev, HXS.out]
    have HT := Lib.hid hT2
    have HLA := Lib.hid hLA
    clear hmT hT hT2 hLA
    subst huT
    gi_wp2
    have hK5 : (setFour W (w.heap.size + 1) (.int .i64 T.k) (.int .i64 T.n) (.string T.s) (.slice aT mT cT)).heap[Dd]? = some (.deferred (some [])) := (set_kept _ _ _ _ Dd (by omega)).trans hK
    obtain ⟨d0, d1, d2, d3⟩ := four_cells (.int .i64 T.k) (.int .i64 T.n) (.string T.s) (.slice aT mT cT) q0 q1 q2 q3
    have KP : ∀ {a v}, (setFour W (w.heap.size + 1) (.int .i64 T.k) (.int .i64 T.n) (.string T.s) (.slice aT mT cT)).cell? a = some v → ((setFour W (w.heap.size + 1) (.int .i64 T.k) (.int .i64 T.n) (.string T.s) (.slice aT mT cT)).putObj Dd (.deferred none)).cell? a = some v := fun h => cell_kept h (grownBy_putObj' _ Dd (.deferred none)) (fun r e => by cases e; exact ⟨_, hK5, rfl⟩)
    refine ⟨by simp, .inl ⟨_, _, rfl, run_takeDeferred hK5, ?_⟩⟩
    refine ⟨.agg #[.int .i64 T.k, .int .i64 T.n, .string T.s, .slice aT mT cT], ?_, _, rfl, ?_, ?_⟩
    · have p0 := KP d0
      have p1 := KP d1
      have p2 := KP d2
      have p3 := KP d3
      clear KP d0 d1 d2 d3 q0 q1 q2 q3 e0 e1 e2 e3 HXS HT
      obtain ⟨W6, hW6⟩ : ∃ W6, (setFour W (w.heap.size + 1) (.int .i64 T.k) (.int .i64 T.n) (.string T.s) (.slice aT mT cT)).putObj Dd (.deferred none) = W6 := ⟨_, rfl⟩
      rw [hW6] at p0 p1 p2 p3
      change (results Try.f15 _).run Try.prog ((setFour W (w.heap.size + 1) (.int .i64 T.k) (.int .i64 T.n) (.string T.s) (.slice aT mT cT)).putObj Dd (.deferred none)) = _
      rw [hW6, results_cell1 rfl]
      go_simp
      exact hW6.symm
    · rw [← HT.out]
      have hh := HLA.out.tm
      refine TmV.stay ⟨?_, fun a v hv => ?_⟩ _ _ hh
      · rw [hide_size, hide_size]
        have := (grownBy_putObj' (setFour W (w.heap.size + 1) (.int .i64 T.k) (.int .i64 T.n) (.string T.s) (.slice aT mT cT)) Dd (.deferred none)).size
        rw [set_size] at this
        exact this
      · cases hd : hid2 D w.heap.size a.block with
        | true => rw [hide_gone _ W a hd] at hv; cases hv
        | false =>
          rw [hide_cell _ W a hd] at hv
          rw [hide_cell _ _ a (plus_ne hd).1]
          exact KP ((World.cell?_of_block (set_kept _ _ _ _ a.block (plus_ne hd).2.2)).trans hv)
    · exact (four_below _ _ _ _ HLA.out.bel (by omega)).grown (grownBy_putObj' _ Dd (.deferred none)) (by rw [set_size]; have := HLA.out.big; omega) (fun k e => by cases e; omega)
  case stop =>
    rintro Dd cc pre W _ _ h _
    exact h.elim
end Go.Proofs.Ythikbenfhaglkaa
