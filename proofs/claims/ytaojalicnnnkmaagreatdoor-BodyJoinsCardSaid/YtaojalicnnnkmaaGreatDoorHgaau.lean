import Derived.Test.YtaojalicnnnkmaaGreatDoorHgaat
import Derived.Test.YtaojalicnnnkmaaGreatDoorHgaaf
import Derived.Laws.StructEq
import Derived.Test.YtaojalicnnnkmaaGreatDoorHgaaa
import Derived.Test.YtaojalicnnnkmaaGreatDoorCards
import Derived.Test.YtaojalicnnnkmaaGreatDoorTie
import Derived.LaidLaws
import Derived.Lay
import Derived.LaidSub
import Derived.SevenTiedAt
import Derived.Lib.LaidTab
import Derived.Stop.LaidErr
import Derived.Test.YtaojalicnnnkmaaGreatDoorHgaah
import Derived.Test.YtaojalicnnnkmaaGreatDoorHgaao
import Derived.Test.YtaojalicnnnkmaaGreatDoorHgaap
import Derived.Deep.RegionHeld3
import Derived.Deep.Quiet
import Derived.Test.YtaojalicnnnkmaaGreatDoorHgaab
set_option linter.unusedVariables false
set_option linter.unusedSimpArgs false
/- The project's reader: whole. -/
namespace Go.Proofs.YtaojalicnnnkmaaGreatDoor
open Go.Shelf Go.RowKit
set_option linter.unusedVariables false

theorem St.anew {D M : Nat → Bool} {w : World} {rb : Nat} {xs : List O} {s : RS} (h : St D M w rb xs s) : St D M ((w.setCell ⟨rb, 2, none⟩ (.int .i64 0)).setCell ⟨rb, 3, none⟩ (.slice none 0 0)) rb xs (anewR s.rest) ∧ Turn D M D M w ((w.setCell ⟨rb, 2, none⟩ (.int .i64 0)).setCell ⟨rb, 3, none⟩ (.slice none 0 0)) := by
  have hs : Stays (hide D w) (hide D ((w.setCell ⟨rb, 2, none⟩ (.int .i64 0)).setCell ⟨rb, 3, none⟩ (.slice none 0 0))) := (Stays.set ⟨rb, 2, none⟩ _ (h.md rb h.mb)).trans (Stays.set ⟨rb, 3, none⟩ _ (h.md rb h.mb))
  obtain ⟨vo, o1, o2⟩ := h.co
  obtain ⟨vl0, l1, l2⟩ := h.cl
  obtain ⟨vn, n1, n2, n3⟩ := h.c3
  refine ⟨{ mb := h.mb, md := h.md, old := h.old.mono (by simp [World.setCell])
            co := ⟨vo, by rw [near_cell (by decide), near_cell (by decide)]; exact o1, Elems.stay o2 hs⟩
            cl := ⟨vl0, by rw [near_cell (by decide), near_cell (by decide)]; exact l1, Elems.stay l2 hs⟩
            c2 := by rw [near_cell (by decide)]; exact css h.c2
            c3 := ⟨.slice none 0 0, css (by rw [near_cell (by decide)]; exact n1), World.ownsRow_nil _ _ _ _, fun k hk => (by cases hk)⟩
            fz := fun j => by rw [World.frozen?_setCell, World.frozen?_setCell]; exact h.fz j
            nice := ⟨by have := h.nice.1; show 0 + s.rest.length ≤ 2000; omega, Nat.le_refl _, h.nice.2.2.1, fun p hp => (by cases hp)⟩ }, ((Turn.refl D M w).set ⟨rb, 2, none⟩ _ (Or.inr h.mb)).set ⟨rb, 3, none⟩ _ (Or.inr h.mb)⟩
set_option maxHeartbeats 4000000 in
theorem whole_at {xs : List O} {D M : Nat → Bool} {w : World} {rb : Nat} {s : RS} (h : St D M w rb xs s) :
    Calls Tryz.prog 45 #[.pointer (some ⟨rb, 0, none⟩)] w (BPost D M w rb xs (wholeR (preO xs) (betO xs) s.rest)) := by
  obtain ⟨X, hX⟩ : ∃ X, wholeR (preO xs) (betO xs) s.rest = X := ⟨_, rfl⟩
  rw [hX]
  have HXX := Lib.hid hX
  obtain ⟨w1, hw1, hb1, hz1, hx1⟩ := box_new w #[.int .i64 0, .int .i64 0, .string ⟨#[]⟩, .slice none 0 0] 31
  have h1 := h.box hb1 (Nat.le_refl _) hx1.lt
  have HMd := Lib.hid h.md
  have HMB := Lib.hid (Old.out h (Nat.le_refl _))
  obtain ⟨h2, ht2⟩ := h1.anew
  have HT2 := Lib.hid ((Turn.into (D := D) (M := M) hb1 (Nat.le_refl _)).trans ht2)
  have hX2 := hx1.turn ht2 HMB.out
  have HX2 := Lib.hid hX2
  obtain ⟨vo, vl, vn, o0, o1, o2, o3, of, _⟩ := h1.parts
  obtain ⟨w2, hw2⟩ : ∃ w2, (w1.setCell ⟨rb, 2, none⟩ (.int .i64 0)).setCell ⟨rb, 3, none⟩ (.slice none 0 0) = w2 := ⟨_, rfl⟩
  rw [hw2] at h2 HT2 HX2
  have HTM := Lib.hid (term_at h2 1200)
  clear h hX h1 h2 ht2 hX2 hx1 hb1 hz1
  go_enter Tryz.func45, Tryz.ntmps45
  go_wp2_with fail
  (try rw [hw1])
  clear hw1
  go_wp2_with fail
  (try rw [hw2])
  clear hw2 o0 o1 o2 o3 of
  (go_wp2_with fail; go_fit (HTM.out); rintro e w3 ⟨D3, M3, t3, v3, lv3, ok, rfl, htv, ht3, ho3, hok3, hsm3⟩)
  obtain ⟨k3, n3, s3, a3, m3, c3, rfl⟩ := htv.full
  obtain ⟨w4, hw4, hb4, hz4, hx4⟩ := box_new w3 #[.int .i64 k3, .int .i64 n3, .string s3, .slice a3 m3 c3] 31
  have HDB := Lib.hid ((ht3.dd _ HX2.out.lt).trans (plusB_self D _))
  have HMB3 := Lib.hid ((ht3.mm _ HX2.out.lt).trans HMB.out)
  have HX4 := Lib.hid ((HX2.out.turn ht3 HMB.out).ext hb4)
  have HT4 := Lib.hid ((HT2.out.trans ht3).trans (Turn.below hb4))
  have HV4 := Lib.hid (TmV.later hb4 htv)
  have HO4 := Lib.hid (ho3.later hb4.size)
  have HSM := Lib.hid hsm3
  have HOK := Lib.hid hok3
  have HB4 := Lib.hid hb4
  obtain ⟨x0, x1, x2, x3, xf⟩ := hx4.four
  obtain ⟨r0, r1, r2, r3, rf⟩ := HX4.out.four
  have hne : w3.heap.size ≠ w.heap.size := by have := (HX2.out.turn ht3 HMB.out).lt; omega
  have HXX4 := Lib.hid hx4
  have HMX := Lib.hid (show M3 w3.heap.size = false from by
    cases hm : M3 w3.heap.size with
    | false => rfl
    | true => have h0 := ho3.1 _ hm; rw [ho3.2 _ (Nat.le_refl _)] at h0; cases h0)
  clear htv ht3 ho3 hok3 hsm3 hb4 hz4 hx4 HTM
  cases hM : TERMX xs 1200 (anewR s.rest) with
  | none =>
    obtain rfl : ok = false := by rw [HOK.out, hM]; rfl
    have HN := Lib.hid (show X = none by rw [← HXX.out]; unfold wholeR; rw [show TERM (preO xs) (betO xs) 1200 (anewR s.rest) = none from hM])
    clear hM
    go_wp2_with fail
    (try rw [hw4])
    clear hw4
    go_wp2_with fail
    refine wp_region_held_drew (S := fun w' => w'.cell? ⟨w3.heap.size, 0, none⟩ = some (.int .i64 k3) ∧ w'.cell? ⟨w3.heap.size, 1, none⟩ = some (.int .i64 n3) ∧ w'.cell? ⟨w3.heap.size, 2, none⟩ = some (.string s3) ∧ w'.cell? ⟨w3.heap.size, 3, none⟩ = some (.slice a3 m3 c3)) (by kernel_rfl) ⟨x0, x1, x2, x3⟩ (fun hHeld => ?_)
    first | (refine held_t (i := 0) hHeld ?_; apply Exists.intro; refine ⟨fun wq hq => ?_, ?_⟩; (focus ((try dsimp only at hq); go_simp; (first | done | with_reducible rfl | fail)))) | refine held_s (i := 0) hHeld ?_ | fail
    first | (refine held_t (i := 1) hHeld ?_; apply Exists.intro; refine ⟨fun wq hq => ?_, ?_⟩; (focus ((try dsimp only at hq); go_simp; (first | done | with_reducible rfl | fail)))) | refine held_s (i := 1) hHeld ?_ | fail
    first | (refine held_t (i := 2) hHeld ?_; apply Exists.intro; refine ⟨fun wq hq => ?_, ?_⟩; (focus ((try dsimp only at hq); go_simp; (first | done | with_reducible rfl | fail)))) | refine held_s (i := 2) hHeld ?_ | fail
    first | (refine held_t (i := 3) hHeld ?_; apply Exists.intro; refine ⟨fun wq hq => ?_, ?_⟩; (focus ((try dsimp only at hq); go_simp; (first | done | with_reducible rfl | fail)))) | refine held_s (i := 3) hHeld ?_ | fail
    first | (refine held_t (i := 4) hHeld ?_; apply Exists.intro; refine ⟨fun wq hq => ?_, ?_⟩; (focus ((try dsimp only at hq); go_simp; (first | done | with_reducible rfl | fail)))) | refine held_s (i := 4) hHeld ?_ | fail
    first | (refine held_t (i := 5) hHeld ?_; apply Exists.intro; refine ⟨fun wq hq => ?_, ?_⟩; (focus ((try dsimp only at hq); go_simp; (first | done | with_reducible rfl | fail)))) | refine held_s (i := 5) hHeld ?_ | fail
    first | (refine held_t (i := 6) hHeld ?_; apply Exists.intro; refine ⟨fun wq hq => ?_, ?_⟩; (focus ((try dsimp only at hq); go_simp; (first | done | with_reducible rfl | fail)))) | refine held_s (i := 6) hHeld ?_ | fail
    first | (refine held_t (i := 7) hHeld ?_; apply Exists.intro; refine ⟨fun wq hq => ?_, ?_⟩; (focus ((try dsimp only at hq); go_simp; (first | done | with_reducible rfl | fail)))) | refine held_s (i := 7) hHeld ?_ | fail
    try simp only [Act.put, List.setIfInBounds_toArray, List.set_cons_zero, List.set_cons_succ]
    refine held_c 8 fun K hK => ?_
    go_simp
    skip
    refine hK.out _ _ (⟨far4 hHeld.1 hne _ _ _ _, far4 hHeld.2.1 hne _ _ _ _, far4 hHeld.2.2.1 hne _ _ _ _, far4 hHeld.2.2.2 hne _ _ _ _⟩) (fun hHeld => ?_)
    clear hK K
    try simp only [Act.put, List.setIfInBounds_toArray, List.set_cons_zero, List.set_cons_succ]
    first | (refine held_t (i := 9) hHeld ?_; apply Exists.intro; refine ⟨fun wq hq => ?_, ?_⟩; (focus ((try dsimp only at hq); go_simp; (first | done | with_reducible rfl | fail)))) | refine held_s (i := 9) hHeld ?_ | fail
    try simp only [Act.put, List.setIfInBounds_toArray, List.set_cons_zero, List.set_cons_succ]
    refine wpAnyH_done (by kernel_rfl) ?_ _
    go_wp2
    refine bodyPost_ret (v := .tuple #[.agg #[.int .i64 k3, .int .i64 n3, .string s3, .slice a3 m3 c3], .bool false]) (by rw [results_cell_tmp rfl]; go_simp) rfl ?_
    exact bdone_none (HT4.out.trans (Turn.below (Below.refl _ _).drew)) (HO4.out.later (Nat.le_refl _)) HMd.out (Nat.le_refl _) HDB.out (TmV.later (Below.refl _ _).drew HV4.out) HN.out
  | some q =>
    obtain ⟨⟨tq, lq⟩, s1⟩ := q
    obtain rfl : ok = true := by rw [HOK.out, hM]; rfl
    obtain ⟨rfl, rfl, hs3⟩ := HSM.out _ _ hM
    have hs4 := (hs3.later HB4.out).later (Below.refl _ _).drew
    have hTK := take_at hs4
    obtain ⟨q, hq⟩ : ∃ q, headR s1 = q := ⟨_, rfl⟩
    rw [hq] at hTK
    have HTK := Lib.hid hTK
    have HMD := Lib.hid hs4.md
    have HN := Lib.hid (show X = if q.1.kind = 6 then some (t3, dropR s1) else none by rw [← HXX.out]; unfold wholeR; rw [show TERM (preO xs) (betO xs) 1200 (anewR s.rest) = some ((t3, lv3), s1) from hM]; simp only [hq])
    have hfd : ∀ wq : World, (Instr.field 125 (tkVal q) 0).run Tryz.prog wq = .ok (.int .i64 (q.1.kind : Int)) wq := fun _ => by kernel_rfl
    clear hM hs3 hs4 hTK hq
    by_cases hk : q.1.kind = 6
    · have hk' : ((q.1.kind : Int) == 6) = true := by rw [hk]; rfl
      have HN2 := Lib.hid (HN.out.trans (if_pos hk))
      clear hk
      go_wp2_with fail
      (try rw [hw4])
      clear hw4
      go_wp2_with fail
      refine wp_region_held_drew (S := fun w' => w'.cell? ⟨w3.heap.size, 0, none⟩ = some (.int .i64 k3) ∧ w'.cell? ⟨w3.heap.size, 1, none⟩ = some (.int .i64 n3) ∧ w'.cell? ⟨w3.heap.size, 2, none⟩ = some (.string s3) ∧ w'.cell? ⟨w3.heap.size, 3, none⟩ = some (.slice a3 m3 c3)) (by kernel_rfl) ⟨x0, x1, x2, x3⟩ (fun hHeld => ?_)
      first | (refine held_t (i := 0) hHeld ?_; apply Exists.intro; refine ⟨fun wq hq => ?_, ?_⟩; (focus ((try dsimp only at hq); go_simp; (first | done | with_reducible rfl | fail)))) | refine held_s (i := 0) hHeld ?_ | fail
      first | (refine held_t (i := 1) hHeld ?_; apply Exists.intro; refine ⟨fun wq hq => ?_, ?_⟩; (focus ((try dsimp only at hq); go_simp; (first | done | with_reducible rfl | fail)))) | refine held_s (i := 1) hHeld ?_ | fail
      first | (refine held_t (i := 2) hHeld ?_; apply Exists.intro; refine ⟨fun wq hq => ?_, ?_⟩; (focus ((try dsimp only at hq); go_simp; (first | done | with_reducible rfl | fail)))) | refine held_s (i := 2) hHeld ?_ | fail
      first | (refine held_t (i := 3) hHeld ?_; apply Exists.intro; refine ⟨fun wq hq => ?_, ?_⟩; (focus ((try dsimp only at hq); go_simp; (first | done | with_reducible rfl | fail)))) | refine held_s (i := 3) hHeld ?_ | fail
      try simp only [Act.put, List.setIfInBounds_toArray, List.set_cons_zero, List.set_cons_succ]
      refine held_c 4 fun K hK => ?_
      go_simp
      (go_at_call 66; refine HTK.out.mono ?_; rintro e w5 ⟨rfl, hs5, ht5⟩; obtain ⟨r0, r1, r2, r3, rf⟩ := ((HX4.out.ext (Below.refl _ _).drew).turn ht5 HMB3.out).four; have HXX5 := Lib.hid ((HXX4.out.ext (Below.refl _ _).drew).turn ht5 HMX.out); have HS5 := Lib.hid hs5; have HT5 := Lib.hid ht5)
      refine hK.out _ _ (HXX5.out.four_of) (fun hHeld => ?_)
      clear hK K
      try simp only [Act.put, List.setIfInBounds_toArray, List.set_cons_zero, List.set_cons_succ]
      first | (refine held_t (i := 5) hHeld ?_; apply Exists.intro; refine ⟨fun wq hq => ?_, ?_⟩; (focus ((try dsimp only at hq); go_simp; (first | done | with_reducible rfl | fail)))) | refine held_s (i := 5) hHeld ?_ | fail
      first | (refine held_t (i := 6) hHeld ?_; apply Exists.intro; refine ⟨fun wq hq => ?_, ?_⟩; (focus ((try dsimp only at hq); go_simp; (first | done | with_reducible rfl | fail)))) | refine held_s (i := 6) hHeld ?_ | fail
      first | (refine held_t (i := 7) hHeld ?_; apply Exists.intro; refine ⟨fun wq hq => ?_, ?_⟩; (focus ((try dsimp only at hq); go_simp; (first | done | with_reducible rfl | fail)))) | refine held_s (i := 7) hHeld ?_ | fail
      try simp only [Act.put, List.setIfInBounds_toArray, List.set_cons_zero, List.set_cons_succ]
      refine held_c 8 fun K hK => ?_
      go_simp
      skip
      refine hK.out _ _ (⟨far4 hHeld.1 hne _ _ _ _, far4 hHeld.2.1 hne _ _ _ _, far4 hHeld.2.2.1 hne _ _ _ _, far4 hHeld.2.2.2 hne _ _ _ _⟩) (fun hHeld => ?_)
      clear hK K
      try simp only [Act.put, List.setIfInBounds_toArray, List.set_cons_zero, List.set_cons_succ]
      first | (refine held_t (i := 9) hHeld ?_; apply Exists.intro; refine ⟨fun wq hq => ?_, ?_⟩; (focus ((try dsimp only at hq); go_simp; (first | done | with_reducible rfl | fail)))) | refine held_s (i := 9) hHeld ?_ | fail
      try simp only [Act.put, List.setIfInBounds_toArray, List.set_cons_zero, List.set_cons_succ]
      refine wpAnyH_done (by kernel_rfl) ?_ _
      go_wp2
      refine bodyPost_ret (v := .tuple #[.agg #[.int .i64 k3, .int .i64 n3, .string s3, .slice a3 m3 c3], .bool true]) (by rw [results_cell_tmp rfl]; go_simp) rfl ?_
      exact bdone_some ((HT4.out.trans (Turn.below (Below.refl _ _).drew)).trans HT5.out) HS5.out HMd.out (Nat.le_refl _) HDB.out HMB3.out (TmV.stay (HT5.out.stays HMD.out) _ _ (TmV.later (Below.refl _ _).drew HV4.out)) HN2.out
    · have hk' : ((q.1.kind : Int) == 6) = false := beq_false_of_ne (by omega)
      have HN2 := Lib.hid (HN.out.trans (if_neg hk))
      clear hk
      go_wp2_with fail
      (try rw [hw4])
      clear hw4
      go_wp2_with fail
      refine wp_region_held_drew (S := fun w' => w'.cell? ⟨w3.heap.size, 0, none⟩ = some (.int .i64 k3) ∧ w'.cell? ⟨w3.heap.size, 1, none⟩ = some (.int .i64 n3) ∧ w'.cell? ⟨w3.heap.size, 2, none⟩ = some (.string s3) ∧ w'.cell? ⟨w3.heap.size, 3, none⟩ = some (.slice a3 m3 c3)) (by kernel_rfl) ⟨x0, x1, x2, x3⟩ (fun hHeld => ?_)
      first | (refine held_t (i := 0) hHeld ?_; apply Exists.intro; refine ⟨fun wq hq => ?_, ?_⟩; (focus ((try dsimp only at hq); go_simp; (first | done | with_reducible rfl | fail)))) | refine held_s (i := 0) hHeld ?_ | fail
      first | (refine held_t (i := 1) hHeld ?_; apply Exists.intro; refine ⟨fun wq hq => ?_, ?_⟩; (focus ((try dsimp only at hq); go_simp; (first | done | with_reducible rfl | fail)))) | refine held_s (i := 1) hHeld ?_ | fail
      first | (refine held_t (i := 2) hHeld ?_; apply Exists.intro; refine ⟨fun wq hq => ?_, ?_⟩; (focus ((try dsimp only at hq); go_simp; (first | done | with_reducible rfl | fail)))) | refine held_s (i := 2) hHeld ?_ | fail
      first | (refine held_t (i := 3) hHeld ?_; apply Exists.intro; refine ⟨fun wq hq => ?_, ?_⟩; (focus ((try dsimp only at hq); go_simp; (first | done | with_reducible rfl | fail)))) | refine held_s (i := 3) hHeld ?_ | fail
      try simp only [Act.put, List.setIfInBounds_toArray, List.set_cons_zero, List.set_cons_succ]
      refine held_c 4 fun K hK => ?_
      go_simp
      (go_at_call 66; refine HTK.out.mono ?_; rintro e w5 ⟨rfl, hs5, ht5⟩; obtain ⟨r0, r1, r2, r3, rf⟩ := ((HX4.out.ext (Below.refl _ _).drew).turn ht5 HMB3.out).four; have HXX5 := Lib.hid ((HXX4.out.ext (Below.refl _ _).drew).turn ht5 HMX.out); have HS5 := Lib.hid hs5; have HT5 := Lib.hid ht5)
      refine hK.out _ _ (HXX5.out.four_of) (fun hHeld => ?_)
      clear hK K
      try simp only [Act.put, List.setIfInBounds_toArray, List.set_cons_zero, List.set_cons_succ]
      first | (refine held_t (i := 5) hHeld ?_; apply Exists.intro; refine ⟨fun wq hq => ?_, ?_⟩; (focus ((try dsimp only at hq); go_simp; (first | done | with_reducible rfl | fail)))) | refine held_s (i := 5) hHeld ?_ | fail
      first | (refine held_t (i := 6) hHeld ?_; apply Exists.intro; refine ⟨fun wq hq => ?_, ?_⟩; (focus ((try dsimp only at hq); go_simp; (first | done | with_reducible rfl | fail)))) | refine held_s (i := 6) hHeld ?_ | fail
      first | (refine held_t (i := 7) hHeld ?_; apply Exists.intro; refine ⟨fun wq hq => ?_, ?_⟩; (focus ((try dsimp only at hq); go_simp; (first | done | with_reducible rfl | fail)))) | refine held_s (i := 7) hHeld ?_ | fail
      try simp only [Act.put, List.setIfInBounds_toArray, List.set_cons_zero, List.set_cons_succ]
      refine held_c 8 fun K hK => ?_
      go_simp
      skip
      refine hK.out _ _ (⟨far4 hHeld.1 hne _ _ _ _, far4 hHeld.2.1 hne _ _ _ _, far4 hHeld.2.2.1 hne _ _ _ _, far4 hHeld.2.2.2 hne _ _ _ _⟩) (fun hHeld => ?_)
      clear hK K
      try simp only [Act.put, List.setIfInBounds_toArray, List.set_cons_zero, List.set_cons_succ]
      first | (refine held_t (i := 9) hHeld ?_; apply Exists.intro; refine ⟨fun wq hq => ?_, ?_⟩; (focus ((try dsimp only at hq); go_simp; (first | done | with_reducible rfl | fail)))) | refine held_s (i := 9) hHeld ?_ | fail
      try simp only [Act.put, List.setIfInBounds_toArray, List.set_cons_zero, List.set_cons_succ]
      refine wpAnyH_done (by kernel_rfl) ?_ _
      go_wp2
      refine bodyPost_ret (v := .tuple #[.agg #[.int .i64 k3, .int .i64 n3, .string s3, .slice a3 m3 c3], .bool false]) (by rw [results_cell_tmp rfl]; go_simp) rfl ?_
      exact bdone_none ((HT4.out.trans (Turn.below (Below.refl _ _).drew)).trans HT5.out) HS5.out.okd HMd.out (Nat.le_refl _) HDB.out (TmV.stay (HT5.out.stays HMD.out) _ _ (TmV.later (Below.refl _ _).drew HV4.out)) HN2.out
end Go.Proofs.YtaojalicnnnkmaaGreatDoor
/- The project's reader: Term, All. -/
namespace Go.Proofs.YtaojalicnnnkmaaGreatDoor
open Go.Shelf Go.RowKit
set_option linter.unusedVariables false

theorem tok_ok (c : UInt8) (r : List UInt8) (t : TokB) (h : nextC c r = .tok t) : t.text.length ≤ r.length + 65 ∧ t.n ≤ 9223372036854775807 := by
  have base : ∀ (kind : Nat) (text : List UInt8) (n k : Nat) (s : List UInt8), text.length ≤ r.length + 65 → n ≤ 9223372036854775807 → tokB kind text n k s = .tok t → t.text.length ≤ r.length + 65 ∧ t.n ≤ 9223372036854775807 := fun kind text n k s h1 h2 he => by
    unfold tokB at he
    cases he
    exact ⟨h1, h2⟩
  have name : ∀ (k : Nat), nameB k (c :: r) = .tok t → t.text.length ≤ r.length + 65 ∧ t.n ≤ 9223372036854775807 := fun k he => by
    unfold nameB at he
    split at he
    · exact base _ _ _ _ _ (by rw [List.length_take, List.length_cons]; omega) (by omega) he
    · cases he
  unfold nextC at h
  by_cases h1 : blankB c = true
  · rw [if_pos h1] at h; cases h
  rw [if_neg h1] at h
  by_cases h2 : (c == 37) = true
  · rw [if_pos h2] at h; cases h
  rw [if_neg h2] at h
  by_cases h3 : smallB c = true
  · rw [if_pos h3] at h; exact name _ h
  rw [if_neg h3] at h
  by_cases h4 : greatB c = true
  · rw [if_pos h4] at h; exact base _ _ _ _ _ (by rw [List.length_take, List.length_cons]; omega) (by omega) h
  rw [if_neg h4] at h
  by_cases h5 : digitB c = true
  · rw [if_pos h5] at h
    split at h
    · rename_i hn
      exact base _ _ _ _ _ (by simp) (of_decide_eq_true hn) h
    · cases h
  rw [if_neg h5] at h
  by_cases h6 : (c == 39) = true
  · rw [if_pos h6] at h
    cases hq : quoB r with
    | none => rw [hq] at h; cases h
    | some p =>
      rw [hq] at h
      simp only at h
      split at h
      · rename_i hl
        have hl : p.1.length ≤ 64 := by simpa using hl
        exact base _ _ _ _ _ (by omega) (by omega) h
      · cases h
  rw [if_neg h6] at h
  by_cases h7 : (c == 46 && endB r) = true
  · rw [if_pos h7] at h; exact base _ _ _ _ _ (by simp) (by omega) h
  rw [if_neg h7] at h
  by_cases h8 : symB c = true
  · rw [if_pos h8] at h; exact name _ h
  rw [if_neg h8] at h
  by_cases h9 : (c == 59 || c == 33) = true
  · rw [if_pos h9] at h; exact name _ h
  rw [if_neg h9] at h
  by_cases h10 : ((c == 91 && r.head? == some 93) || (c == 123 && r.head? == some 125)) = true
  · rw [if_pos h10] at h; exact name _ h
  rw [if_neg h10] at h
  by_cases h11 : [40, 41, 91, 93, 123, 125, 44, 124].contains c = true
  · rw [if_pos h11] at h; exact base _ _ _ _ _ (by simp) (by omega) h
  rw [if_neg h11] at h
  cases h
theorem lex_ok : ∀ (n p : Nat) (s : List UInt8) (x : List (TokB × Nat)), lexL n p s = some x → ∀ q ∈ x, q.1.text.length ≤ s.length + 64 ∧ q.1.n ≤ 9223372036854775807 ∧ q.2 ≤ p + s.length
  | n, p, [], x, h, q, hq => by rw [lex_nil] at h; cases h; cases hq
  | 0, p, c :: r, x, h, q, hq => by cases h
  | n + 1, p, c :: r, x, h, q, hq => by
    rw [lexL] at h
    have hnl := next_len c r
    cases hn : nextC c r with
    | skip k =>
      rw [hn] at h hnl
      have hk : k ≤ r.length + 1 := hnl
      have := lex_ok n (p + k) _ x h q hq
      rw [List.length_drop, List.length_cons] at this
      rw [List.length_cons]
      omega
    | tok u =>
      rw [hn] at h hnl
      have hk : u.len ≤ r.length + 1 := hnl
      obtain ⟨l, hl, he⟩ := Option.map_eq_some_iff.1 h
      cases he
      have ho := tok_ok c r u hn
      rw [List.length_cons]
      rcases List.mem_cons.1 hq with rfl | hq
      · simp only
        omega
      · have := lex_ok n (p + u.len) _ l hl q hq
        rw [List.length_drop, List.length_cons] at this
        omega
    | bad o => rw [hn] at h; cases h
theorem cut_toks {s : List UInt8} {l : List TokP} (h : cutB s = .ok l) : l.length ≤ 1024 ∧ ∀ q ∈ l, tokOk q := by
  obtain ⟨h1, h2, h3⟩ := cutB_ok.1 h
  refine ⟨h3, fun q hq => ?_⟩
  have := lex_ok _ _ _ _ h2 q hq
  exact ⟨this.2.1, by omega, by omega⟩
/-- What a text reads as: one term, or all. -/
def readB {α : Type} (f : (List UInt8 → O × Bool) → (List UInt8 → O × Bool) → List TokP → ReadR α) (xs : List O) (s : List UInt8) : ReadR α :=
  if goodB xs then (match cutB s with | .ok l => f (preO xs) (betO xs) l | .bad p o => .bad (if o then 3 else 2)) else .bad 1
/-- What begin leaves. -/
def BegX (E : Nat → Bool) (w : World) (xs : List O) (g : Bool) (X : CutR) (e : Ending) (w' : World) : Prop :=
  (if g then (match X with
    | .ok l => ∃ rb D M, w.heap.size ≤ rb ∧ e = .returned (.tuple #[.pointer (some ⟨rb, 0, none⟩), .int .i64 0]) ∧ St D M w' rb xs ⟨l, 0, []⟩ ∧ (∀ k, k < w.heap.size → D k = E k ∧ M k = false)
    | .bad p o => e = .returned (.tuple #[.pointer none, .int .i64 (if o then 3 else 2)]))
   else e = .returned (.tuple #[.pointer none, .int .i64 1])) ∧ Below w.heap.size w w'
set_option maxHeartbeats 2000000 in
theorem begin_at {E : Nat → Bool} {xs : List O} {w : World} {v : Value} (hE : Old E w) (h : Ops (hide E w) v xs) (s : ByteArray) (he : Err w) (hs : s.size ≤ 140737488351232) :
    Calls Tryz.prog 44 #[.agg #[v], .string s] w (BegX E w xs (goodB xs) (cutB (bl s))) := by
  obtain ⟨ao, co, rfl, hl1, hl2⟩ := h.form
  obtain ⟨mo, hmo⟩ : ∃ m, xs.length = m := ⟨_, rfl⟩
  rw [hmo] at h hl1; rw [hmo]
  obtain ⟨w1, hw1, hb1, hz1, hx1⟩ := box_new w #[.slice ao mo co] 67
  have HG := good_walk (h.bare.ext hb1)
  obtain ⟨g, hg⟩ : ∃ g, goodB xs = g := ⟨_, rfl⟩
  rw [hg] at HG
  have HG := Lib.hid HG
  have HC := Lib.hid (fun wq (hb : Below w.heap.size w wq) => cut_any s wq (he.ext hb) hs)
  have c0 := hx1.cells 0 _ rfl
  have HX1 := Lib.hid hx1
  have HO := Lib.hid h
  obtain ⟨X, hX⟩ : ∃ X, cutB (bl s) = X := ⟨_, rfl⟩
  rw [hX] at HC
  rw [hg, hX]
  have HXX := Lib.hid hX
  have HB1 := Lib.hid hb1
  have HOE := Lib.hid hE
  clear h hE he hs hb1 hz1 hx1 hX hg hl1 hl2 hmo
  cases g with
  | false =>
    go_enter Tryz.func44, Tryz.ntmps44
    go_wp2_with fail
    (try rw [hw1])
    clear hw1
    (go_wp2_with fail; go_fit (HG.out); rintro e w2 ⟨rfl, hb2⟩)
    have HB2 := Lib.hid (Ext.trans' HB1.out hb2)
    clear hb2
    go_wp2
    go_ret2
    exact ⟨rfl, HB2.out⟩
  | true =>
    go_enter Tryz.func44, Tryz.ntmps44
    go_wp2_with fail
    (try rw [hw1])
    clear hw1
    (go_wp2_with fail; go_fit (HG.out); rintro e w2 ⟨rfl, hb2⟩)
    have HB2 := Lib.hid (Ext.trans' HB1.out hb2)
    have c0 := cell_later hb2 c0
    have HX2 := Lib.hid (HX1.out.ext hb2)
    clear hb2
    cases X with
    | bad p o =>
      have HC2 : Hid (Calls Tryz.prog 64 #[.string s] w2 fun e w' => e = .returned (.tuple #[.slice none 0 0, .int .i64 (p : Int), .int .i64 (if o then 3 else 2)]) ∧ Below w2.heap.size w2 w') := Lib.hid ((HC.out w2 HB2.out).mono fun e w' h => h)
      cases o
      all_goals
        (go_wp2_with fail; go_fit (HC2.out); rintro e w3 ⟨rfl, hb3⟩)
        have HB3 := Lib.hid (Ext.trans' HB2.out hb3)
        clear hb3
        go_wp2
        go_ret2
        exact ⟨rfl, HB3.out⟩
    | ok l =>
      obtain ⟨ml, hml⟩ : ∃ m, l.length = m := ⟨_, rfl⟩
      have HC2 : Hid (Calls Tryz.prog 64 #[.string s] w2 fun e w' => ∃ (al : Option Addr) (cl : Nat), e = .returned (.tuple #[.slice al ml cl, .int .i64 (s.size : Int), .int .i64 0]) ∧ RowT w' w2.heap.size (.slice al ml cl) l ∧ Below w2.heap.size w2 w') := Lib.hid ((HC.out w2 HB2.out).mono fun e w' h => by
        obtain ⟨⟨al, cl, h1, h2⟩, h3⟩ := h
        rw [hml] at h1 h2
        refine ⟨al, cl, h1, ?_, h3⟩
        exact h2)
      (go_wp2_with fail; go_fit (HC2.out); rintro e w3 ⟨al, cl, rfl, htk, hb3⟩)
      have c0 := cell_later hb3 c0
      have HTk := Lib.hid htk
      have HB3 := Lib.hid (Ext.trans' HB2.out hb3)
      clear hb3 htk HC HC2 HG hml
      go_wp2
      go_ret2
      obtain ⟨w4, hw4, hb4, hz4, hx4⟩ := box_new w3 #[.slice ao mo co, .slice al ml cl, .int .i64 0, .slice none 0 0] 90
      rw [hw4]
      obtain ⟨r0, r1, r2, r3, rf⟩ := hx4.four
      have hB4 := Ext.trans' HB3.out hb4
      have hct := cut_toks HXX.out
      have hst : Stays (hide E w) (hide (fun k => k == w3.heap.size || E k) w4) := Stays.hide hB4.size fun k hk hd => ⟨by have := HB3.out.size; simp [hd]; omega, hB4.block k hk⟩
      have htk4 : RowT (hide (fun k => k == w3.heap.size || E k) w4) w2.heap.size (.slice al ml cl) l := row_at HTk.out (fun g hg => by
        have h1 := row_in HTk.out hg
        have h2 := HB2.out.size
        rw [hide_get _ _ _ (by simp [HOE.out g (Nat.le_trans h2 h1.1)]; omega)]
        exact hb4.block g h1.2)
      refine ⟨⟨w3.heap.size, fun k => k == w3.heap.size || E k, fun k => k == w3.heap.size, HB3.out.size, rfl, ?_, fun k hk => by have := HB3.out.size; constructor <;> simp <;> omega⟩, hB4⟩
      exact { mb := by simp, md := fun k hk => by simp at hk; simp [hk], old := fun k hk => by have h1 := hx4.lt; have h2 := HOE.out k (Nat.le_trans hB4.size hk); simp [h2]; omega
              co := ⟨_, r0, Elems.stay HO.out hst⟩
              cl := ⟨_, r1, Elems.owned tCells_len htk4⟩
              c2 := r2, c3 := ⟨_, r3, World.ownsRow_nil _ _ _ _, fun k hk => by cases hk⟩, fz := rf
              nice := ⟨by show 0 + l.length ≤ 2000; omega, Nat.le_refl _, hct.2, fun p hp => by cases hp⟩ }
end Go.Proofs.YtaojalicnnnkmaaGreatDoor
/- The project's reader: Term. -/
namespace Go.Proofs.YtaojalicnnnkmaaGreatDoor
open Go.Shelf Go.RowKit
set_option linter.unusedVariables false

/-- What stands before whole is called. -/
theorem one_bad {xs : List O} {s : List UInt8} {l : List TokP} (hg : goodB xs = true) (hc : cutB s = .ok l) (h : wholeR (preO xs) (betO xs) l = none) : readB oneR xs s = .bad 2 := by
  unfold readB oneR; rw [hg, hc]; simp only [if_true]; rw [h]
theorem one_more {xs : List O} {s : List UInt8} {l : List TokP} {t : Tm} {s1 : RS} (hg : goodB xs = true) (hc : cutB s = .ok l) (h : wholeR (preO xs) (betO xs) l = some (t, s1)) (hr : s1.rest ≠ []) : readB oneR xs s = .bad 2 := by
  unfold readB oneR; rw [hg, hc]; simp only [if_true]; rw [h]; simp [hr]
theorem one_over {xs : List O} {s : List UInt8} {l : List TokP} {t : Tm} {s1 : RS} (hg : goodB xs = true) (hc : cutB s = .ok l) (h : wholeR (preO xs) (betO xs) l = some (t, s1)) (hr : s1.rest = []) (hb : goodT t = false) : readB oneR xs s = .bad 3 := by
  unfold readB oneR; rw [hg, hc]; simp only [if_true]; rw [h]; simp [hr, hb]
theorem one_ok {xs : List O} {s : List UInt8} {l : List TokP} {t : Tm} {s1 : RS} (hg : goodB xs = true) (hc : cutB s = .ok l) (h : wholeR (preO xs) (betO xs) l = some (t, s1)) (hr : s1.rest = []) (hb : goodT t = true) : readB oneR xs s = .ok (t, s1.names) := by
  unfold readB oneR; rw [hg, hc]; simp only [if_true]; rw [h]; simp [hr, hb]
theorem toks_len {w : World} {v : Value} {l : List TokP} (h : Toks w v l) : ∃ a c, v = .slice a l.length c := h.form
end Go.Proofs.YtaojalicnnnkmaaGreatDoor
/- What Term reads, apart from blocks that are not looked at. -/
namespace Go.Proofs.YtaojalicnnnkmaaGreatDoor
open Go.Shelf Go.RowKit
set_option linter.unusedVariables false
set_option maxRecDepth 100000

def TermXh (D0 : Nat → Bool) (w : World) (X : ReadR (Tm × List NmP)) (e : Ending) (w' : World) : Prop :=
  (match X with
    | .ok (t, names) => ∃ v vn, e = .returned (.tuple #[v, vn, .int .i64 0]) ∧ TmV (hide D0 w') t v ∧ Nms w' vn names
    | .bad k => e = .returned (.tuple #[.agg #[.int .i64 0, .int .i64 0, .string ⟨#[]⟩, .slice none 0 0], .slice none 0 0, .int .i64 k])) ∧ Below w.heap.size w w'
set_option maxHeartbeats 4000000 in
theorem term8_hide {D0 : Nat → Bool} {xs : List O} {w : World} {v : Value} (hD0 : Old D0 w) (h : Ops (hide D0 w) v xs) (s : ByteArray) (he : Err w) (hs : s.size ≤ 140737488351232) :
    Calls Tryz.prog 28 #[.agg #[v], .string s] w (TermXh D0 w (readB oneR xs (bl s))) := by
  obtain ⟨X, hX⟩ : ∃ X, readB oneR xs (bl s) = X := ⟨_, rfl⟩
  rw [hX]
  obtain ⟨ao, co, hvo, hl1, hl2⟩ := h.form
  obtain ⟨w1, hw1, hb1, hz1, hx1⟩ := box_new w #[v] 67
  obtain ⟨w2, hw2, hb2, hz2, hx2⟩ := box_new w1 #[.int .i64 0, .int .i64 0, .string ⟨#[]⟩, .slice none 0 0] 31
  have hB2 := Ext.trans' hb1 hb2
  have hE : Old (fun k => k == w1.heap.size || D0 k) w2 := fun k hk => by
    have := hx2.lt
    have h1 := hD0 k (by have := hB2.size; omega)
    have h2 : (k == w1.heap.size) = false := beq_false_of_ne (by omega)
    simp only [h1, h2, Bool.or_self]
  have hST : Stays (hide D0 w) (hide (fun k => k == w1.heap.size || D0 k) w2) := Stays.below hB2 fun k hk hd => by
    have h2 : (k == w1.heap.size) = false := beq_false_of_ne (by have := hb1.size; omega)
    simp only [hd, h2, Bool.or_self]
  have HBG := Lib.hid (begin_at hE (Elems.stay h hST) s (he.ext hB2) hs)
  obtain ⟨mo, hmo⟩ : ∃ m, xs.length = m := ⟨_, rfl⟩
  rw [hmo] at hvo
  subst hvo
  have c0 := (hx1.ext hb2).cells 0 _ rfl
  have HX2 := Lib.hid hx2
  have HB2 := Lib.hid hB2
  have HSB := Lib.hid hb1.size
  have HXX := Lib.hid hX
  have HD0 := Lib.hid hD0
  have HB2s := Lib.hid hB2.size
  clear hST hD0 h he hb1 hb2 hz1 hz2 hx1 hx2 hB2 hl1 hl2 hmo hX hs
  go_enter Tryz.func28, Tryz.ntmps28
  go_wp2_with fail
  (try rw [hw1])
  (try rw [hw2])
  clear hw1 hw2
  cases hg : goodB xs with
  | false =>
    have HB : Hid (Calls Tryz.prog 44 #[.agg #[.slice ao mo co], .string s] w2 fun e w' => e = .returned (.tuple #[.pointer none, .int .i64 1]) ∧ Below w2.heap.size w2 w') := Lib.hid (HBG.out.mono fun e w' h => by rw [hg] at h; exact h)
    have HN := Lib.hid (show X = .bad 1 by rw [← HXX.out]; unfold readB; rw [hg]; rfl)
    clear hg HBG
    (go_wp2_with fail; go_fit (HB.out); rintro e w3 ⟨rfl, hb3⟩)
    have HB3 := Lib.hid (Ext.trans' HB2.out hb3)
    obtain ⟨r0, r1, r2, r3, rf⟩ := (HX2.out.ext hb3).four
    clear hb3 c0
    go_wp2
    refine bodyPost_ret (v := .tuple #[.agg #[.int .i64 0, .int .i64 0, .string ⟨#[]⟩, .slice none 0 0], .slice none 0 0, .int .i64 1]) (by rw [results_cell3 rfl]; go_simp) rfl ?_
    rw [HN.out]
    exact ⟨rfl, Below.set4 HB3.out HSB.out _ _ _ _⟩
  | true =>
  cases hc : cutB (bl s) with
  | bad p o =>
    have HB : Hid (Calls Tryz.prog 44 #[.agg #[.slice ao mo co], .string s] w2 fun e w' => e = .returned (.tuple #[.pointer none, .int .i64 (if o then 3 else 2)]) ∧ Below w2.heap.size w2 w') := Lib.hid (HBG.out.mono fun e w' h => by rw [hg, hc] at h; exact h)
    have HN := Lib.hid (show X = .bad (if o then 3 else 2) by rw [← HXX.out]; unfold readB; rw [hg, hc]; rfl)
    clear hg hc HBG
    cases o
    all_goals
      (go_wp2_with fail; go_fit (HB.out); rintro e w3 ⟨rfl, hb3⟩)
      have HB3 := Lib.hid (Ext.trans' HB2.out hb3)
      obtain ⟨r0, r1, r2, r3, rf⟩ := (HX2.out.ext hb3).four
      clear hb3 c0
      go_wp2
    · refine bodyPost_ret (v := .tuple #[.agg #[.int .i64 0, .int .i64 0, .string ⟨#[]⟩, .slice none 0 0], .slice none 0 0, .int .i64 2]) (by rw [results_cell3 rfl]; go_simp) rfl ?_
      rw [HN.out]
      exact ⟨rfl, Below.set4 HB3.out HSB.out _ _ _ _⟩
    · refine bodyPost_ret (v := .tuple #[.agg #[.int .i64 0, .int .i64 0, .string ⟨#[]⟩, .slice none 0 0], .slice none 0 0, .int .i64 3]) (by rw [results_cell3 rfl]; go_simp) rfl ?_
      rw [HN.out]
      exact ⟨rfl, Below.set4 HB3.out HSB.out _ _ _ _⟩
  | ok l =>
    have HB : Hid (Calls Tryz.prog 44 #[.agg #[.slice ao mo co], .string s] w2 fun e w' => (∃ rb D M, w2.heap.size ≤ rb ∧ e = .returned (.tuple #[.pointer (some ⟨rb, 0, none⟩), .int .i64 0]) ∧ St D M w' rb xs ⟨l, 0, []⟩ ∧ (∀ k, k < w2.heap.size → D k = (k == w1.heap.size || D0 k) ∧ M k = false)) ∧ Below w2.heap.size w2 w') := Lib.hid (HBG.out.mono fun e w' h => by rw [hg, hc] at h; exact h)
    have HGC := Lib.hid (And.intro hg hc)
    clear hg hc HBG
    (go_wp2_with fail; go_fit (HB.out); rintro e w3 ⟨⟨rb, D, M, hrb, rfl, hs3, hD⟩, hb3⟩)
    have HW := Lib.hid (whole_at hs3)
    have HX3 := Lib.hid (HX2.out.ext hb3)
    have HM0 := Lib.hid (show ∀ k, k < w2.heap.size → M k = false from fun k hk => (hD k hk).2)
    have hDB : D w1.heap.size = true := by rw [(hD _ HX2.out.lt).1]; simp
    have HDD := Lib.hid (show ∀ k, D k = false → D0 k = false from fun k hk => by
      by_cases hlt : k < w2.heap.size
      · rw [(hD k hlt).1, Bool.or_eq_false_iff] at hk
        exact hk.2
      · exact HD0.out k (by have := HB2s.out; omega))
    have HB3s := Lib.hid hb3.size
    have HB3 := Lib.hid hb3
    have HMd := Lib.hid hs3.md
    clear hs3 hb3 hD HB c0
    (go_wp2_with fail; go_fit (HW.out); rintro e w4 ⟨D4, M4, t4, v4, ok, rfl, htv, ht4, ho4, hok4, hsm4⟩)
    obtain ⟨k4, n4, s4, a4, m4, c4, rfl⟩ := htv.full
    obtain ⟨w5, hw5, hb5, hz5, hx5⟩ := box_new w4 #[.int .i64 k4, .int .i64 n4, .string s4, .slice a4 m4 c4] 31
    have HB24 := Lib.hid (Below.trans HB3.out (ht4.bel HB3.out.size HM0.out))
    have HB25 := Lib.hid (Ext.trans' HB24.out hb5)
    have HB5 := Lib.hid hb5
    have HX5 := Lib.hid (HX2.out.ext HB25.out)
    have HV4 := Lib.hid htv.bare
    have HVH := Lib.hid htv
    have HDB := Lib.hid ((ht4.dd _ HX3.out.lt).trans hDB)
    have HD4 := Lib.hid (show ∀ k, D4 k = false → D0 k = false from fun k hk => by
      by_cases hlt : k < w3.heap.size
      · exact HDD.out k ((ht4.dd k hlt).symm.trans hk)
      · exact HD0.out k (by have := HB2s.out; have := HB3s.out; omega))
    have HSM := Lib.hid hsm4
    have HOK := Lib.hid hok4
    have HXN := Lib.hid hx5
    obtain ⟨x0, x1, x2, x3, xf⟩ := hx5.four
    obtain ⟨r0, r1, r2, r3, rf⟩ := HX5.out.four
    have hneB : w4.heap.size ≠ w1.heap.size := by have := HX2.out.lt; have := HB24.out.size; omega
    have hrbB : rb ≠ w1.heap.size := by have := HX2.out.lt; omega
    clear htv ht4 ho4 hok4 hsm4 hb5 hz5 hx5 HW hDB
    cases hW : wholeR (preO xs) (betO xs) l with
    | none =>
      obtain rfl : ok = false := by rw [HOK.out, hW]; rfl
      have HN := Lib.hid (show X = .bad 2 from HXX.out.symm.trans (one_bad HGC.out.1 HGC.out.2 hW))
      clear hW
      go_wp2_with fail
      (try rw [hw5])
      clear hw5
      go_wp2
      refine bodyPost_ret (v := .tuple #[.agg #[.int .i64 0, .int .i64 0, .string ⟨#[]⟩, .slice none 0 0], .slice none 0 0, .int .i64 2]) (by rw [results_cell3 rfl]; go_simp) rfl ?_
      rw [HN.out]
      exact ⟨rfl, Below.set4 (Ext.trans' HB2.out HB25.out) HSB.out _ _ _ _⟩
    | some q =>
      obtain ⟨tq, s1⟩ := q
      obtain rfl : ok = true := by rw [HOK.out, hW]; rfl
      obtain ⟨rfl, hs4⟩ := HSM.out _ _ hW
      have hs5 := hs4.later HB5.out
      obtain ⟨_, vl, vn, _, p1, _, p3, pf, _, pl, pn, pm⟩ := hs5.parts
      obtain ⟨al, cl, rfl⟩ := toks_len pl
      obtain ⟨nl, hnl⟩ : ∃ n, s1.rest.length = n := ⟨_, rfl⟩
      rw [hnl] at p1
      have HNL := Lib.hid hnl
      have HPN := Lib.hid pn
      have HPM := Lib.hid pm
      have HW := Lib.hid hW
      have hM4B : ∀ k, vn.ownBlock = some k → k ≠ w1.heap.size := fun k hk e => by
        have h1 := (row_in pn hk).1
        have := HX2.out.lt
        omega
      have HMB := Lib.hid hM4B
      have HGD := Lib.hid (fun wq (hq : Below w5.heap.size w5 wq) => Good_at t4 wq _ (TmV.ext (Ext.trans' HB5.out hq) _ _ HV4.out))
      clear hW hs4 hs5 pl pn pm hnl hM4B
      by_cases hn : nl = 0
      · subst hn
        have HR := Lib.hid (show s1.rest = [] from List.length_eq_zero_iff.1 HNL.out)
        cases hgt : goodT t4 with
        | false =>
          have HN := Lib.hid (show X = .bad 3 from HXX.out.symm.trans (one_over HGC.out.1 HGC.out.2 HW.out HR.out hgt))
          rw [hgt] at HGD
          clear hgt
          go_wp2_with fail
          (try rw [hw5])
          clear hw5
          (go_wp2_with fail; go_fit (HGD.out _ (Below.refl _ _)); rintro e w6 ⟨rfl, hb6⟩)
          obtain ⟨r0, r1, r2, r3, rf⟩ := (HX5.out.ext hb6).four
          have HB6 := Lib.hid (Ext.trans' HB25.out hb6)
          clear hb6
          go_wp2
          refine bodyPost_ret (v := .tuple #[.agg #[.int .i64 0, .int .i64 0, .string ⟨#[]⟩, .slice none 0 0], .slice none 0 0, .int .i64 3]) (by rw [results_cell3 rfl]; go_simp) rfl ?_
          rw [HN.out]
          exact ⟨rfl, Below.set4 (Ext.trans' HB2.out HB6.out) HSB.out _ _ _ _⟩
        | true =>
          have HN := Lib.hid (show X = .ok (t4, s1.names) from HXX.out.symm.trans (one_ok HGC.out.1 HGC.out.2 HW.out HR.out hgt))
          rw [hgt] at HGD
          clear hgt
          go_wp2_with fail
          (try rw [hw5])
          clear hw5
          (go_wp2_with fail; go_fit (HGD.out _ (Below.refl _ _)); rintro e w6 ⟨rfl, hb6⟩)
          obtain ⟨r0, r1, r2, r3, rf⟩ := (HX5.out.ext hb6).four
          obtain ⟨x0, x1, x2, x3, xf⟩ := (HXN.out.ext hb6).four
          have p3 := cell_later hb6 p3
          have HB6 := Lib.hid hb6
          clear hb6 p1 pf
          go_wp2_with fail
          refine wp_region_held_drew (S := fun w' => w'.cell? ⟨w4.heap.size, 0, none⟩ = some (.int .i64 k4) ∧ w'.cell? ⟨w4.heap.size, 1, none⟩ = some (.int .i64 n4) ∧ w'.cell? ⟨w4.heap.size, 2, none⟩ = some (.string s4) ∧ w'.cell? ⟨w4.heap.size, 3, none⟩ = some (.slice a4 m4 c4) ∧ w'.cell? ⟨rb, 3, none⟩ = some vn) (by kernel_rfl) ⟨x0, x1, x2, x3, p3⟩ (fun hHeld => ?_)
          first | (refine held_t (i := 0) hHeld ?_; apply Exists.intro; refine ⟨fun wq hq => ?_, ?_⟩; (focus ((try dsimp only at hq); go_simp; (first | done | with_reducible rfl | fail)))) | refine held_s (i := 0) hHeld ?_ | fail
          first | (refine held_t (i := 1) hHeld ?_; apply Exists.intro; refine ⟨fun wq hq => ?_, ?_⟩; (focus ((try dsimp only at hq); go_simp; (first | done | with_reducible rfl | fail)))) | refine held_s (i := 1) hHeld ?_ | fail
          first | (refine held_t (i := 2) hHeld ?_; apply Exists.intro; refine ⟨fun wq hq => ?_, ?_⟩; (focus ((try dsimp only at hq); go_simp; (first | done | with_reducible rfl | fail)))) | refine held_s (i := 2) hHeld ?_ | fail
          first | (refine held_t (i := 3) hHeld ?_; apply Exists.intro; refine ⟨fun wq hq => ?_, ?_⟩; (focus ((try dsimp only at hq); go_simp; (first | done | with_reducible rfl | fail)))) | refine held_s (i := 3) hHeld ?_ | fail
          first | (refine held_t (i := 4) hHeld ?_; apply Exists.intro; refine ⟨fun wq hq => ?_, ?_⟩; (focus ((try dsimp only at hq); go_simp; (first | done | with_reducible rfl | fail)))) | refine held_s (i := 4) hHeld ?_ | fail
          try simp only [Act.put, List.setIfInBounds_toArray, List.set_cons_zero, List.set_cons_succ]
          refine held_c 5 fun K hK => ?_
          go_simp
          skip
          refine hK.out _ _ (⟨far4 hHeld.1 hneB _ _ _ _, far4 hHeld.2.1 hneB _ _ _ _, far4 hHeld.2.2.1 hneB _ _ _ _, far4 hHeld.2.2.2.1 hneB _ _ _ _, far4 hHeld.2.2.2.2 hrbB _ _ _ _⟩) (fun hHeld => ?_)
          clear hK K
          try simp only [Act.put, List.setIfInBounds_toArray, List.set_cons_zero, List.set_cons_succ]
          first | (refine held_t (i := 6) hHeld ?_; apply Exists.intro; refine ⟨fun wq hq => ?_, ?_⟩; (focus ((try dsimp only at hq); go_simp; (first | done | with_reducible rfl | fail)))) | refine held_s (i := 6) hHeld ?_ | fail
          first | (refine held_t (i := 7) hHeld ?_; apply Exists.intro; refine ⟨fun wq hq => ?_, ?_⟩; (focus ((try dsimp only at hq); go_simp; (first | done | with_reducible rfl | fail)))) | refine held_s (i := 7) hHeld ?_ | fail
          try simp only [Act.put, List.setIfInBounds_toArray, List.set_cons_zero, List.set_cons_succ]
          refine wpAnyH_done (by kernel_rfl) ?_ _
          go_wp2
          refine bodyPost_ret (v := .tuple #[.agg #[.int .i64 k4, .int .i64 n4, .string s4, .slice a4 m4 c4], vn, .int .i64 0]) (by rw [results_cell3 rfl]; go_simp) rfl ?_
          rw [HN.out]
          have hBf : Below w4.heap.size w4 w6.drew := (Ext.trans' HB5.out HB6.out).drew
          have hv6 := TmV.stay (Stays.less HD4.out) _ _ ((TmV.later hBf HVH.out).put4 HDB.out (.int .i64 k4) (.int .i64 n4) (.string s4) (.slice a4 m4 c4))
          have hBB : Below w.heap.size w (set4 w6.drew w1.heap.size (.int .i64 k4) (.int .i64 n4) (.string s4) (.slice a4 m4 c4)) := Below.set4 (Ext.trans' HB2.out (Ext.trans' HB24.out hBf)) HSB.out _ _ _ _
          have hrow : (set4 w6.drew w1.heap.size (.int .i64 k4) (.int .i64 n4) (.string s4) (.slice a4 m4 c4)).ownsRow (rb + 1) 179 2 vn s1.names.length (s1.names.flatMap nmCells) := row_at HPN.out (fun g hg => by
            have h1 := HMB.out g hg
            have h2 := (row_in HPN.out hg).2
            rw [Below.heap_setCell _ _ _ g (fun e => h1 e), Below.heap_setCell _ _ _ g (fun e => h1 e), Below.heap_setCell _ _ _ g (fun e => h1 e), Below.heap_setCell _ _ _ g (fun e => h1 e)]
            exact HB6.out.drew.block g h2)
          exact ⟨⟨_, _, rfl, hv6, Elems.owned nmCells_len hrow⟩, hBB⟩
      · have HR := Lib.hid (show s1.rest ≠ [] from fun e => hn (by rw [← HNL.out, e]; rfl))
        have HN := Lib.hid (show X = .bad 2 from HXX.out.symm.trans (one_more HGC.out.1 HGC.out.2 HW.out HR.out))
        have hnd : (0 : Int) < (nl : Int) := by omega
        clear hn
        go_wp2_with fail
        (try rw [hw5])
        clear hw5
        go_wp2
        refine bodyPost_ret (v := .tuple #[.agg #[.int .i64 0, .int .i64 0, .string ⟨#[]⟩, .slice none 0 0], .slice none 0 0, .int .i64 2]) (by rw [results_cell3 rfl]; go_simp) rfl ?_
        rw [HN.out]
        exact ⟨rfl, Below.set4 (Ext.trans' HB2.out HB25.out) HSB.out _ _ _ _⟩
/-- The operators that are there from the first do not lie in a zero term's block. -/
theorem ops_hide {w wA : World} {vA : Value} {ty : TypeId} (hb : Below (w.alloc (.cells #[.int .i64 0, .int .i64 0, .string ⟨#[]⟩, .slice none 0 0] ty)).heap.size (w.alloc (.cells #[.int .i64 0, .int .i64 0, .string ⟨#[]⟩, .slice none 0 0] ty)) wA) (ho : Ops wA vA opsB) :
    Ops (hide (fun k => k == w.heap.size) wA) vA opsB := by
  obtain ⟨a, cap, rfl, h1, h2, h3⟩ := ho
  refine ⟨a, cap, rfl, h1, h2, ?_⟩
  rcases h3 with h3 | ⟨b', off, rfl, hb', hc⟩
  · exact Or.inl h3
  · have hne : b' ≠ w.heap.size := by
      intro e
      obtain ⟨o, r, ho⟩ : ∃ o r, opsB = o :: r ∧ 0 < o.n.size := by
        refine ⟨opsB.head (by intro h; exact absurd (congrArg List.length h) (by decide)), opsB.tail, ?_, ?_⟩
        · exact (List.cons_head_tail _).symm
        · decide
      have h0 := hc 0 o (by rw [ho.1]; rfl) 0 (.string o.n) rfl
      rw [e] at h0
      have hlt : w.heap.size < (w.alloc (.cells #[.int .i64 0, .int .i64 0, .string ⟨#[]⟩, .slice none 0 0] ty)).heap.size := by simp
      rw [World.cell?_of_block (hb.block _ hlt)] at h0
      rw [World.cell?_alloc_at _ _ _ _ rfl] at h0
      obtain ⟨z, hz⟩ : ∃ z, off + 0 * 3 + 0 = z := ⟨_, rfl⟩
      rw [hz] at h0
      have hsz := ho.2
      rcases z with _ | _ | _ | _ | z
      · simp at h0
      · simp at h0
      · simp at h0
        rw [← h0] at hsz
        exact absurd hsz (by decide)
      · simp at h0
      · simp at h0
    refine Or.inr ⟨b', off, rfl, by rw [hide_size]; exact hb', fun i x hx j u hu => ?_⟩
    rw [hide_cell (fun k => k == w.heap.size) wA _ (show (b' == w.heap.size) = false from beq_false_of_ne hne)]
    exact hc i x hx j u hu
end Go.Proofs.YtaojalicnnnkmaaGreatDoor
/- What the cards of this seat share: strconv's ErrRange is an error where the program's text lays it. -/
namespace Go.Proofs.YtaojalicnnnkmaaGreatDoor
open Go.RowKit
theorem star : "*" ++ "errors.errorString" = "*errors.errorString" := by decide
theorem row_err (u : TypeId) (h : Tryz.prog.typeName? 3 u = some "*errors.errorString") : u = 206 :=
  typeName_ptr_named (nm := "errors.errorString") (by rw [star]; kernel_rfl) (by kernel_rfl) (by decide) u (by rw [star]; exact h)
theorem err_of {l : List (String × DataW Unit)} {w : World} (hl : (l.all fun x => x.2.handleName?.isNone) = true) {nm : String} {text : List UInt8}
    (hf : l.filter (fun x => x.1 == "strconv.ErrRange") = [("strconv.ErrRange", .iface nm (.ptr (.agg [.lit (.string text)])))]) (hn : nm = "*errors.errorString") (h : laidMetH Tryz.prog l w) : Err w := by
  subst hn
  rw [MakeChecks.laidMetH_plain _ _ _ hl] at h
  have h1 := h.filter (fun x => x.1 == "strconv.ErrRange")
  rw [hf] at h1
  obtain ⟨a, s, hv, _⟩ := laid_sentinel h1 gRange (ti := 171) (by kernel_rfl) Tryz.underlying171 (tp := 206) row_err Tryz.underlying206 Tryz.underlying208 rfl rfl Tryz.underlying9 (by kernel_rfl) (by kernel_rfl)
  exact ⟨_, _, hv⟩
end Go.Proofs.YtaojalicnnnkmaaGreatDoor
/- Stage 14's laws: say, awake. -/
namespace Go.Proofs.YtaojalicnnnkmaaGreatDoor
open Go.Shelf Go.RowKit
set_option linter.unusedVariables false

/-- A text's term. -/
def SayP (w : World) (t : Tm) (e : Ending) (w' : World) : Prop := ∃ v, e = .returned v ∧ TmV w' t v ∧ Below w.heap.size w w'
set_option maxHeartbeats 4000000 in
theorem say_at (s : ByteArray) (hs : s.size ≤ 1000) {t : Tm} {ns : List NmP} (hr : readB oneR opsB (bl (s ++ ⟨#[32, 46]⟩)) = .ok (t, ns)) {w : World} (he : Err w) : Calls Tryz.prog 9 #[.string s] w (SayP w t) := by
  obtain ⟨w1, e1, B1, z1, X1⟩ := box_new w #[.int .i64 0, .int .i64 0, .string ⟨#[]⟩, .slice none 0 0] 31
  have HE := Lib.hid e1
  have HB1 := Lib.hid B1
  have HX1 := Lib.hid X1
  have HERR := Lib.hid (fun (wq : World) (hq : Below w.heap.size w wq) => he.ext hq)
  have HR := Lib.hid hr
  have hsz : (s ++ ⟨#[32, 46]⟩ : ByteArray).size ≤ 140737488351232 := by
    have : (s ++ ⟨#[32, 46]⟩ : ByteArray).size = s.size + 2 := by simp [ByteArray.size_append]; rfl
    omega
  have HSZ := Lib.hid hsz
  obtain ⟨c, hc⟩ : ∃ c, (s ++ ⟨#[32, 46]⟩ : ByteArray) = c := ⟨_, rfl⟩
  rw [hc] at HR HSZ
  have HCC := Lib.hid hc
  clear he hr hsz e1 B1 z1 X1 hc
  go_enter Tryz.func9, Tryz.ntmps9
  go_upto_region 1 with fail
  (try rw [HE.out])
  (go_wp2_with fail; go_fit (plain_walk _); rintro e w2 ⟨v2, rfl, ho, b2⟩)
  have C := term8_hide (D0 := fun q => q == w.heap.size) (fun q hq => by have h1 := HX1.out.lt; have h2 := b2.size; exact beq_false_of_ne (by omega)) (ops_hide (w := w) (ty := 31) (by rw [HE.out]; exact b2) ho) c (HERR.out _ (Ext.trans' HB1.out b2)) HSZ.out
  rw [HR.out] at C
  have HB2 := Lib.hid b2
  clear ho b2
  go_wp2_with fail
  (try rw [HCC.out])
  (go_wp2_with fail; go_fit (C); rintro e w3 ⟨⟨v, vn, rfl, hv, _⟩, b3⟩)
  obtain ⟨k, n, st, a, m, c2, rfl, -, -, -, -⟩ := four_of hv.bare
  obtain ⟨w4, e4, B4, z4, X4⟩ := box_new w3 #[.int .i64 k, .int .i64 n, .string st, .slice a m c2] 31
  have HE4 := Lib.hid e4
  have HB4 := Lib.hid (Ext.trans' HB1.out (Ext.trans' HB2.out (Ext.trans' b3 B4)))
  obtain ⟨q0, q1, q2, q3, _⟩ := X4.four
  obtain ⟨r0, r1, r2, r3, rf⟩ := (HX1.out.ext (Ext.trans' HB2.out (Ext.trans' b3 B4))).four
  have hne : w3.heap.size ≠ w.heap.size := by have h1 := HB1.out.size; have h2 := HB2.out.size; have h3 := b3.size; have h4 := HX1.out.lt; omega
  have HNE := Lib.hid hne
  have HT := Lib.hid (show TmV (set4 w4 w.heap.size (.int .i64 k) (.int .i64 n) (.string st) (.slice a m c2)) t (.agg #[.int .i64 k, .int .i64 n, .string st, .slice a m c2]) from by
    have h : TmV (hide (fun q => q == w.heap.size) w4) t (.agg #[.int .i64 k, .int .i64 n, .string st, .slice a m c2]) := TmV.later B4 hv
    exact TmV.stay (Stays.unhide _ _) _ _ (h.put4 (b := w.heap.size) (by simp) _ _ _ _))
  clear C hv b3 e4 B4 z4 X4 hne
  go_upto_region 2 with fail
  (try rw [HE4.out])
  go_wp2
  refine bodyPost_ret (v := .agg #[.int .i64 k, .int .i64 n, .string st, .slice a m c2]) (by rw [results_cell1 rfl]; go_simp) rfl ⟨_, rfl, HT.out, Below.set4 HB4.out (Nat.le_refl _) _ _ _ _⟩
end Go.Proofs.YtaojalicnnnkmaaGreatDoor
