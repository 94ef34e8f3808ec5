import Derived.Test.YtobdhcaoeholhaaGreatDoorHbyaq
import Derived.Test.YtobdhcaoeholhaaGreatDoorHbyal
import Derived.Test.YtobdhcaoeholhaaGreatDoorHbyak
import Derived.Test.YtobdhcaoeholhaaGreatDoorHbyac
set_option linter.unusedVariables false
set_option linter.unusedSimpArgs false
/- The project's reader: whole. -/
namespace Go.Proofs.YtobdhcaoeholhaaGreatDoor
open Go.Shelf Go.RowKit
set_option linter.unusedVariables false

theorem St.anew {D M : Nat → Bool} {w : World} {rb : Nat} {xs : List O} {s : RS} (h : St D M w rb xs s) : St D M ((w.setCell ⟨rb, 2, none⟩ (.int .i64 0)).setCell ⟨rb, 3, none⟩ (.slice none 0 0)) rb xs (anewR s.rest) ∧ Turn D M D M w ((w.setCell ⟨rb, 2, none⟩ (.int .i64 0)).setCell ⟨rb, 3, none⟩ (.slice none 0 0)) := by
  have hs : Stays (hide D w) (hide D ((w.setCell ⟨rb, 2, none⟩ (.int .i64 0)).setCell ⟨rb, 3, none⟩ (.slice none 0 0))) := (Stays.set ⟨rb, 2, none⟩ _ (h.md rb h.mb)).trans (Stays.set ⟨rb, 3, none⟩ _ (h.md rb h.mb))
  obtain ⟨vo, o1, o2⟩ := h.co
  obtain ⟨vl0, l1, l2⟩ := h.cl
  obtain ⟨vn, n1, n2, n3⟩ := h.c3
  refine ⟨{ mb := h.mb, md := h.md, old := h.old.mono (by simp [World.setCell])
            co := ⟨vo, by rw [near_cell (by decide), near_cell (by decide)]; exact o1, Elems.stay o2 hs⟩
            cl := ⟨vl0, by rw [near_cell (by decide), near_cell (by decide)]; exact l1, Elems.stay l2 hs⟩
            c2 := by rw [near_cell (by decide)]; exact css h.c2
            c3 := ⟨.slice none 0 0, css (by rw [near_cell (by decide)]; exact n1), World.ownsRow_nil _ _ _ _, fun k hk => (by cases hk)⟩
            fz := fun j => by rw [World.frozen?_setCell, World.frozen?_setCell]; exact h.fz j
            nice := ⟨by have := h.nice.1; show 0 + s.rest.length ≤ 2000; omega, Nat.le_refl _, h.nice.2.2.1, fun p hp => (by cases hp)⟩ }, ((Turn.refl D M w).set ⟨rb, 2, none⟩ _ (Or.inr h.mb)).set ⟨rb, 3, none⟩ _ (Or.inr h.mb)⟩
set_option maxHeartbeats 4000000 in
theorem whole_at {xs : List O} {D M : Nat → Bool} {w : World} {rb : Nat} {s : RS} (h : St D M w rb xs s) :
    Calls Tryz.prog 43 #[.pointer (some ⟨rb, 0, none⟩)] w (BPost D M w rb xs (wholeR (preO xs) (betO xs) s.rest)) := by
  obtain ⟨X, hX⟩ : ∃ X, wholeR (preO xs) (betO xs) s.rest = X := ⟨_, rfl⟩
  rw [hX]
  have HXX := Lib.hid hX
  obtain ⟨w1, hw1, hb1, hz1, hx1⟩ := box_new w #[.int .i64 0, .int .i64 0, .string ⟨#[]⟩, .slice none 0 0] 27
  have h1 := h.box hb1 (Nat.le_refl _) hx1.lt
  have HMd := Lib.hid h.md
  have HMB := Lib.hid (Old.out h (Nat.le_refl _))
  obtain ⟨h2, ht2⟩ := h1.anew
  have HT2 := Lib.hid ((Turn.into (D := D) (M := M) hb1 (Nat.le_refl _)).trans ht2)
  have hX2 := hx1.turn ht2 HMB.out
  have HX2 := Lib.hid hX2
  obtain ⟨vo, vl, vn, o0, o1, o2, o3, of, _⟩ := h1.parts
  obtain ⟨w2, hw2⟩ : ∃ w2, (w1.setCell ⟨rb, 2, none⟩ (.int .i64 0)).setCell ⟨rb, 3, none⟩ (.slice none 0 0) = w2 := ⟨_, rfl⟩
  rw [hw2] at h2 HT2 HX2
  have HTM := Lib.hid (term_at h2 1200)
  clear h hX h1 h2 ht2 hX2 hx1 hb1 hz1
  go_enter Tryz.func43, Tryz.ntmps43
  go_wp2_with fail
  (try rw [hw1])
  clear hw1
  go_wp2_with fail
  (try rw [hw2])
  clear hw2 o0 o1 o2 o3 of
  (go_wp2_with fail; go_fit (HTM.out); rintro e w3 ⟨D3, M3, t3, v3, lv3, ok, rfl, htv, ht3, ho3, hok3, hsm3⟩)
  obtain ⟨k3, n3, s3, a3, m3, c3, rfl⟩ := htv.full
  obtain ⟨w4, hw4, hb4, hz4, hx4⟩ := box_new w3 #[.int .i64 k3, .int .i64 n3, .string s3, .slice a3 m3 c3] 27
  have HDB := Lib.hid ((ht3.dd _ HX2.out.lt).trans (plusB_self D _))
  have HMB3 := Lib.hid ((ht3.mm _ HX2.out.lt).trans HMB.out)
  have HX4 := Lib.hid ((HX2.out.turn ht3 HMB.out).ext hb4)
  have HT4 := Lib.hid ((HT2.out.trans ht3).trans (Turn.below hb4))
  have HV4 := Lib.hid (TmV.later hb4 htv)
  have HO4 := Lib.hid (ho3.later hb4.size)
  have HSM := Lib.hid hsm3
  have HOK := Lib.hid hok3
  have HB4 := Lib.hid hb4
  obtain ⟨x0, x1, x2, x3, xf⟩ := hx4.four
  obtain ⟨r0, r1, r2, r3, rf⟩ := HX4.out.four
  have hne : w3.heap.size ≠ w.heap.size := by have := (HX2.out.turn ht3 HMB.out).lt; omega
  have HXX4 := Lib.hid hx4
  have HMX := Lib.hid (show M3 w3.heap.size = false from by
    cases hm : M3 w3.heap.size with
    | false => rfl
    | true => have h0 := ho3.1 _ hm; rw [ho3.2 _ (Nat.le_refl _)] at h0; cases h0)
  clear htv ht3 ho3 hok3 hsm3 hb4 hz4 hx4 HTM
  cases hM : TERMX xs 1200 (anewR s.rest) with
  | none =>
    obtain rfl : ok = false := by rw [HOK.out, hM]; rfl
    have HN := Lib.hid (show X = none by rw [← HXX.out]; unfold wholeR; rw [show TERM (preO xs) (betO xs) 1200 (anewR s.rest) = none from hM])
    clear hM
    go_wp2_with fail
    (try rw [hw4])
    clear hw4
    go_wp2_with fail
    refine wp_region_held_drew (S := fun w' => w'.cell? ⟨w3.heap.size, 0, none⟩ = some (.int .i64 k3) ∧ w'.cell? ⟨w3.heap.size, 1, none⟩ = some (.int .i64 n3) ∧ w'.cell? ⟨w3.heap.size, 2, none⟩ = some (.string s3) ∧ w'.cell? ⟨w3.heap.size, 3, none⟩ = some (.slice a3 m3 c3)) (by kernel_rfl) ⟨x0, x1, x2, x3⟩ (fun hHeld => ?_)
    first | (refine held_t (i := 0) hHeld ?_; apply Exists.intro; refine ⟨fun wq hq => ?_, ?_⟩; (focus ((try dsimp only at hq); go_simp; (first | done | with_reducible rfl | fail)))) | refine held_s (i := 0) hHeld ?_ | fail
    first | (refine held_t (i := 1) hHeld ?_; apply Exists.intro; refine ⟨fun wq hq => ?_, ?_⟩; (focus ((try dsimp only at hq); go_simp; (first | done | with_reducible rfl | fail)))) | refine held_s (i := 1) hHeld ?_ | fail
    first | (refine held_t (i := 2) hHeld ?_; apply Exists.intro; refine ⟨fun wq hq => ?_, ?_⟩; (focus ((try dsimp only at hq); go_simp; (first | done | with_reducible rfl | fail)))) | refine held_s (i := 2) hHeld ?_ | fail
    first | (refine held_t (i := 3) hHeld ?_; apply Exists.intro; refine ⟨fun wq hq => ?_, ?_⟩; (focus ((try dsimp only at hq); go_simp; (first | done | with_reducible rfl | fail)))) | refine held_s (i := 3) hHeld ?_ | fail
    first | (refine held_t (i := 4) hHeld ?_; apply Exists.intro; refine ⟨fun wq hq => ?_, ?_⟩; (focus ((try dsimp only at hq); go_simp; (first | done | with_reducible rfl | fail)))) | refine held_s (i := 4) hHeld ?_ | fail
    first | (refine held_t (i := 5) hHeld ?_; apply Exists.intro; refine ⟨fun wq hq => ?_, ?_⟩; (focus ((try dsimp only at hq); go_simp; (first | done | with_reducible rfl | fail)))) | refine held_s (i := 5) hHeld ?_ | fail
    first | (refine held_t (i := 6) hHeld ?_; apply Exists.intro; refine ⟨fun wq hq => ?_, ?_⟩; (focus ((try dsimp only at hq); go_simp; (first | done | with_reducible rfl | fail)))) | refine held_s (i := 6) hHeld ?_ | fail
    first | (refine held_t (i := 7) hHeld ?_; apply Exists.intro; refine ⟨fun wq hq => ?_, ?_⟩; (focus ((try dsimp only at hq); go_simp; (first | done | with_reducible rfl | fail)))) | refine held_s (i := 7) hHeld ?_ | fail
    try simp only [Act.put, List.setIfInBounds_toArray, List.set_cons_zero, List.set_cons_succ]
    refine held_c 8 fun K hK => ?_
    go_simp
    skip
    refine hK.out _ _ (⟨far4 hHeld.1 hne _ _ _ _, far4 hHeld.2.1 hne _ _ _ _, far4 hHeld.2.2.1 hne _ _ _ _, far4 hHeld.2.2.2 hne _ _ _ _⟩) (fun hHeld => ?_)
    clear hK K
    try simp only [Act.put, List.setIfInBounds_toArray, List.set_cons_zero, List.set_cons_succ]
    first | (refine held_t (i := 9) hHeld ?_; apply Exists.intro; refine ⟨fun wq hq => ?_, ?_⟩; (focus ((try dsimp only at hq); go_simp; (first | done | with_reducible rfl | fail)))) | refine held_s (i := 9) hHeld ?_ | fail
    try simp only [Act.put, List.setIfInBounds_toArray, List.set_cons_zero, List.set_cons_succ]
    refine wpAnyH_done (by kernel_rfl) ?_ _
    go_wp2
    refine bodyPost_ret (v := .tuple #[.agg #[.int .i64 k3, .int .i64 n3, .string s3, .slice a3 m3 c3], .bool false]) (by rw [results_cell_tmp rfl]; go_simp) rfl ?_
    exact bdone_none (HT4.out.trans (Turn.below (Below.refl _ _).drew)) (HO4.out.later (Nat.le_refl _)) HMd.out (Nat.le_refl _) HDB.out (TmV.later (Below.refl _ _).drew HV4.out) HN.out
  | some q =>
    obtain ⟨⟨tq, lq⟩, s1⟩ := q
    obtain rfl : ok = true := by rw [HOK.out, hM]; rfl
    obtain ⟨rfl, rfl, hs3⟩ := HSM.out _ _ hM
    have hs4 := (hs3.later HB4.out).later (Below.refl _ _).drew
    have hTK := take_at hs4
    obtain ⟨q, hq⟩ : ∃ q, headR s1 = q := ⟨_, rfl⟩
    rw [hq] at hTK
    have HTK := Lib.hid hTK
    have HMD := Lib.hid hs4.md
    have HN := Lib.hid (show X = if q.1.kind = 6 then some (t3, dropR s1) else none by rw [← HXX.out]; unfold wholeR; rw [show TERM (preO xs) (betO xs) 1200 (anewR s.rest) = some ((t3, lv3), s1) from hM]; simp only [hq])
    have hfd : ∀ wq : World, (Instr.field 52 (tkVal q) 0).run Tryz.prog wq = .ok (.int .i64 (q.1.kind : Int)) wq := fun _ => by kernel_rfl
    clear hM hs3 hs4 hTK hq
    by_cases hk : q.1.kind = 6
    · have hk' : ((q.1.kind : Int) == 6) = true := by rw [hk]; rfl
      have HN2 := Lib.hid (HN.out.trans (if_pos hk))
      clear hk
      go_wp2_with fail
      (try rw [hw4])
      clear hw4
      go_wp2_with fail
      refine wp_region_held_drew (S := fun w' => w'.cell? ⟨w3.heap.size, 0, none⟩ = some (.int .i64 k3) ∧ w'.cell? ⟨w3.heap.size, 1, none⟩ = some (.int .i64 n3) ∧ w'.cell? ⟨w3.heap.size, 2, none⟩ = some (.string s3) ∧ w'.cell? ⟨w3.heap.size, 3, none⟩ = some (.slice a3 m3 c3)) (by kernel_rfl) ⟨x0, x1, x2, x3⟩ (fun hHeld => ?_)
      first | (refine held_t (i := 0) hHeld ?_; apply Exists.intro; refine ⟨fun wq hq => ?_, ?_⟩; (focus ((try dsimp only at hq); go_simp; (first | done | with_reducible rfl | fail)))) | refine held_s (i := 0) hHeld ?_ | fail
      first | (refine held_t (i := 1) hHeld ?_; apply Exists.intro; refine ⟨fun wq hq => ?_, ?_⟩; (focus ((try dsimp only at hq); go_simp; (first | done | with_reducible rfl | fail)))) | refine held_s (i := 1) hHeld ?_ | fail
      first | (refine held_t (i := 2) hHeld ?_; apply Exists.intro; refine ⟨fun wq hq => ?_, ?_⟩; (focus ((try dsimp only at hq); go_simp; (first | done | with_reducible rfl | fail)))) | refine held_s (i := 2) hHeld ?_ | fail
      first | (refine held_t (i := 3) hHeld ?_; apply Exists.intro; refine ⟨fun wq hq => ?_, ?_⟩; (focus ((try dsimp only at hq); go_simp; (first | done | with_reducible rfl | fail)))) | refine held_s (i := 3) hHeld ?_ | fail
      try simp only [Act.put, List.setIfInBounds_toArray, List.set_cons_zero, List.set_cons_succ]
      refine held_c 4 fun K hK => ?_
      go_simp
      (go_at_call 73; refine HTK.out.mono ?_; rintro e w5 ⟨rfl, hs5, ht5⟩; obtain ⟨r0, r1, r2, r3, rf⟩ := ((HX4.out.ext (Below.refl _ _).drew).turn ht5 HMB3.out).four; have HXX5 := Lib.hid ((HXX4.out.ext (Below.refl _ _).drew).turn ht5 HMX.out); have HS5 := Lib.hid hs5; have HT5 := Lib.hid ht5)
      refine hK.out _ _ (HXX5.out.four_of) (fun hHeld => ?_)
      clear hK K
      try simp only [Act.put, List.setIfInBounds_toArray, List.set_cons_zero, List.set_cons_succ]
      first | (refine held_t (i := 5) hHeld ?_; apply Exists.intro; refine ⟨fun wq hq => ?_, ?_⟩; (focus ((try dsimp only at hq); go_simp; (first | done | with_reducible rfl | fail)))) | refine held_s (i := 5) hHeld ?_ | fail
      first | (refine held_t (i := 6) hHeld ?_; apply Exists.intro; refine ⟨fun wq hq => ?_, ?_⟩; (focus ((try dsimp only at hq); go_simp; (first | done | with_reducible rfl | fail)))) | refine held_s (i := 6) hHeld ?_ | fail
      first | (refine held_t (i := 7) hHeld ?_; apply Exists.intro; refine ⟨fun wq hq => ?_, ?_⟩; (focus ((try dsimp only at hq); go_simp; (first | done | with_reducible rfl | fail)))) | refine held_s (i := 7) hHeld ?_ | fail
      try simp only [Act.put, List.setIfInBounds_toArray, List.set_cons_zero, List.set_cons_succ]
      refine held_c 8 fun K hK => ?_
      go_simp
      skip
      refine hK.out _ _ (⟨far4 hHeld.1 hne _ _ _ _, far4 hHeld.2.1 hne _ _ _ _, far4 hHeld.2.2.1 hne _ _ _ _, far4 hHeld.2.2.2 hne _ _ _ _⟩) (fun hHeld => ?_)
      clear hK K
      try simp only [Act.put, List.setIfInBounds_toArray, List.set_cons_zero, List.set_cons_succ]
      first | (refine held_t (i := 9) hHeld ?_; apply Exists.intro; refine ⟨fun wq hq => ?_, ?_⟩; (focus ((try dsimp only at hq); go_simp; (first | done | with_reducible rfl | fail)))) | refine held_s (i := 9) hHeld ?_ | fail
      try simp only [Act.put, List.setIfInBounds_toArray, List.set_cons_zero, List.set_cons_succ]
      refine wpAnyH_done (by kernel_rfl) ?_ _
      go_wp2
      refine bodyPost_ret (v := .tuple #[.agg #[.int .i64 k3, .int .i64 n3, .string s3, .slice a3 m3 c3], .bool true]) (by rw [results_cell_tmp rfl]; go_simp) rfl ?_
      exact bdone_some ((HT4.out.trans (Turn.below (Below.refl _ _).drew)).trans HT5.out) HS5.out HMd.out (Nat.le_refl _) HDB.out HMB3.out (TmV.stay (HT5.out.stays HMD.out) _ _ (TmV.later (Below.refl _ _).drew HV4.out)) HN2.out
    · have hk' : ((q.1.kind : Int) == 6) = false := beq_false_of_ne (by omega)
      have HN2 := Lib.hid (HN.out.trans (if_neg hk))
      clear hk
      go_wp2_with fail
      (try rw [hw4])
      clear hw4
      go_wp2_with fail
      refine wp_region_held_drew (S := fun w' => w'.cell? ⟨w3.heap.size, 0, none⟩ = some (.int .i64 k3) ∧ w'.cell? ⟨w3.heap.size, 1, none⟩ = some (.int .i64 n3) ∧ w'.cell? ⟨w3.heap.size, 2, none⟩ = some (.string s3) ∧ w'.cell? ⟨w3.heap.size, 3, none⟩ = some (.slice a3 m3 c3)) (by kernel_rfl) ⟨x0, x1, x2, x3⟩ (fun hHeld => ?_)
      first | (refine held_t (i := 0) hHeld ?_; apply Exists.intro; refine ⟨fun wq hq => ?_, ?_⟩; (focus ((try dsimp only at hq); go_simp; (first | done | with_reducible rfl | fail)))) | refine held_s (i := 0) hHeld ?_ | fail
      first | (refine held_t (i := 1) hHeld ?_; apply Exists.intro; refine ⟨fun wq hq => ?_, ?_⟩; (focus ((try dsimp only at hq); go_simp; (first | done | with_reducible rfl | fail)))) | refine held_s (i := 1) hHeld ?_ | fail
      first | (refine held_t (i := 2) hHeld ?_; apply Exists.intro; refine ⟨fun wq hq => ?_, ?_⟩; (focus ((try dsimp only at hq); go_simp; (first | done | with_reducible rfl | fail)))) | refine held_s (i := 2) hHeld ?_ | fail
      first | (refine held_t (i := 3) hHeld ?_; apply Exists.intro; refine ⟨fun wq hq => ?_, ?_⟩; (focus ((try dsimp only at hq); go_simp; (first | done | with_reducible rfl | fail)))) | refine held_s (i := 3) hHeld ?_ | fail
      try simp only [Act.put, List.setIfInBounds_toArray, List.set_cons_zero, List.set_cons_succ]
      refine held_c 4 fun K hK => ?_
      go_simp
      (go_at_call 73; refine HTK.out.mono ?_; rintro e w5 ⟨rfl, hs5, ht5⟩; obtain ⟨r0, r1, r2, r3, rf⟩ := ((HX4.out.ext (Below.refl _ _).drew).turn ht5 HMB3.out).four; have HXX5 := Lib.hid ((HXX4.out.ext (Below.refl _ _).drew).turn ht5 HMX.out); have HS5 := Lib.hid hs5; have HT5 := Lib.hid ht5)
      refine hK.out _ _ (HXX5.out.four_of) (fun hHeld => ?_)
      clear hK K
      try simp only [Act.put, List.setIfInBounds_toArray, List.set_cons_zero, List.set_cons_succ]
      first | (refine held_t (i := 5) hHeld ?_; apply Exists.intro; refine ⟨fun wq hq => ?_, ?_⟩; (focus ((try dsimp only at hq); go_simp; (first | done | with_reducible rfl | fail)))) | refine held_s (i := 5) hHeld ?_ | fail
      first | (refine held_t (i := 6) hHeld ?_; apply Exists.intro; refine ⟨fun wq hq => ?_, ?_⟩; (focus ((try dsimp only at hq); go_simp; (first | done | with_reducible rfl | fail)))) | refine held_s (i := 6) hHeld ?_ | fail
      first | (refine held_t (i := 7) hHeld ?_; apply Exists.intro; refine ⟨fun wq hq => ?_, ?_⟩; (focus ((try dsimp only at hq); go_simp; (first | done | with_reducible rfl | fail)))) | refine held_s (i := 7) hHeld ?_ | fail
      try simp only [Act.put, List.setIfInBounds_toArray, List.set_cons_zero, List.set_cons_succ]
      refine held_c 8 fun K hK => ?_
      go_simp
      skip
      refine hK.out _ _ (⟨far4 hHeld.1 hne _ _ _ _, far4 hHeld.2.1 hne _ _ _ _, far4 hHeld.2.2.1 hne _ _ _ _, far4 hHeld.2.2.2 hne _ _ _ _⟩) (fun hHeld => ?_)
      clear hK K
      try simp only [Act.put, List.setIfInBounds_toArray, List.set_cons_zero, List.set_cons_succ]
      first | (refine held_t (i := 9) hHeld ?_; apply Exists.intro; refine ⟨fun wq hq => ?_, ?_⟩; (focus ((try dsimp only at hq); go_simp; (first | done | with_reducible rfl | fail)))) | refine held_s (i := 9) hHeld ?_ | fail
      try simp only [Act.put, List.setIfInBounds_toArray, List.set_cons_zero, List.set_cons_succ]
      refine wpAnyH_done (by kernel_rfl) ?_ _
      go_wp2
      refine bodyPost_ret (v := .tuple #[.agg #[.int .i64 k3, .int .i64 n3, .string s3, .slice a3 m3 c3], .bool false]) (by rw [results_cell_tmp rfl]; go_simp) rfl ?_
      exact bdone_none ((HT4.out.trans (Turn.below (Below.refl _ _).drew)).trans HT5.out) HS5.out.okd HMd.out (Nat.le_refl _) HDB.out (TmV.stay (HT5.out.stays HMD.out) _ _ (TmV.later (Below.refl _ _).drew HV4.out)) HN2.out
end Go.Proofs.YtobdhcaoeholhaaGreatDoor
/- The project's reader: Term, All. -/
namespace Go.Proofs.YtobdhcaoeholhaaGreatDoor
open Go.Shelf Go.RowKit
set_option linter.unusedVariables false

theorem tok_ok (c : UInt8) (r : List UInt8) (t : TokB) (h : nextC c r = .tok t) : t.text.length ≤ r.length + 65 ∧ t.n ≤ 9223372036854775807 := by
  have base : ∀ (kind : Nat) (text : List UInt8) (n k : Nat) (s : List UInt8), text.length ≤ r.length + 65 → n ≤ 9223372036854775807 → tokB kind text n k s = .tok t → t.text.length ≤ r.length + 65 ∧ t.n ≤ 9223372036854775807 := fun kind text n k s h1 h2 he => by
    unfold tokB at he
    cases he
    exact ⟨h1, h2⟩
  have name : ∀ (k : Nat), nameB k (c :: r) = .tok t → t.text.length ≤ r.length + 65 ∧ t.n ≤ 9223372036854775807 := fun k he => by
    unfold nameB at he
    split at he
    · exact base _ _ _ _ _ (by rw [List.length_take, List.length_cons]; omega) (by omega) he
    · cases he
  unfold nextC at h
  by_cases h1 : blankB c = true
  · rw [if_pos h1] at h; cases h
  rw [if_neg h1] at h
  by_cases h2 : (c == 37) = true
  · rw [if_pos h2] at h; cases h
  rw [if_neg h2] at h
  by_cases h3 : smallB c = true
  · rw [if_pos h3] at h; exact name _ h
  rw [if_neg h3] at h
  by_cases h4 : greatB c = true
  · rw [if_pos h4] at h; exact base _ _ _ _ _ (by rw [List.length_take, List.length_cons]; omega) (by omega) h
  rw [if_neg h4] at h
  by_cases h5 : digitB c = true
  · rw [if_pos h5] at h
    split at h
    · rename_i hn
      exact base _ _ _ _ _ (by simp) (of_decide_eq_true hn) h
    · cases h
  rw [if_neg h5] at h
  by_cases h6 : (c == 39) = true
  · rw [if_pos h6] at h
    cases hq : quoB r with
    | none => rw [hq] at h; cases h
    | some p =>
      rw [hq] at h
      simp only at h
      split at h
      · rename_i hl
        have hl : p.1.length ≤ 64 := by simpa using hl
        exact base _ _ _ _ _ (by omega) (by omega) h
      · cases h
  rw [if_neg h6] at h
  by_cases h7 : (c == 46 && endB r) = true
  · rw [if_pos h7] at h; exact base _ _ _ _ _ (by simp) (by omega) h
  rw [if_neg h7] at h
  by_cases h8 : symB c = true
  · rw [if_pos h8] at h; exact name _ h
  rw [if_neg h8] at h
  by_cases h9 : (c == 59 || c == 33) = true
  · rw [if_pos h9] at h; exact name _ h
  rw [if_neg h9] at h
  by_cases h10 : ((c == 91 && r.head? == some 93) || (c == 123 && r.head? == some 125)) = true
  · rw [if_pos h10] at h; exact name _ h
  rw [if_neg h10] at h
  by_cases h11 : [40, 41, 91, 93, 123, 125, 44, 124].contains c = true
  · rw [if_pos h11] at h; exact base _ _ _ _ _ (by simp) (by omega) h
  rw [if_neg h11] at h
  cases h
theorem lex_ok : ∀ (n p : Nat) (s : List UInt8) (x : List (TokB × Nat)), lexL n p s = some x → ∀ q ∈ x, q.1.text.length ≤ s.length + 64 ∧ q.1.n ≤ 9223372036854775807 ∧ q.2 ≤ p + s.length
  | n, p, [], x, h, q, hq => by rw [lex_nil] at h; cases h; cases hq
  | 0, p, c :: r, x, h, q, hq => by cases h
  | n + 1, p, c :: r, x, h, q, hq => by
    rw [lexL] at h
    have hnl := next_len c r
    cases hn : nextC c r with
    | skip k =>
      rw [hn] at h hnl
      have hk : k ≤ r.length + 1 := hnl
      have := lex_ok n (p + k) _ x h q hq
      rw [List.length_drop, List.length_cons] at this
      rw [List.length_cons]
      omega
    | tok u =>
      rw [hn] at h hnl
      have hk : u.len ≤ r.length + 1 := hnl
      obtain ⟨l, hl, he⟩ := Option.map_eq_some_iff.1 h
      cases he
      have ho := tok_ok c r u hn
      rw [List.length_cons]
      rcases List.mem_cons.1 hq with rfl | hq
      · simp only
        omega
      · have := lex_ok n (p + u.len) _ l hl q hq
        rw [List.length_drop, List.length_cons] at this
        omega
    | bad o => rw [hn] at h; cases h
theorem cut_toks {s : List UInt8} {l : List TokP} (h : cutB s = .ok l) : l.length ≤ 1024 ∧ ∀ q ∈ l, tokOk q := by
  obtain ⟨h1, h2, h3⟩ := cutB_ok.1 h
  refine ⟨h3, fun q hq => ?_⟩
  have := lex_ok _ _ _ _ h2 q hq
  exact ⟨this.2.1, by omega, by omega⟩
/-- What a text reads as: one term, or all. -/
def readB {α : Type} (f : (List UInt8 → O × Bool) → (List UInt8 → O × Bool) → List TokP → ReadR α) (xs : List O) (s : List UInt8) : ReadR α :=
  if goodB xs then (match cutB s with | .ok l => f (preO xs) (betO xs) l | .bad p o => .bad (if o then 3 else 2)) else .bad 1
/-- What begin leaves. -/
def BegX (E : Nat → Bool) (w : World) (xs : List O) (g : Bool) (X : CutR) (e : Ending) (w' : World) : Prop :=
  (if g then (match X with
    | .ok l => ∃ rb D M, w.heap.size ≤ rb ∧ e = .returned (.tuple #[.pointer (some ⟨rb, 0, none⟩), .int .i64 0]) ∧ St D M w' rb xs ⟨l, 0, []⟩ ∧ (∀ k, k < w.heap.size → D k = E k ∧ M k = false)
    | .bad p o => e = .returned (.tuple #[.pointer none, .int .i64 (if o then 3 else 2)]))
   else e = .returned (.tuple #[.pointer none, .int .i64 1])) ∧ Below w.heap.size w w'
theorem hide_one {w : World} {b : Nat} (hb : w.heap.size ≤ b) {w' : World} (h : Below w.heap.size w w') : Stays w (hide (fun k => k == b) w') := by
  have := Stays.hide (D := fun _ => false) (D' := fun k => k == b) h.size (fun k hk _ => ⟨by simp; omega, h.block k hk⟩)
  rw [hide_none] at this
  exact this
set_option maxHeartbeats 2000000 in
theorem begin_at {E : Nat → Bool} {xs : List O} {w : World} {v : Value} (hE : Old E w) (h : Ops (hide E w) v xs) (s : ByteArray) (he : Err w) (hs : s.size ≤ 140737488351232) :
    Calls Tryz.prog 42 #[.agg #[v], .string s] w (BegX E w xs (goodB xs) (cutB (bl s))) := by
  obtain ⟨ao, co, rfl, hl1, hl2⟩ := h.form
  obtain ⟨mo, hmo⟩ : ∃ m, xs.length = m := ⟨_, rfl⟩
  rw [hmo] at h hl1; rw [hmo]
  obtain ⟨w1, hw1, hb1, hz1, hx1⟩ := box_new w #[.slice ao mo co] 36
  have HG := good_walk (h.bare.ext hb1)
  obtain ⟨g, hg⟩ : ∃ g, goodB xs = g := ⟨_, rfl⟩
  rw [hg] at HG
  have HG := Lib.hid HG
  have HC := Lib.hid (fun wq (hb : Below w.heap.size w wq) => cut_any s wq (he.ext hb) hs)
  have c0 := hx1.cells 0 _ rfl
  have HX1 := Lib.hid hx1
  have HO := Lib.hid h
  obtain ⟨X, hX⟩ : ∃ X, cutB (bl s) = X := ⟨_, rfl⟩
  rw [hX] at HC
  rw [hg, hX]
  have HXX := Lib.hid hX
  have HB1 := Lib.hid hb1
  have HOE := Lib.hid hE
  clear h hE he hs hb1 hz1 hx1 hX hg hl1 hl2 hmo
  cases g with
  | false =>
    go_enter Tryz.func42, Tryz.ntmps42
    go_wp2_with fail
    (try rw [hw1])
    clear hw1
    (go_wp2_with fail; go_fit (HG.out); rintro e w2 ⟨rfl, hb2⟩)
    have HB2 := Lib.hid (Ext.trans' HB1.out hb2)
    clear hb2
    go_wp2
    go_ret2
    exact ⟨rfl, HB2.out⟩
  | true =>
    go_enter Tryz.func42, Tryz.ntmps42
    go_wp2_with fail
    (try rw [hw1])
    clear hw1
    (go_wp2_with fail; go_fit (HG.out); rintro e w2 ⟨rfl, hb2⟩)
    have HB2 := Lib.hid (Ext.trans' HB1.out hb2)
    have c0 := cell_later hb2 c0
    have HX2 := Lib.hid (HX1.out.ext hb2)
    clear hb2
    cases X with
    | bad p o =>
      have HC2 : Hid (Calls Tryz.prog 23 #[.string s] w2 fun e w' => e = .returned (.tuple #[.slice none 0 0, .int .i64 (p : Int), .int .i64 (if o then 3 else 2)]) ∧ Below w2.heap.size w2 w') := Lib.hid ((HC.out w2 HB2.out).mono fun e w' h => h)
      cases o
      all_goals
        (go_wp2_with fail; go_fit (HC2.out); rintro e w3 ⟨rfl, hb3⟩)
        have HB3 := Lib.hid (Ext.trans' HB2.out hb3)
        clear hb3
        go_wp2
        go_ret2
        exact ⟨rfl, HB3.out⟩
    | ok l =>
      obtain ⟨ml, hml⟩ : ∃ m, l.length = m := ⟨_, rfl⟩
      have HC2 : Hid (Calls Tryz.prog 23 #[.string s] w2 fun e w' => ∃ (al : Option Addr) (cl : Nat), e = .returned (.tuple #[.slice al ml cl, .int .i64 (s.size : Int), .int .i64 0]) ∧ RowT w' w2.heap.size (.slice al ml cl) l ∧ Below w2.heap.size w2 w') := Lib.hid ((HC.out w2 HB2.out).mono fun e w' h => by
        obtain ⟨⟨al, cl, h1, h2⟩, h3⟩ := h
        rw [hml] at h1 h2
        refine ⟨al, cl, h1, ?_, h3⟩
        exact h2)
      (go_wp2_with fail; go_fit (HC2.out); rintro e w3 ⟨al, cl, rfl, htk, hb3⟩)
      have c0 := cell_later hb3 c0
      have HTk := Lib.hid htk
      have HB3 := Lib.hid (Ext.trans' HB2.out hb3)
      clear hb3 htk HC HC2 HG hml
      go_wp2
      go_ret2
      obtain ⟨w4, hw4, hb4, hz4, hx4⟩ := box_new w3 #[.slice ao mo co, .slice al ml cl, .int .i64 0, .slice none 0 0] 83
      rw [hw4]
      obtain ⟨r0, r1, r2, r3, rf⟩ := hx4.four
      have hB4 := Ext.trans' HB3.out hb4
      have hct := cut_toks HXX.out
      have hst : Stays (hide E w) (hide (fun k => k == w3.heap.size || E k) w4) := Stays.hide hB4.size fun k hk hd => ⟨by have := HB3.out.size; simp [hd]; omega, hB4.block k hk⟩
      have htk4 : RowT (hide (fun k => k == w3.heap.size || E k) w4) w2.heap.size (.slice al ml cl) l := row_at HTk.out (fun g hg => by
        have h1 := row_in HTk.out hg
        have h2 := HB2.out.size
        rw [hide_get _ _ _ (by simp [HOE.out g (Nat.le_trans h2 h1.1)]; omega)]
        exact hb4.block g h1.2)
      refine ⟨⟨w3.heap.size, fun k => k == w3.heap.size || E k, fun k => k == w3.heap.size, HB3.out.size, rfl, ?_, fun k hk => by have := HB3.out.size; constructor <;> simp <;> omega⟩, hB4⟩
      exact { mb := by simp, md := fun k hk => by simp at hk; simp [hk], old := fun k hk => by have h1 := hx4.lt; have h2 := HOE.out k (Nat.le_trans hB4.size hk); simp [h2]; omega
              co := ⟨_, r0, Elems.stay HO.out hst⟩
              cl := ⟨_, r1, Elems.owned tCells_len htk4⟩
              c2 := r2, c3 := ⟨_, r3, World.ownsRow_nil _ _ _ _, fun k hk => by cases hk⟩, fz := rf
              nice := ⟨by show 0 + l.length ≤ 2000; omega, Nat.le_refl _, hct.2, fun p hp => by cases hp⟩ }
end Go.Proofs.YtobdhcaoeholhaaGreatDoor
/- What is written is read as it was: every term. Pure. -/
namespace Go.Proofs.YtobdhcaoeholhaaGreatDoor
open Go.RowKit
set_option linter.unusedVariables false

mutual
def inV (vs : List Int) : Tm → Prop
  | .mk k n _ ts => (k = 0 → n ∈ vs) ∧ inVs vs ts
def inVs (vs : List Int) : List Tm → Prop
  | [] => True
  | x :: r => inV vs x ∧ inVs vs r
end
mutual
theorem inV_of {vs : List Int} : ∀ (t : Tm) (acc : List Int), formedT t = true → (∀ n ∈ varsT t acc, n ∈ vs) → inV vs t
  | .mk k n s ts, acc, hf, h => by
    rw [formedT, Bool.and_eq_true] at hf
    rw [inV]
    by_cases hk : k = 0
    · subst hk
      have hts : ts = [] := by
        have := hf.1
        unfold plainT at this
        rw [if_pos rfl] at this
        simp only [Bool.and_eq_true, decide_eq_true_eq] at this
        exact List.length_eq_zero_iff.1 this.2
      subst hts
      refine ⟨fun _ => ?_, by rw [inVs]; trivial⟩
      apply h
      rw [varsT, if_pos rfl]
      split
      · rename_i hc; simpa using hc
      · simp
    · rw [varsT, if_neg hk] at h
      exact ⟨fun e => absurd e hk, inVs_of ts acc hf.2 h⟩
theorem inVs_of {vs : List Int} : ∀ (ts : List Tm) (acc : List Int), formedL ts = true → (∀ n ∈ varsL ts acc, n ∈ vs) → inVs vs ts
  | [], acc, hf, h => by rw [inVs]; trivial
  | x :: r, acc, hf, h => by
    rw [formedL, Bool.and_eq_true] at hf
    rw [varsL] at h
    rw [inVs]
    exact ⟨inV_of x acc hf.1 (fun n hn => h n ((varss_pre r _).subset hn)), inVs_of r _ hf.2 h⟩
end
theorem inVs_mem {vs : List Int} : ∀ {l : List Tm} {x : Tm}, inVs vs l → x ∈ l → inV vs x
  | y :: r, x, h, hx => by
    rw [inVs] at h
    rcases List.mem_cons.1 hx with rfl | hx
    · exact h.1
    · exact inVs_mem h.2 hx
theorem items_all (P : Tm → Prop) (hP : ∀ k n s ts, P (.mk k n s ts) → ∀ y ∈ ts, P y) : ∀ (m : Nat) (t : Tm), sizeN t ≤ m → P t → (∀ y ∈ (itemsT t).1, P y) ∧ P (itemsT t).2
  | 0, t, h, _ => by have := size_pos t; omega
  | m + 1, t, h, hp => by
    cases hq : pairT t with
    | none => rw [items_none hq]; exact ⟨fun y hy => (by cases hy), hp⟩
    | some q =>
      obtain ⟨a, b⟩ := q
      obtain ⟨h1, h2, h3, h4⟩ := pair_size hq
      rw [items_some hq]
      cases t with
      | mk k n s ts =>
        have h2' : ts = [a, b] := h2
        subst h2'
        have ha := hP k n s _ hp a (by simp)
        have hb := hP k n s _ hp b (by simp)
        have ih := items_all P hP m b (by omega) hb
        refine ⟨fun y hy => ?_, ih.2⟩
        rcases List.mem_cons.1 hy with rfl | hy
        · exact ha
        · exact ih.1 y hy
theorem may_letters {s : List UInt8} (h : s.all letterB = true) : s.all mayQ = true := by
  rw [List.all_eq_true] at h ⊢
  intro c hc
  have := h c hc
  unfold letterB at this
  unfold mayQ
  rw [Bool.or_comm (c == 10)]
  exact this
section
variable {pre bet : List UInt8 → O × Bool} {vs : List Int}
def rbW (pre bet : List UInt8 → O × Bool) (x : Tm) : Int := if (opW pre bet x).2 then (sidesB (bl (opW pre bet x).1.k) (opW pre bet x).1.l).2 else -1
theorem rbW_no {x : Tm} (h : (opW pre bet x).2 = false) : rbW pre bet x = -1 := by unfold rbW; rw [h]; rfl
def AllW (pre bet : List UInt8 → O × Bool) (vs : List Int) (x : Tm) : Prop :=
  ∃ lv, lv ≤ levW pre bet x ∧ 0 ≤ levW pre bet x ∧ levW pre bet x ≤ 1200 ∧ rbW pre bet x ≤ levW pre bet x ∧ Wrt pre bet vs x lv (rbW pre bet x) (cloW (pre := pre) (bet := bet) x) (begW (pre := pre) (bet := bet) x) (BARE vs pre bet x)
theorem AllW.place {x : Tm} (h : AllW pre bet vs x) {m : Int} (hm : 0 ≤ m) : ∃ lv rb clo beg, lv ≤ m ∧ rb ≤ m ∧ Wrt pre bet vs x lv rb clo beg (placeW pre bet (BARE vs pre bet) m x) := by
  obtain ⟨lv, h1, h2, h3, h4, h5⟩ := h
  exact h5.place h1 h3 h4 hm
theorem args_ne {k n : Int} {s : ByteArray} {a : Tm} {r : List Tm} : cloW (pre := pre) (bet := bet) (.mk k n s (a :: r)) = false ∧ (k ≠ 1 → begW (pre := pre) (bet := bet) (.mk k n s (a :: r)) = true) := by
  have h1 : cloW (pre := pre) (bet := bet) (.mk k n s (a :: r)) = false := rfl
  refine ⟨h1, fun hk => ?_⟩
  unfold begW
  rw [h1]
  have : ((Tm.mk k n s (a :: r)).k == 1) = false := beq_false_of_ne hk
  rw [this]
  rfl
/-- What is not by an operator, with Args. -/
theorem comp_all (hT : TabW pre bet) {s : ByteArray} {a : Tm} {r : List Tm} {b : List UInt8} (ho : opW pre bet (.mk 2 0 s (a :: r)) = zO) (hb : BARE vs pre bet (.mk 2 0 s (a :: r)) = b) (hw : Wrt pre bet vs (.mk 2 0 s (a :: r)) 0 (-1) false true b) : AllW pre bet vs (.mk 2 0 s (a :: r)) := by
  have hl : levW pre bet (.mk 2 0 s (a :: r)) = 0 := by
    unfold levW
    rw [ho]
    rfl
  obtain ⟨h1, h2⟩ := args_ne (pre := pre) (bet := bet) (k := 2) (n := 0) (s := s) (a := a) (r := r)
  refine ⟨0, by omega, by omega, by omega, ?_, ?_⟩
  · rw [rbW_no (by rw [ho]; rfl)]; omega
  · rw [rbW_no (by rw [ho]; rfl), h1, h2 (by decide), hb]
    exact hw
theorem wrt_all (hT : TabW pre bet) (hv : vs.length < 10000000000000000000000000) : ∀ (N : Nat) (x : Tm), sizeN x ≤ N → formedT x = true → numsT x → inV vs x → AllW pre bet vs x
  | 0, x, h, _, _, _ => by have := size_pos x; omega
  | N + 1, .mk k n s ts, hN, hf, hn, hi => by
    have ih : ∀ y ∈ ts, AllW pre bet vs y := fun y hy => by
      rw [sizeN] at hN
      have := sizes_mem hy
      rw [formedT, Bool.and_eq_true] at hf
      rw [numsT] at hn
      rw [inV] at hi
      exact wrt_all hT hv N y (by omega) (formed_mem hf.2 hy) (nums_mem hn.2 hy) (inVs_mem hi.2 hy)
    have hf0 := hf
    rw [formedT, Bool.and_eq_true] at hf
    have hp := hf.1
    unfold plainT at hp
    by_cases hk0 : k = 0
    · subst hk0
      rw [if_pos rfl] at hp
      simp only [Bool.and_eq_true, decide_eq_true_eq] at hp
      have hts : ts = [] := List.length_eq_zero_iff.1 hp.2
      subst hts
      have hs : s = ⟨#[]⟩ := bytes_eq (by simpa using hp.1.2)
      rw [inV] at hi
      have hl : levW pre bet (.mk 0 n s []) = 0 := rfl
      refine ⟨0, by omega, by omega, by omega, by rw [rbW_no rfl]; omega, ?_⟩
      rw [rbW_no rfl, show cloW (pre := pre) (bet := bet) (.mk 0 n s []) = false from rfl, show begW (pre := pre) (bet := bet) (.mk 0 n s []) = true from rfl]
      have hb : BARE vs pre bet (.mk 0 n s []) = 95 :: numW (idxW vs n) := by
        rw [BARE_eq, bareW_leaf]
        rfl
      rw [hb]
      exact wrt_var hs hv (hi.1 rfl)
    rw [if_neg hk0] at hp
    by_cases hk1 : k = 1
    · subst hk1
      rw [if_pos rfl] at hp
      simp only [Bool.and_eq_true, decide_eq_true_eq] at hp
      have hts : ts = [] := List.length_eq_zero_iff.1 hp.2
      subst hts
      have hs : s = ⟨#[]⟩ := bytes_eq (by simpa using hp.1)
      subst hs
      rw [numsT] at hn
      have hl : levW pre bet (.mk 1 n ⟨#[]⟩ []) = 0 := rfl
      refine ⟨0, by omega, by omega, by omega, by rw [rbW_no rfl]; omega, ?_⟩
      rw [rbW_no rfl, show cloW (pre := pre) (bet := bet) (.mk 1 n ⟨#[]⟩ []) = false from rfl]
      have hbg : begW (pre := pre) (bet := bet) (.mk 1 n ⟨#[]⟩ []) = !decide (n < 0) := by
        unfold begW
        rw [show cloW (pre := pre) (bet := bet) (.mk 1 n ⟨#[]⟩ []) = false from rfl]
        rfl
      have hb : BARE vs pre bet (.mk 1 n ⟨#[]⟩ []) = numW n := by
        rw [BARE_eq, bareW_leaf]
        rfl
      rw [hbg, hb]
      exact wrt_num (hn.1 rfl)
    rw [if_neg hk1] at hp
    by_cases hk2 : k = 2
    · subst hk2
      rw [if_pos rfl] at hp
      simp only [Bool.and_eq_true, decide_eq_true_eq] at hp
      obtain ⟨⟨⟨hn0, hlen⟩, _⟩, hlet⟩ := hp
      subst hn0
      have hm : (bl s).all mayQ = true := may_letters hlet
      have hl64 : (bl s).length ≤ 64 := hlen
      have hrow : RowOK pre bet vs (placeW pre bet (BARE vs pre bet) 999) ts := fun y hy => (ih y hy).place (by decide)
      have hcalled : ∀ (a : Tm) (r : List Tm), ts = a :: r → calledW vs (placeW pre bet (BARE vs pre bet) 999) (.mk 2 0 s ts) = quoteB (bl s) ++ 40 :: (rowW (placeW pre bet (BARE vs pre bet) 999) ts ++ [41]) := fun a r e => by
        subst e
        rfl
      have hcurly : ∀ (a : Tm), ts = [a] → bl s = [123, 125] → opW pre bet (.mk 2 0 s ts) = zO := fun a e hs => by
        subst e
        rw [opW_one, hs, hT.curly]
        rfl
      by_cases ho : (opW pre bet (.mk 2 0 s ts)).2 = true
      · -- by an operator
        match ts, ho, ih with
        | [], ho, _ => cases ho
        | [a], ho, ih =>
          have hif : ((pre (bl s)).2 && (plainB (bl s) && !(bl s == [45] && a.k == 1))) = true := by
            rw [opW_one] at ho
            split at ho
            · rename_i h; exact h
            · cases ho
          have hop : opW pre bet (.mk 2 0 s [a]) = pre (bl s) := by rw [opW_one, if_pos hif]
          simp only [Bool.and_eq_true] at hif
          have hpre := hT.pre1 _ hif.1
          obtain ⟨lva, a1, a2, a3, a4, a5⟩ := ih a (by simp)
          have hsd := sides_one hpre.2.1 hpre.2.2.1 hpre.2.2.2
          have hlev : levW pre bet (.mk 2 0 s [a]) = (pre (bl s)).1.l := by unfold levW; rw [hop]; rfl
          have hrb : rbW pre bet (.mk 2 0 s [a]) = (sidesB (bl (pre (bl s)).1.k) (pre (bl s)).1.l).2 := by unfold rbW; rw [hop, hif.1]; rfl
          have hb : BARE vs pre bet (.mk 2 0 s [a]) = quoteB (bl s) ++ 32 :: besideW pre bet (BARE vs pre bet) a (sidesB (bl (pre (bl s)).1.k) (pre (bl s)).1.l).2 := by
            rw [BARE_eq]
            unfold bareW
            rw [if_pos ho, hop]
            show aheadW pre bet _ (pre (bl s)).1 a = _
            unfold aheadW
            rw [hpre.1]
          obtain ⟨h1, h2⟩ := args_ne (pre := pre) (bet := bet) (k := 2) (n := 0) (s := s) (a := a) (r := [])
          refine ⟨(pre (bl s)).1.l, by omega, by omega, by omega, by rw [hrb, hlev]; exact hsd.2.1, ?_⟩
          rw [hrb, h1, h2 (by decide), hb]
          rcases Wrt.beside a5 a1 a3 a2 (m := (sidesB (bl (pre (bl s)).1.k) (pre (bl s)).1.l).2) with hbr | ⟨hle, hw⟩
          · exact wrt_ahead hT hm hl64 hif.1 hif.2.1 hsd.2.2 (by omega) hbr
          · exact wrt_ahead hT hm hl64 hif.1 hif.2.1 (by omega) (by omega) hw
        | [a, c], ho, ih =>
          have hif : ¬ (bl s == [46]) = true := by
            intro e
            rw [opW_two, if_pos e] at ho
            cases ho
          have hop : opW pre bet (.mk 2 0 s [a, c]) = bet (bl s) := by rw [opW_two, if_neg hif]
          rw [hop] at ho
          have hbet := hT.bet1 _ ho
          obtain ⟨lva, a1, a2, a3, a4, a5⟩ := ih a (by simp)
          obtain ⟨lvc, c1, c2, c3, c4, c5⟩ := ih c (by simp)
          have hlev : levW pre bet (.mk 2 0 s [a, c]) = (bet (bl s)).1.l := by unfold levW; rw [hop]; rfl
          have hrb : rbW pre bet (.mk 2 0 s [a, c]) = (sidesB (bl (bet (bl s)).1.k) (bet (bl s)).1.l).2 := by unfold rbW; rw [hop, ho]; rfl
          obtain ⟨L, hL⟩ : ∃ L, leftW pre bet (bet (bl s)).1 a = L := ⟨_, rfl⟩
          have hb : BARE vs pre bet (.mk 2 0 s [a, c]) = besideW pre bet (BARE vs pre bet) a L ++ ((if bl s == [44] then [44] else 32 :: (quoteB (bl s) ++ [32])) ++ besideW pre bet (BARE vs pre bet) c (sidesB (bl (bet (bl s)).1.k) (bet (bl s)).1.l).2) := by
            rw [BARE_eq]
            unfold bareW
            rw [hop, if_pos ho]
            show betweenW pre bet _ (bet (bl s)).1 a c = _
            unfold betweenW
            rw [hbet.1, hL]
          have hsd := sides_two hbet.2.1 hbet.2.2.1 hbet.2.2.2
          have hrl : (sidesB (bl (bet (bl s)).1.k) (bet (bl s)).1.l).2 ≤ (bet (bl s)).1.l := by rcases hsd with h | h <;> omega
          have hr0 : 0 ≤ (sidesB (bl (bet (bl s)).1.k) (bet (bl s)).1.l).2 := by rcases hsd with h | h <;> omega
          -- what stands left
          have hleft : ∃ lv rb, lv ≤ (sidesB (bl (bet (bl s)).1.k) (bet (bl s)).1.l).1 ∧ lv ≤ (bet (bl s)).1.l ∧ rb < (bet (bl s)).1.l ∧ Wrt pre bet vs a lv rb false true (besideW pre bet (BARE vs pre bet) a L) := by
            rcases Wrt.beside a5 a1 a3 a2 (m := L) with hbr | ⟨hle, hw⟩
            · refine ⟨0, -1, ?_, by omega, by omega, hbr⟩
              rcases hsd with h | h <;> omega
            · refine ⟨lva, rbW pre bet a, ?_, ?_, ?_, hw⟩
              all_goals
                unfold leftW at hL
                rcases hsd with ⟨s1, s2, _, _⟩ | ⟨s1, s2, s3⟩
                · rw [if_neg (by simp [s1])] at hL
                  omega
                · by_cases hin : (bl (opW pre bet a).1.k == yfxL) = true
                  · rw [if_neg (by simp [hin])] at hL
                    have hin' : bl (opW pre bet a).1.k = yfxL := by simpa using hin
                    have hoa : (opW pre bet a).2 = true ∧ sideB (bl (opW pre bet a).1.k) = 2 ∧ 1 ≤ (opW pre bet a).1.l ∧ (opW pre bet a).1.l ≤ 1200 ∧ levW pre bet a = (opW pre bet a).1.l := by
                      have hz : opW pre bet a ≠ zO := by
                        intro e
                        rw [e] at hin'
                        exact absurd hin' (by decide)
                      match a, hz, hin' with
                      | .mk k' n' s' [], hz, _ => exact absurd rfl hz
                      | .mk k' n' s' [y], hz, hin' =>
                        rw [opW_one] at hz hin'
                        split at hz
                        · rename_i h
                          rw [if_pos h] at hin'
                          simp only [Bool.and_eq_true] at h
                          have := hT.pre1 _ h.1
                          rw [hin'] at this
                          exact absurd this.2.1 (by decide)
                        · exact absurd rfl hz
                      | .mk k' n' s' [y, z], hz, hin' =>
                        have hlv : levW pre bet (.mk k' n' s' [y, z]) = (opW pre bet (.mk k' n' s' [y, z])).1.l := by
                          unfold levW
                          rw [if_neg (by show ¬ ((k' == 2 && false) = true); simp)]
                        rw [hlv, opW_two]
                        rw [opW_two] at hz hin'
                        split at hz
                        · exact absurd rfl hz
                        · rename_i h
                          rw [if_neg h] at hin' ⊢
                          cases hb2 : (bet (bl s')).2 with
                          | false => rw [hT.bet0 _ hb2] at hin'; exact absurd hin' (by decide)
                          | true =>
                            have := hT.bet1 _ hb2
                            exact ⟨rfl, this.2.1, this.2.2.1, this.2.2.2, rfl⟩
                      | .mk k' n' s' (y :: z :: u :: r), hz, _ => exact absurd rfl hz
                    have hrba : rbW pre bet a = (opW pre bet a).1.l - 1 := by
                      unfold rbW
                      rw [hoa.1, if_pos rfl]
                      rcases sides_two hoa.2.1 hoa.2.2.1 hoa.2.2.2.1 with h | h
                      · exact absurd hin' h.1
                      · exact h.2.2
                    omega
                  · rw [if_pos (by simp only [Bool.not_eq_true] at hin; rw [hin, s1]; rfl)] at hL
                    rw [s2, w64 (by omega) hbet.2.2.2] at hL
                    omega
          obtain ⟨lv', rb', l1, l2, l3, l4⟩ := hleft
          obtain ⟨h1, h2⟩ := args_ne (pre := pre) (bet := bet) (k := 2) (n := 0) (s := s) (a := a) (r := [c])
          refine ⟨(bet (bl s)).1.l, by omega, by omega, by omega, by rw [hrb, hlev]; exact hrl, ?_⟩
          rw [hrb, h1, h2 (by decide), hb]
          rcases Wrt.beside c5 c1 c3 c2 (m := (sidesB (bl (bet (bl s)).1.k) (bet (bl s)).1.l).2) with hbr | ⟨hle, hw⟩
          · exact wrt_between hT hm hl64 ho l1 l2 l3 l4 hr0 (by omega) hbr
          · exact wrt_between hT hm hl64 ho l1 l2 l3 l4 (by omega) (by omega) hw
        | a :: c :: d :: r, ho, _ => cases ho
      · have hof : (opW pre bet (.mk 2 0 s ts)).2 = false := by simpa using ho
        have hzo : opW pre bet (.mk 2 0 s ts) = zO := by
          match ts, hof with
          | [], _ => rfl
          | [a], hof =>
            rw [opW_one] at hof ⊢
            split
            · rename_i h
              rw [if_pos h] at hof
              exact hT.pre0 _ hof
            · rfl
          | [a, c], hof =>
            rw [opW_two] at hof ⊢
            split
            · rfl
            · rename_i h
              rw [if_neg h] at hof
              exact hT.bet0 _ hof
          | a :: c :: d :: r, _ => rfl
        match ts, hzo, hof, hrow, hcalled, ih, hf0, hN, hn, hi with
        | [], hzo, hof, _, _, _, _, _, _, _ =>
          obtain ⟨lv, h1, h2⟩ := wrt_atom (vs := vs) hT hm hl64
          have hlev : levW pre bet (.mk 2 0 s []) = max (pre (bl s)).1.l (bet (bl s)).1.l := rfl
          have hb : BARE vs pre bet (.mk 2 0 s []) = quoteB (bl s) := by
            rw [BARE_eq, bareW_leaf]
            rfl
          have hpl : 0 ≤ (pre (bl s)).1.l ∧ (pre (bl s)).1.l ≤ 1200 := by
            cases h : (pre (bl s)).2 with
            | true => have := (hT.pre1 _ h).2.2; omega
            | false => rw [hT.pre0 _ h]; exact ⟨Int.le_refl _, by decide⟩
          have hbl : 0 ≤ (bet (bl s)).1.l ∧ (bet (bl s)).1.l ≤ 1200 := by
            cases h : (bet (bl s)).2 with
            | true => have := (hT.bet1 _ h).2.2; omega
            | false => rw [hT.bet0 _ h]; exact ⟨Int.le_refl _, by decide⟩
          refine ⟨lv, h1, by rw [hlev]; omega, by rw [hlev]; omega, by rw [rbW_no hof, hlev]; omega, ?_⟩
          rw [rbW_no hof, hb]
          exact h2
        | a :: r, hzo, hof, hrow, hcalled, ih, hf0, hN, hn, hi =>
          by_cases hdot : (bl s == [46] && decide ((a :: r).length = 2)) = true
          · -- a list
            simp only [Bool.and_eq_true, decide_eq_true_eq, beq_iff_eq] at hdot
            have hx := list_items (N + 1) _ hN hf0
            obtain ⟨c, hrc⟩ : ∃ c, r = [c] := by
              match r, hdot.2 with
              | [c], _ => exact ⟨c, rfl⟩
            have hpair : pairT (.mk 2 0 s (a :: r)) = some (a, c) := by
              subst hrc
              show (if ((2 : Int) == 2 && s.data.toList == [46]) = true then some (a, c) else none) = _
              have : s.data.toList = [46] := hdot.1
              rw [this]
              rfl
            have hit := items_some hpair
            have hsz := items_size (N + 1) _ hN
            have hP := items_all (fun y => formedT y = true ∧ numsT y ∧ inV vs y) (fun k n s ts h y hy => by
              obtain ⟨h1, h2, h3⟩ := h
              rw [formedT, Bool.and_eq_true] at h1
              rw [numsT] at h2
              rw [inV] at h3
              exact ⟨formed_mem h1.2 hy, nums_mem h2.2 hy, inVs_mem h3.2 hy⟩) (N + 1) _ hN ⟨hf0, hn, hi⟩
            have hne : (itemsT (.mk 2 0 s (a :: r))).1 ≠ [] := by rw [hit]; simp
            have hts : sizeN (itemsT (.mk 2 0 s (a :: r))).2 < sizeN (.mk 2 0 s (a :: r)) := by
              rcases hsz.2 with h | ⟨h, _⟩
              · exact h
              · exact absurd h hne
            have hrw : RowOK pre bet vs (placeW pre bet (BARE vs pre bet) 999) (itemsT (.mk 2 0 s (a :: r))).1 := fun y hy => by
              have h1 := hsz.1 y hy
              obtain ⟨p1, p2, p3⟩ := hP.1 y hy
              exact (wrt_all hT hv N y (by omega) p1 p2 p3).place (by decide)
            have htw : nilW (itemsT (.mk 2 0 s (a :: r))).2 = false → ∃ lv rb clo beg, lv ≤ 999 ∧ rb ≤ 999 ∧ Wrt pre bet vs (itemsT (.mk 2 0 s (a :: r))).2 lv rb clo beg (placeW pre bet (BARE vs pre bet) 999 (itemsT (.mk 2 0 s (a :: r))).2) := fun _ => by
              obtain ⟨p1, p2, p3⟩ := hP.2
              exact (wrt_all hT hv N _ (by omega) p1 p2 p3).place (by decide)
            have hw := wrt_list hT hne hrw htw
            rw [hx] at hw
            refine comp_all hT hzo ?_ hw
            rw [BARE_eq]
            unfold bareW
            rw [if_neg (by rw [hof]; decide), if_pos (by show (true && (bl s == [46] && decide ((a :: r).length = 2))) = true; rw [hdot.1, hdot.2]; rfl)]
            rfl
          · by_cases hcu : (bl s == [123, 125] && decide ((a :: r).length = 1)) = true
            · simp only [Bool.and_eq_true, decide_eq_true_eq, beq_iff_eq] at hcu
              have hr0 : r = [] := by
                match r, hcu.2 with
                | [], _ => rfl
              subst hr0
              obtain ⟨lva, rba, cloa, bega, p1, p2, p3⟩ := (ih a (by simp)).place (m := 1200) (by decide)
              refine comp_all hT hzo ?_ (wrt_curly hcu.1 p3 p1)
              rw [BARE_eq]
              unfold bareW
              rw [if_neg (by rw [hof]; decide), if_neg (by show ¬ ((true && (bl s == [46] && decide (([a] : List Tm).length = 2))) = true); simp), if_pos (by show (bl s == [123, 125] && decide (([a] : List Tm).length = 1)) = true; rw [hcu.1]; rfl)]
              rfl
            · refine comp_all hT hzo ?_ (wrt_comp hT hm hl64 (by simp) hrow)
              rw [BARE_eq]
              unfold bareW
              rw [if_neg (by rw [hof]; decide), if_neg (by show ¬ ((true && (bl s == [46] && decide ((a :: r).length = 2))) = true); simpa using hdot), if_neg (by exact hcu)]
              exact hcalled a r rfl
    · rw [if_neg hk2] at hp
      cases hp
end
mutual
theorem wvars_len : ∀ (t : Tm) (l : List Int), (varsT t l).length ≤ l.length + sizeN t
  | .mk k n s ts, l => by
    rw [varsT, sizeN]
    split
    · split
      · omega
      · rw [List.length_append, List.length_singleton]; omega
    · have := wvarss_len ts l; omega
theorem wvarss_len : ∀ (ts : List Tm) (l : List Int), (varsL ts l).length ≤ l.length + sizesN ts
  | [], l => by rw [varsL, sizesN]; omega
  | x :: r, l => by
    rw [varsL, sizesN]
    have h1 := wvars_len x l
    have h2 := wvarss_len r (varsT x l)
    omega
end
mutual
theorem ren_size (vs : List Int) : ∀ (t : Tm), sizeN (renT vs t) = sizeN t
  | .mk k n s ts => by rw [renT, sizeN, sizeN, rens_size vs ts]
theorem rens_size (vs : List Int) : ∀ (ts : List Tm), sizesN (renL vs ts) = sizesN ts
  | [] => rfl
  | x :: r => by rw [renL, sizesN, sizesN, ren_size vs x, rens_size vs r]
end
mutual
theorem ren_depth (vs : List Int) : ∀ (t : Tm), depthN (renT vs t) = depthN t
  | .mk k n s ts => by rw [renT, depthN, depthN, rens_depth vs ts]
theorem rens_depth (vs : List Int) : ∀ (ts : List Tm), depthsN (renL vs ts) = depthsN ts
  | [] => rfl
  | x :: r => by rw [renL, depthsN, depthsN, ren_depth vs x, rens_depth vs r]
end
theorem renL_len (vs : List Int) : ∀ (ts : List Tm), (renL vs ts).length = ts.length
  | [] => rfl
  | x :: r => by rw [renL, List.length_cons, List.length_cons, renL_len vs r]
mutual
theorem ren_formed {vs : List Int} (hv : vs.length < 2147483648) : ∀ (t : Tm), formedT t = true → inV vs t → formedT (renT vs t) = true
  | .mk k n s ts, hf, hi => by
    rw [formedT, Bool.and_eq_true] at hf
    rw [inV] at hi
    rw [renT, formedT, Bool.and_eq_true, renL_len]
    refine ⟨?_, rens_formed hv ts hf.2 hi.2⟩
    have hp := hf.1
    by_cases hk : k = 0
    · rw [if_pos hk]
      obtain ⟨i, _, h2, h3⟩ := idx_nat (hi.1 hk)
      rw [h2]
      unfold plainT at hp ⊢
      rw [if_pos hk] at hp ⊢
      simp only [Bool.and_eq_true, decide_eq_true_eq] at hp ⊢
      exact ⟨⟨⟨by omega, by omega⟩, hp.1.2⟩, hp.2⟩
    · rw [if_neg hk]; exact hp
theorem rens_formed {vs : List Int} (hv : vs.length < 2147483648) : ∀ (ts : List Tm), formedL ts = true → inVs vs ts → formedL (renL vs ts) = true
  | [], _, _ => rfl
  | x :: r, hf, hi => by
    rw [formedL, Bool.and_eq_true] at hf
    rw [inVs] at hi
    rw [renL, formedL, Bool.and_eq_true]
    exact ⟨ren_formed hv x hf.1 hi.1, rens_formed hv r hf.2 hi.2⟩
end
/-- A good term's text. -/
abbrev writeT (xs : List O) (x : Tm) : List UInt8 := WRITE (varsT x []) (preO xs) (betO xs) x
theorem ren_good {x : Tm} (h : goodT x = true) : goodT (renT (varsT x []) x) = true := by
  obtain ⟨h1, h2, h3⟩ := good_parts h
  have hl := wvars_len x []
  rw [List.length_nil] at hl
  exact good_of (by rw [ren_size]; exact h1) (by rw [ren_depth]; exact h2) (ren_formed (by omega) x h3 (inV_of x [] h3 (fun n hn => hn)))
def endTok (p : Nat) : TokP := (⟨6, [], 0, 1, false⟩, p)
/-- The tokens of a good term's text: they are read as that term. -/
theorem write_toks {xs : List O} {x : Tm} (hx : goodT x = true) (hn : numsT x) : ∃ t, Pc 0 (writeT xs x) t ∧ ∀ p, oneR (preO xs) (betO xs) (t ++ [endTok p]) = .ok (renT (varsT x []) x, nmsW (varsT x []).length) := by
  obtain ⟨h1, h2, h3⟩ := good_parts hx
  have hl := wvars_len x []
  rw [List.length_nil] at hl
  have hall := wrt_all (vs := varsT x []) (tab_of xs) (by omega) (sizeN x) x (Nat.le_refl _) h3 hn (inV_of x [] h3 (fun n hn => hn))
  obtain ⟨lv, rb, clo, beg, l1, l2, hw⟩ := hall.place (m := 1200) (by decide)
  obtain ⟨hd, tl, g1, g2, g3, g4⟩ := hw.toks 0
  refine ⟨hd :: tl, g1, fun p => ?_⟩
  have hfol : FolL (betO xs) 1200 [endTok p] := ⟨by show (6 : Nat) ≠ 4; omega, Or.inl rfl⟩
  have hr := g4 [] (List.prefix_refl _) 1200 l1 [endTok p] (hfol.le l2) (fun _ => rfl)
  rw [fol_stop hfol] at hr
  have hw' : wholeR (preO xs) (betO xs) ((hd :: tl) ++ [endTok p]) = some (renT (varsT x []) x, ⟨[], (varsT x []).length, nmsW (varsT x []).length⟩) := by
    unfold wholeR
    have e : anewR ((hd :: tl) ++ [endTok p]) = stW ((hd :: tl) ++ [endTok p]) [] := rfl
    rw [e, hr]
    rfl
  unfold oneR
  rw [hw']
  simp [ren_good hx]
theorem write_lex {xs : List O} {x : Tm} {t : List TokP} (h : Pc 0 (writeT xs x) t) : LexTo 0 (writeT xs x ++ [32, 46]) (t ++ [endTok ((writeT xs x).length + 1)]) := by
  refine h [32, 46] _ (by show stopB 32 = true; decide) ?_
  rw [Nat.zero_add]
  exact blank_step (LexTo.tok (t := ⟨6, [], 0, 1, false⟩) rfl (LexTo.nil _))
/-- What is written is read as it was, but for its variables' numbers, or its text is too much. -/
theorem write_read {xs : List O} (hg : goodB xs = true) {x : Tm} (hx : goodT x = true) (hn : numsT x) :
    (∃ l, cutB (writeT xs x ++ [32, 46]) = .ok l ∧ readB oneR xs (writeT xs x ++ [32, 46]) = .ok (renT (varsT x []) x, nmsW (varsT x []).length)) ∨ ∃ q, cutB (writeT xs x ++ [32, 46]) = .bad q true := by
  obtain ⟨t, h1, h2⟩ := write_toks (xs := xs) hx hn
  rcases cut_or (write_lex h1) with hc | hc
  · left
    refine ⟨_, hc, ?_⟩
    unfold readB
    rw [if_pos hg, hc]
    exact h2 _
  · exact Or.inr hc
end Go.Proofs.YtobdhcaoeholhaaGreatDoor
/- The project's writer: plain; Plain. -/
namespace Go.Proofs.YtobdhcaoeholhaaGreatDoor
open Go.RowKit
set_option linter.unusedVariables false
set_option maxRecDepth 100000

set_option maxHeartbeats 2000000 in
theorem plain_step {wb : Nat} {xs : List O} {vs : List Int} {n : Nat} (ih : ArgC 57 (PLAIN vs) n wb xs vs) : ArgC 57 (PLAIN vs) (n + 1) wb xs vs := by
  intro y hy hf M w out v h hv hz
  obtain ⟨k, nn, s, a, m, c, rfl⟩ := hv.full
  obtain ⟨w1, hw1, hb1, hz1, hx1⟩ := box_new w #[.int .i64 k, .int .i64 nn, .string s, .slice a m c] 27
  obtain ⟨b0, b1, b2, b3, bf⟩ := hx1.four
  have HC := Lib.hid (called_plain ih hf (fun z hz => by have := arg_size hz; omega) (h.later hb1) (TmV.later hb1 hv) (by rw [← PLAIN_eq]; exact hz))
  rw [← PLAIN_eq] at HC
  have HT1 := Lib.hid (show Turn M M M M w w1 from Turn.below hb1)
  clear h hv hz hb1 hx1 hz1
  go_enter Tryz.func57, Tryz.ntmps57
  go_wp2_with fail
  (try rw [hw1])
  clear hw1
  (go_wp2_with fail; go_fit (HC.out); rintro e w2 ⟨rfl, M2, g1, g2⟩)
  have G1 := Lib.hid g1
  have G2 := Lib.hid (HT1.out.trans g2)
  clear g1 g2
  go_wp2
  go_end0
  exact ⟨rfl, M2, G1.out, G2.out⟩
theorem plain_all {wb : Nat} {xs : List O} {vs : List Int} : ∀ n, ArgC 57 (PLAIN vs) n wb xs vs
  | 0 => fun y hy => by omega
  | n + 1 => plain_step (plain_all n)
end Go.Proofs.YtobdhcaoeholhaaGreatDoor
