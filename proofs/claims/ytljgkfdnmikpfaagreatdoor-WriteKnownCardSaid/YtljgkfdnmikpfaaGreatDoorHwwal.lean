import Derived.Test.YtljgkfdnmikpfaaGreatDoorHwwaj
import Derived.Test.YtljgkfdnmikpfaaGreatDoorHwwak
import Derived.Test.YtljgkfdnmikpfaaGreatDoorHwwai
import Derived.Deep.RegionLaw
import Derived.Deep.AppendLies
set_option linter.unusedVariables false
set_option linter.unusedSimpArgs false
/- What is written is read as it was, but for its variables' numbers. Pure. -/
namespace Go.Proofs.YtljgkfdnmikpfaaGreatDoor
open Go.RowKit
set_option linter.unusedVariables false

/-- What a good table tells of a name. -/
structure TabW (pre bet : List UInt8 → O × Bool) : Prop where
  pre1 : ∀ n, (pre n).2 = true → bl (pre n).1.n = n ∧ sideB (bl (pre n).1.k) = 1 ∧ 1 ≤ (pre n).1.l ∧ (pre n).1.l ≤ 1200
  pre0 : ∀ n, (pre n).2 = false → pre n = zO
  bet1 : ∀ n, (bet n).2 = true → bl (bet n).1.n = n ∧ sideB (bl (bet n).1.k) = 2 ∧ 1 ≤ (bet n).1.l ∧ (bet n).1.l ≤ 1200
  bet0 : ∀ n, (bet n).2 = false → bet n = zO
  curly : (pre [123, 125]).2 = false
  comma : (bet [44]).2 = true → (bet [44]).1.l = 1000
  nil : (pre [91, 93]).2 = false ∧ (bet [91, 93]).2 = false
theorem may_parts {n k : List UInt8} {l : Int} (h : mayB n k l = true) : sideB k ≠ 0 ∧ 1 ≤ l ∧ l ≤ 1200 ∧ (n = [44] → l = 1000) ∧ n ≠ [123, 125] ∧ n ≠ [91, 93] := by
  unfold mayB at h
  by_cases h0 : (n == [44]) = true
  · rw [if_pos h0] at h
    simp only [Bool.and_eq_true, beq_iff_eq] at h
    have hn : n = [44] := by simpa using h0
    rw [h.1, h.2, hn]
    exact ⟨by decide, by decide, by decide, fun _ => rfl, by decide, by decide⟩
  rw [if_neg h0] at h
  have hn : n ≠ [44] := by simpa using h0
  split at h
  · cases h
  split at h
  · cases h
  split at h
  · cases h
  split at h
  · cases h
  rename_i h3 h4
  simp only [Bool.and_eq_true, decide_eq_true_eq, bne_iff_ne] at h
  exact ⟨h.1.1.2, h.1.2, h.2, fun e => absurd e hn, by simpa using h4, by simpa using h3⟩
theorem one_find {xs : List O} {n : List UInt8} {s : Int} (h : (oneB xs n s).2 = true) : (oneB xs n s).1 ∈ xs ∧ key (oneB xs n s).1 = (n, s) ∧ goodB xs = true := by
  rcases place_cases xs n s with ⟨h1, h2⟩ | ⟨k, y, h1, h2, h3, _⟩
  · have := one_none (xs := xs) (n := n) (s := s) (fun x hx => by
      obtain ⟨j, hj, rfl⟩ := List.getElem_of_mem hx
      exact (isAt_no _ _ _).1 (h2 j _ (List.getElem?_eq_getElem hj)))
    rw [this] at h; cases h
  · have hg : goodB xs = true := by
      cases hg : goodB xs with
      | true => rfl
      | false => unfold oneB at h; rw [hg] at h; simp at h
    have := one_mem hg (List.mem_of_getElem? h2) ((isAt_iff _ _ _).1 h3)
    rw [this]
    exact ⟨List.mem_of_getElem? h2, (isAt_iff _ _ _).1 h3, hg⟩
theorem one_not {xs : List O} {n : List UInt8} {s : Int} (h : (oneB xs n s).2 = false) : oneB xs n s = zO := by
  unfold oneB at h ⊢
  split at h
  · rename_i hc; rw [if_pos hc]; rfl
  · cases h
theorem wone_ok {xs : List O} {n : List UInt8} {s : Int} (h : (oneB xs n s).2 = true) : bl (oneB xs n s).1.n = n ∧ sideB (bl (oneB xs n s).1.k) = s ∧ 1 ≤ (oneB xs n s).1.l ∧ (oneB xs n s).1.l ≤ 1200 ∧ (n = [44] → (oneB xs n s).1.l = 1000) ∧ n ≠ [123, 125] ∧ n ≠ [91, 93] := by
  obtain ⟨h1, h2, h3⟩ := one_find h
  have hm := ((good_iff xs).1 h3).2.1 _ h1
  have hk := Prod.mk.inj h2
  have := may_parts (show mayB (bl (oneB xs n s).1.n) (bl (oneB xs n s).1.k) (oneB xs n s).1.l = true from hm)
  rw [hk.1] at this
  exact ⟨hk.1, hk.2, this.2⟩
theorem tab_of (xs : List O) : TabW (preO xs) (betO xs) where
  pre1 := fun n h => by obtain ⟨h1, h2, h3, h4, _⟩ := wone_ok h; exact ⟨h1, h2, h3, h4⟩
  pre0 := fun n h => one_not h
  bet1 := fun n h => by obtain ⟨h1, h2, h3, h4, _⟩ := wone_ok h; exact ⟨h1, h2, h3, h4⟩
  bet0 := fun n h => one_not h
  curly := by
    cases h : (preO xs [123, 125]).2 with
    | false => rfl
    | true => exact absurd rfl (wone_ok h).2.2.2.2.2.1
  comma := fun h => (wone_ok h).2.2.2.2.1 rfl
  nil := by
    refine ⟨?_, ?_⟩
    · cases h : (preO xs [91, 93]).2 with
      | false => rfl
      | true => exact absurd rfl (wone_ok h).2.2.2.2.2.2
    · cases h : (betO xs [91, 93]).2 with
      | false => rfl
      | true => exact absurd rfl (wone_ok h).2.2.2.2.2.2
theorem side_two {k : List UInt8} (h : sideB k = 2) : k = [120, 102, 120] ∨ k = [120, 102, 121] ∨ k = [121, 102, 120] := by
  unfold sideB at h
  split at h
  · left; rename_i h1; simpa using h1
  split at h
  · right; left; rename_i h1; simpa using h1
  split at h
  · right; right; rename_i h1; simpa using h1
  split at h
  · cases h
  split at h
  · cases h
  · cases h
theorem w64 {l : Int} (h1 : 0 ≤ l) (h2 : l ≤ 1200) : wrap64 (l - 1) = l - 1 := IntWalk.wrap64_in _ (by omega)
/-- What may stand beside an operator between. -/
theorem sides_two {k : List UInt8} {l : Int} (h : sideB k = 2) (h1 : 1 ≤ l) (h2 : l ≤ 1200) :
    (k ≠ yfxL ∧ (sidesB k l).1 = l - 1 ∧ (sidesB k l).2 ≤ l ∧ 0 ≤ (sidesB k l).2) ∨ (k = yfxL ∧ (sidesB k l).1 = l ∧ (sidesB k l).2 = l - 1) := by
  have hw := w64 (l := l) (by omega) h2
  rcases side_two h with rfl | rfl | rfl
  · left
    refine ⟨by decide, ?_, ?_, ?_⟩
    · show wrap64 (l - 1) = _; exact hw
    · show wrap64 (l - 1) ≤ _; rw [hw]; omega
    · show _ ≤ wrap64 (l - 1); rw [hw]; omega
  · left
    refine ⟨by decide, ?_, ?_, ?_⟩
    · show wrap64 (l - 1) = _; exact hw
    · show l ≤ l; omega
    · show _ ≤ l; omega
  · right
    exact ⟨rfl, rfl, by show wrap64 (l - 1) = _; exact hw⟩
/-! Variables by their places. -/
/-! What stands behind. -/
section
variable (pre bet : List UInt8 → O × Bool)
end
section
variable {pre bet : List UInt8 → O × Bool} {vs : List Int}
end
end Go.Proofs.YtljgkfdnmikpfaaGreatDoor
/- The project's reader: between. -/
namespace Go.Proofs.YtljgkfdnmikpfaaGreatDoor
open Go.RowKit
set_option linter.unusedVariables false

theorem Below.set3 {B : Nat} {w w' : World} (h : Below B w w') {b : Nat} (hb : B ≤ b) (u0 u1 u2 : Value) : Below B w (Go.Proofs.YtljgkfdnmikpfaaGreatDoor.set3 w' b u0 u1 u2) :=
  ((h.setCell (p := ⟨b, 0, none⟩) hb _).setCell (p := ⟨b, 1, none⟩) hb _).setCell (p := ⟨b, 2, none⟩) hb _
theorem Below.set4 {B : Nat} {w w' : World} (h : Below B w w') {b : Nat} (hb : B ≤ b) (u0 u1 u2 u3 : Value) : Below B w (Go.Proofs.YtljgkfdnmikpfaaGreatDoor.set4 w' b u0 u1 u2 u3) :=
  (Below.set3 h hb u0 u1 u2).setCell (p := ⟨b, 3, none⟩) hb _
theorem far3 {w : World} {b j c : Nat} {v : Value} (h : w.cell? ⟨b, j, none⟩ = some v) (hne : b ≠ c) (u0 u1 u2 : Value) : (set3 w c u0 u1 u2).cell? ⟨b, j, none⟩ = some v := by
  rw [far_cell hne, far_cell hne, far_cell hne]; exact h
theorem far4 {w : World} {b j c : Nat} {v : Value} (h : w.cell? ⟨b, j, none⟩ = some v) (hne : b ≠ c) (u0 u1 u2 u3 : Value) : (set4 w c u0 u1 u2 u3).cell? ⟨b, j, none⟩ = some v := by
  rw [far_cell hne]; exact far3 h hne _ _ _
theorem Ops.bare {D : Nat → Bool} {w : World} {v : Value} {xs : List O} (h : Ops (hide D w) v xs) : Ops w v xs := Elems.stay h (Stays.unhide D w)
set_option maxHeartbeats 2000000 in
theorem between_yes {D M : Nat → Bool} {w : World} {rb : Nat} {xs : List O} {s : RS} (h : St D M w rb xs s) (q : TokP) (hq : headR s = q) (ho : opKind q = true) :
    Calls Tryz.prog 109 #[.pointer (some ⟨rb, 0, none⟩)] w fun e w' => e = .returned (.tuple #[oVal (oneB xs q.1.text 2).1, .bool (oneB xs q.1.text 2).2]) ∧ Below w.heap.size w w' := by
  have HN := Lib.hid (fun wq hq => next_at (h.later (w' := wq) hq))
  rw [hq] at HN
  have HI := Lib.hid (fun wq (hb : Below w.heap.size w wq) (v : Value) (hv : Ops wq v xs) => in_walk hv ⟨q.1.text.toArray⟩)
  obtain ⟨⟨⟨yn, yk, yl⟩, yg⟩, hy⟩ : ∃ y, oneB xs q.1.text 2 = y := ⟨_, rfl⟩
  rw [show bl (⟨q.1.text.toArray⟩ : ByteArray) = q.1.text from rfl, hy] at HI
  rw [hy]
  obtain ⟨w1, hw1, hb1, hz1, hx1⟩ := box_new w #[.string ⟨#[]⟩, .string ⟨#[]⟩, .int .i64 0] 33
  have H := Lib.hid h
  have hlt := h.lt
  have HK := Lib.hid ho
  clear h hq hy ho
  go_enter Tryz.func109, Tryz.ntmps109
  go_wp2_with fail
  (try rw [hw1])
  clear hw1
  (go_wp2_with fail; go_fit (HN.out _ hb1); rintro e w2 ⟨rfl, hb2⟩)
  obtain ⟨w3, hw3, hb3, hz3, hx3⟩ := box_new w2 #[.int .i64 (q.1.kind : Int), .string ⟨q.1.text.toArray⟩, .int .i64 (q.1.n : Int), .bool q.1.opens, .int .i64 (q.2 : Int)] 52
  obtain ⟨r0, r1, r2, rf⟩ := ((hx1.ext hb2).ext hb3).three
  obtain ⟨d0, d1, d2, d3, d4, df⟩ := hx3.five
  have HB3 := Lib.hid (Ext.trans' (Ext.trans' hb1 hb2) hb3)
  obtain ⟨vo, _, _, p0, _, _, _, _, po, _⟩ := (H.out.later HB3.out).parts
  have PO := Lib.hid po.bare
  have hsz := hb2.size
  have hne : rb ≠ w.heap.size := by omega
  have hne2 : rb ≠ w2.heap.size := by omega
  have hne3 : w2.heap.size ≠ w.heap.size := by omega
  have HX := Lib.hid ((hx1.ext hb2).ext hb3)
  clear hb1 hb2 hb3 HN hx1 hx3 po
  have hk : ((q.1.kind : Int) == 1) = true ∨ (((q.1.kind : Int) == 1) = false ∧ ((q.1.kind : Int) == 2) = true) ∨ (((q.1.kind : Int) == 1) = false ∧ ((q.1.kind : Int) == 2) = false ∧ ((q.1.kind : Int) == 5) = true ∧ (q.1.text == [44]) = true) := by
    have hk := HK.out
    unfold opKind isMark at hk
    by_cases h1 : q.1.kind = 1
    · left; rw [h1]; rfl
    by_cases h2 : q.1.kind = 2
    · right; left; rw [h2]; exact ⟨rfl, rfl⟩
    by_cases h5 : q.1.kind = 5
    · right; right; rw [h5]; rw [h5] at hk; simpa using hk
    · simp [h1, h2, h5] at hk
  rcases hk with hk1 | ⟨hk1, hk2⟩ | ⟨hk1, hk2, hk5, hkt⟩
  all_goals
    go_wp2_with fail
    (try rw [hw3])
    clear hw3
    go_wp2_with fail
    refine wp_region_held_drew (S := fun w' => w'.cell? ⟨rb, 0, none⟩ = some vo ∧ w'.cell? ⟨w2.heap.size, 1, none⟩ = some (.string ⟨q.1.text.toArray⟩)) (by kernel_rfl) (⟨p0, d1⟩) (fun hHeld => ?_)
    first | (refine held_t (i := 0) hHeld ?_; apply Exists.intro; refine ⟨fun wq hq => ?_, ?_⟩; (focus ((try dsimp only at hq); go_simp; (first | done | with_reducible rfl | fail)))) | refine held_s (i := 0) hHeld ?_ | fail
    first | (refine held_t (i := 1) hHeld ?_; apply Exists.intro; refine ⟨fun wq hq => ?_, ?_⟩; (focus ((try dsimp only at hq); go_simp; (first | done | with_reducible rfl | fail)))) | refine held_s (i := 1) hHeld ?_ | fail
    first | (refine held_t (i := 2) hHeld ?_; apply Exists.intro; refine ⟨fun wq hq => ?_, ?_⟩; (focus ((try dsimp only at hq); go_simp; (first | done | with_reducible rfl | fail)))) | refine held_s (i := 2) hHeld ?_ | fail
    first | (refine held_t (i := 3) hHeld ?_; apply Exists.intro; refine ⟨fun wq hq => ?_, ?_⟩; (focus ((try dsimp only at hq); go_simp; (first | done | with_reducible rfl | fail)))) | refine held_s (i := 3) hHeld ?_ | fail
    first | (refine held_t (i := 4) hHeld ?_; apply Exists.intro; refine ⟨fun wq hq => ?_, ?_⟩; (focus ((try dsimp only at hq); go_simp; (first | done | with_reducible rfl | fail)))) | refine held_s (i := 4) hHeld ?_ | fail
    first | (refine held_t (i := 5) hHeld ?_; apply Exists.intro; refine ⟨fun wq hq => ?_, ?_⟩; (focus ((try dsimp only at hq); go_simp; (first | done | with_reducible rfl | fail)))) | refine held_s (i := 5) hHeld ?_ | fail
    try simp only [Act.put, List.setIfInBounds_toArray, List.set_cons_zero, List.set_cons_succ]
    refine held_c 6 fun K hK => ?_
    go_simp
    (go_at_call 37; refine (HI.out _ (Ext.trans' HB3.out (Below.refl _ _).drew) _ (PO.out.ext (Below.refl _ _).drew)).mono ?_; rintro e w4 ⟨rfl, hb4⟩; obtain ⟨e0, e1, e2, ef⟩ := ((HX.out.ext (Below.refl _ _).drew).ext hb4).three; have HB4 := Lib.hid (Ext.trans' (Ext.trans' HB3.out (Below.refl _ _).drew) hb4))
    refine hK.out _ _ (⟨cell_later hb4 hHeld.1, cell_later hb4 hHeld.2⟩) (fun hHeld => ?_)
    clear hK K
    try simp only [Act.put, List.setIfInBounds_toArray, List.set_cons_zero, List.set_cons_succ]
    first | (refine held_t (i := 7) hHeld ?_; apply Exists.intro; refine ⟨fun wq hq => ?_, ?_⟩; (focus ((try dsimp only at hq); go_simp; (first | done | with_reducible rfl | fail)))) | refine held_s (i := 7) hHeld ?_ | fail
    first | (refine held_t (i := 8) hHeld ?_; apply Exists.intro; refine ⟨fun wq hq => ?_, ?_⟩; (focus ((try dsimp only at hq); go_simp; (first | done | with_reducible rfl | fail)))) | refine held_s (i := 8) hHeld ?_ | fail
    try simp only [Act.put, List.setIfInBounds_toArray, List.set_cons_zero, List.set_cons_succ]
    refine held_c 9 fun K hK => ?_
    go_simp
    skip
    refine hK.out _ _ (⟨far3 hHeld.1 hne _ _ _, far3 hHeld.2 hne3 _ _ _⟩) (fun hHeld => ?_)
    clear hK K
    try simp only [Act.put, List.setIfInBounds_toArray, List.set_cons_zero, List.set_cons_succ]
    first | (refine held_t (i := 10) hHeld ?_; apply Exists.intro; refine ⟨fun wq hq => ?_, ?_⟩; (focus ((try dsimp only at hq); go_simp; (first | done | with_reducible rfl | fail)))) | refine held_s (i := 10) hHeld ?_ | fail
    try simp only [Act.put, List.setIfInBounds_toArray, List.set_cons_zero, List.set_cons_succ]
    refine wpAnyH_done (by kernel_rfl) ?_ _
    go_wp2
    refine bodyPost_ret (v := .tuple #[.agg #[.string yn, .string yk, .int .i64 yl], .bool yg]) (by rw [results_cell_tmp rfl]; go_simp) rfl ⟨rfl, Below.set3 HB4.out (Nat.le_refl _) _ _ _⟩
set_option maxHeartbeats 1000000 in
theorem between_no {D M : Nat → Bool} {w : World} {rb : Nat} {xs : List O} {s : RS} (h : St D M w rb xs s) (q : TokP) (hq : headR s = q) (ho : opKind q = false) :
    Calls Tryz.prog 109 #[.pointer (some ⟨rb, 0, none⟩)] w fun e w' => e = .returned (.tuple #[.agg #[.string ⟨#[]⟩, .string ⟨#[]⟩, .int .i64 0], .bool false]) ∧ Below w.heap.size w w' := by
  have HN := Lib.hid (fun wq hq => next_at (h.later (w' := wq) hq))
  rw [hq] at HN
  obtain ⟨w1, hw1, hb1, hz1, hx1⟩ := box_new w #[.string ⟨#[]⟩, .string ⟨#[]⟩, .int .i64 0] 33
  have HK := Lib.hid ho
  clear h hq ho
  go_enter Tryz.func109, Tryz.ntmps109
  go_wp2_with fail
  (try rw [hw1])
  clear hw1
  (go_wp2_with fail; go_fit (HN.out _ hb1); rintro e w2 ⟨rfl, hb2⟩)
  obtain ⟨w3, hw3, hb3, hz3, hx3⟩ := box_new w2 #[.int .i64 (q.1.kind : Int), .string ⟨q.1.text.toArray⟩, .int .i64 (q.1.n : Int), .bool q.1.opens, .int .i64 (q.2 : Int)] 52
  obtain ⟨r0, r1, r2, rf⟩ := ((hx1.ext hb2).ext hb3).three
  obtain ⟨d0, d1, d2, d3, d4, df⟩ := hx3.five
  have HB3 := Lib.hid (Ext.trans' (Ext.trans' hb1 hb2) hb3)
  clear hb1 hb2 hb3 HN hx1 hx3
  have hk : ((q.1.kind : Int) == 1) = false ∧ ((q.1.kind : Int) == 2) = false ∧ (((q.1.kind : Int) == 5) = false ∨ (((q.1.kind : Int) == 5) = true ∧ (q.1.text == [44]) = false)) := by
    have hk := HK.out
    unfold opKind isMark at hk
    simp only [Bool.or_eq_false_iff, Bool.and_eq_false_iff, beq_eq_false_iff_ne] at hk
    obtain ⟨h1, h2, h3⟩ := hk
    refine ⟨beq_false_of_ne (by omega), beq_false_of_ne (by omega), ?_⟩
    by_cases h5 : q.1.kind = 5
    · right
      rcases h3 with h3 | h3
      · exact absurd h5 h3
      · exact ⟨by rw [h5]; rfl, beq_false_of_ne h3⟩
    · left; exact beq_false_of_ne (by omega)
  obtain ⟨hk1, hk2, hk5 | ⟨hk5, hkt⟩⟩ := hk
  all_goals
    go_wp2_with fail
    (try rw [hw3])
    clear hw3
    go_wp2
    refine bodyPost_ret (v := .tuple #[.agg #[.string ⟨#[]⟩, .string ⟨#[]⟩, .int .i64 0], .bool false]) (by rw [results_cell_tmp rfl]; go_simp) rfl ⟨rfl, Below.set3 HB3.out (Nat.le_refl _) _ _ _⟩
theorem between_at {D M : Nat → Bool} {w : World} {rb : Nat} {xs : List O} {s : RS} (h : St D M w rb xs s) :
    Calls Tryz.prog 109 #[.pointer (some ⟨rb, 0, none⟩)] w fun e w' => e = .returned (.tuple #[oVal (betweenR (betO xs) (headR s)).1, .bool (betweenR (betO xs) (headR s)).2]) ∧ Below w.heap.size w w' := by
  unfold betweenR
  cases ho : opKind (headR s) with
  | true => exact between_yes h _ rfl ho
  | false => exact between_no h _ rfl ho
end Go.Proofs.YtljgkfdnmikpfaaGreatDoor
/- The project's reader: begins, isMinus. -/
namespace Go.Proofs.YtljgkfdnmikpfaaGreatDoor
open Go.RowKit
set_option linter.unusedVariables false

set_option maxHeartbeats 2000000 in
theorem isMinus_at {D M : Nat → Bool} {w : World} {rb : Nat} {xs : List O} {s : RS} (h : St D M w rb xs s) (q : TokP) (hq2 : q.2 ≤ 4096) :
    Calls Tryz.prog 171 #[.pointer (some ⟨rb, 0, none⟩), tkVal q] w fun e w' => e = .returned (.bool (isMinusR q (headR s))) ∧ Below w.heap.size w w' := by
  have HN := Lib.hid (fun wq hq => next_at (h.later (w' := wq) hq))
  obtain ⟨x, hx⟩ : ∃ x, headR s = x := ⟨_, rfl⟩
  rw [hx] at HN ⊢
  obtain ⟨m, hm⟩ : ∃ m, isMinusR q x = m := ⟨_, rfl⟩
  have HM := Lib.hid hm
  rw [hm]
  obtain ⟨w1, hw1, hb1, hz1, hx1⟩ := box_new w #[.int .i64 (q.1.kind : Int), .string ⟨q.1.text.toArray⟩, .int .i64 (q.1.n : Int), .bool q.1.opens, .int .i64 (q.2 : Int)] 52
  clear h hx hm
  go_enter Tryz.func171, Tryz.ntmps171
  go_wp2_with fail
  (try rw [hw1])
  clear hw1
  (go_wp2_with fail; go_fit (HN.out _ hb1); rintro e w2 ⟨rfl, hb2⟩)
  obtain ⟨w3, hw3, hb3, hz3, hx3⟩ := box_new w2 #[.int .i64 (x.1.kind : Int), .string ⟨x.1.text.toArray⟩, .int .i64 (x.1.n : Int), .bool x.1.opens, .int .i64 (x.2 : Int)] 52
  obtain ⟨r0, r1, r2, r3, r4, rf⟩ := ((hx1.ext hb2).ext hb3).five
  obtain ⟨d0, d1, d2, d3, d4, df⟩ := hx3.five
  have HB3 := Lib.hid (Ext.trans' (Ext.trans' hb1 hb2) hb3)
  clear hb1 hb2 hb3 HN hx1 hx3 r2 r3 rf d1 d2 d3 df
  obtain ⟨qk, hqk⟩ : ∃ k, q.1.kind = k := ⟨_, rfl⟩
  obtain ⟨xk, hxk⟩ : ∃ k, x.1.kind = k := ⟨_, rfl⟩
  obtain ⟨qt, hqt⟩ : ∃ k, q.1.text = k := ⟨_, rfl⟩
  obtain ⟨qa, hqa⟩ : ∃ k, q.2 = k := ⟨_, rfl⟩
  obtain ⟨xa, hxa⟩ : ∃ k, x.2 = k := ⟨_, rfl⟩
  have hm := HM.out
  unfold isMinusR at hm
  rw [hqk, hxk, hqt, hqa, hxa] at hm
  rw [hqk] at r0
  rw [hqt] at r1
  rw [hqa] at r4 hq2
  rw [hxk] at d0
  rw [hxa] at d4
  clear HM hqk hxk hqt hqa hxa
  by_cases h1 : qk = 1
  · have k1 : ((qk : Int) == 1) = true := by rw [h1]; rfl
    by_cases h2 : qt = [45]
    · have k2 : (qt == [45]) = true := by rw [h2]; rfl
      by_cases h3 : xk = 4
      · have k3 : ((xk : Int) == 4) = true := by rw [h3]; rfl
        have hM : Hid (m = ((xa : Int) == (qa : Int) + 1)) := Lib.hid (by rw [← hm, h1, h2, h3]; simp)
        have hw : IntKind.i64.wrap ((qa : Int) + 1) = (qa : Int) + 1 := by rw [IntKind.wrap_i64]; omega
        clear hm h1 h2 h3
        go_wp2_with fail
        (try rw [hw3])
        clear hw3
        go_wp2
        go_ret
        exact ⟨ret_bool hM.out.symm, HB3.out⟩
      · have k3 : ((xk : Int) == 4) = false := beq_false_of_ne (by omega)
        have hM : Hid (m = false) := Lib.hid (by rw [← hm, h1, h2]; simp [h3])
        clear hm h1 h2 h3
        go_wp2_with fail
        (try rw [hw3])
        clear hw3
        go_wp2
        go_ret
        exact ⟨ret_bool hM.out.symm, HB3.out⟩
    · have k2 : (qt == [45]) = false := beq_false_of_ne h2
      have hM : Hid (m = false) := Lib.hid (by rw [← hm, h1]; simp [k2])
      clear hm h1 h2
      go_wp2_with fail
      (try rw [hw3])
      clear hw3
      go_wp2
      go_ret
      exact ⟨ret_bool hM.out.symm, HB3.out⟩
  · have k1 : ((qk : Int) == 1) = false := beq_false_of_ne (by omega)
    have hM : Hid (m = false) := Lib.hid (by rw [← hm]; simp [h1])
    clear hm h1
    go_wp2_with fail
    (try rw [hw3])
    clear hw3
    go_wp2
    go_ret
    exact ⟨ret_bool hM.out.symm, HB3.out⟩
theorem box_three (w : World) (v0 v1 v2 : Value) (ty : TypeId) {w' : World} (hb : Below (w.alloc (.cells #[v0, v1, v2] ty)).heap.size (w.alloc (.cells #[v0, v1, v2] ty)) w') : w'.cell? ⟨w.heap.size, 0, none⟩ = some v0 ∧ w'.cell? ⟨w.heap.size, 1, none⟩ = some v1 ∧ w'.cell? ⟨w.heap.size, 2, none⟩ = some v2 ∧ ∀ j, w'.frozen? ⟨w.heap.size, j, none⟩ = false := by
  obtain ⟨w1, rfl, _, _, h⟩ := box_new w #[v0, v1, v2] ty
  exact (h.ext hb).three
set_option maxHeartbeats 1000000 in
theorem begins_name {D M : Nat → Bool} {w : World} {rb : Nat} {xs : List O} {s : RS} (h : St D M w rb xs s) (x : TokP) (hx : headR s = x) (hk : x.1.kind = 1 ∨ x.1.kind = 2) :
    Calls Tryz.prog 174 #[.pointer (some ⟨rb, 0, none⟩)] w fun e w' => e = .returned (.bool (x.1.opens || ((oneB xs x.1.text 1).2 || !(betweenR (betO xs) x).2))) ∧ Below w.heap.size w w' := by
  have HN := Lib.hid (next_at h)
  have HBt := Lib.hid (fun wq hq => between_at (h.later (w' := wq) hq))
  rw [hx] at HN HBt
  have HP := Lib.hid (fun wq (hb : Below w.heap.size w wq) (v : Value) (hv : Ops wq v xs) => pre_walk hv ⟨x.1.text.toArray⟩)
  obtain ⟨⟨⟨yn, yk, yl⟩, yg⟩, hy⟩ : ∃ y, oneB xs x.1.text 1 = y := ⟨_, rfl⟩
  rw [show bl (⟨x.1.text.toArray⟩ : ByteArray) = x.1.text from rfl, hy] at HP
  obtain ⟨⟨⟨zn, zk, zl⟩, zg⟩, hz⟩ : ∃ z, betweenR (betO xs) x = z := ⟨_, rfl⟩
  rw [hz] at HBt
  rw [hz, hy]
  have H := Lib.hid h
  have hlt := h.lt
  obtain ⟨xo, hxo⟩ : ∃ o, x.1.opens = o := ⟨_, rfl⟩
  have HXO := Lib.hid hxo
  rw [hxo]
  clear h hx hy hz hxo
  have hk' : ((x.1.kind : Int) == 1) = true ∨ (((x.1.kind : Int) == 1) = false ∧ ((x.1.kind : Int) == 2) = true) := by
    rcases hk with hk | hk
    · left; rw [hk]; rfl
    · right; rw [hk]; exact ⟨rfl, rfl⟩
  clear hk
  go_enter Tryz.func174, Tryz.ntmps174
  (go_wp2_with fail; go_fit (HN.out); rintro e w2 ⟨rfl, hb2⟩)
  obtain ⟨w3, hw3, hb3, hz3, hx3⟩ := box_new w2 #[.int .i64 (x.1.kind : Int), .string ⟨x.1.text.toArray⟩, .int .i64 (x.1.n : Int), .bool x.1.opens, .int .i64 (x.2 : Int)] 52
  obtain ⟨d0, d1, d2, d3, d4, df⟩ := hx3.five
  have HX := Lib.hid hx3
  have HB3 := Lib.hid (Ext.trans' hb2 hb3)
  obtain ⟨vo, _, _, p0, _, _, _, _, po, _⟩ := (H.out.later HB3.out).parts
  have PO := Lib.hid po.bare
  clear hb2 hb3 HN hx3 po d2 d4 df
  rw [HXO.out] at d3
  have hsz2 := HB3.out.size
  have hn1 : rb ≠ w3.heap.size := (World.new_ne w3 _ p0).symm
  have hn2 : w2.heap.size ≠ w3.heap.size := (World.new_ne w3 _ d1).symm
  clear hz3 hsz2
  rcases hk' with hk1 | ⟨hk1, hk2⟩
  all_goals
    go_wp2_with fail
    (try rw [hw3])
    clear hw3
    go_wp2_with fail
    refine wp_region_held_drew (S := fun w' => (w'.cell? ⟨rb, 0, none⟩ = some vo ∧ w'.cell? ⟨w2.heap.size, 1, none⟩ = some (.string ⟨x.1.text.toArray⟩)) ∧ Below w3.heap.size w3 w') (by kernel_rfl) ⟨⟨p0, d1⟩, (Below.refl _ _).drew⟩ (fun hHeld => ?_)
    first | (refine held_t (i := 0) hHeld ?_; apply Exists.intro; refine ⟨fun wq hq => ?_, ?_⟩; (focus ((try dsimp only at hq); go_simp; (first | done | with_reducible rfl | fail)))) | refine held_s (i := 0) hHeld ?_ | fail
    first | (refine held_t (i := 1) hHeld ?_; apply Exists.intro; refine ⟨fun wq hq => ?_, ?_⟩; (focus ((try dsimp only at hq); go_simp; (first | done | with_reducible rfl | fail)))) | refine held_s (i := 1) hHeld ?_ | fail
    first | (refine held_t (i := 2) hHeld ?_; apply Exists.intro; refine ⟨fun wq hq => ?_, ?_⟩; (focus ((try dsimp only at hq); go_simp; (first | done | with_reducible rfl | fail)))) | refine held_s (i := 2) hHeld ?_ | fail
    first | (refine held_t (i := 3) hHeld ?_; apply Exists.intro; refine ⟨fun wq hq => ?_, ?_⟩; (focus ((try dsimp only at hq); go_simp; (first | done | with_reducible rfl | fail)))) | refine held_s (i := 3) hHeld ?_ | fail
    first | (refine held_t (i := 4) hHeld ?_; apply Exists.intro; refine ⟨fun wq hq => ?_, ?_⟩; (focus ((try dsimp only at hq); go_simp; (first | done | with_reducible rfl | fail)))) | refine held_s (i := 4) hHeld ?_ | fail
    first | (refine held_t (i := 5) hHeld ?_; apply Exists.intro; refine ⟨fun wq hq => ?_, ?_⟩; (focus ((try dsimp only at hq); go_simp; (first | done | with_reducible rfl | fail)))) | refine held_s (i := 5) hHeld ?_ | fail
    try simp only [Act.put, List.setIfInBounds_toArray, List.set_cons_zero, List.set_cons_succ]
    refine wpAnyH_ready (rs := [6, 10]) (by kernel_rfl) (by simp) ?_
    refine AllReadyH.cons (by simp only [List.getElem?_toArray, List.getElem?_cons_zero, List.getElem?_cons_succ]; rfl) (fun K hK => ?_) (AllReadyH.cons (by simp only [List.getElem?_toArray, List.getElem?_cons_zero, List.getElem?_cons_succ]; rfl) (fun K hK => ?_) AllReadyH.nil)
    · go_simp
      (go_at_call 38; refine (HP.out _ (Ext.trans' HB3.out hHeld.2) _ (PO.out.ext hHeld.2)).mono ?_; rintro e w4 ⟨rfl, hb4⟩)
      refine hK.out _ _ (⟨⟨cell_later hb4 hHeld.1.1, cell_later hb4 hHeld.1.2⟩, Ext.trans' hHeld.2 hb4⟩) (fun hHeld => ?_)
      clear hK K
      try simp only [Act.put, List.setIfInBounds_toArray, List.set_cons_zero, List.set_cons_succ]
      have hS4 := hHeld
      first | (refine held_t (i := 7) hHeld ?_; apply Exists.intro; refine ⟨fun wq hq => ?_, ?_⟩; (focus ((try dsimp only at hq); go_simp; (first | done | with_reducible rfl | fail)))) | refine held_s (i := 7) hHeld ?_ | fail
      first | (refine held_t (i := 8) hHeld ?_; apply Exists.intro; refine ⟨fun wq hq => ?_, ?_⟩; (focus ((try dsimp only at hq); go_simp; (first | done | with_reducible rfl | fail)))) | refine held_s (i := 8) hHeld ?_ | fail
      first | (refine held_t (i := 9) hHeld ?_; apply Exists.intro; refine ⟨fun wq hq => ?_, ?_⟩; (focus ((try dsimp only at hq); go_simp; (first | done | with_reducible rfl | fail)))) | refine held_s (i := 9) hHeld ?_ | fail
      try simp only [Act.put, List.setIfInBounds_toArray, List.set_cons_zero, List.set_cons_succ]
      refine held_c 10 fun K hK => ?_
      go_simp
      skip
      refine hK.out _ _ (⟨⟨cell_later (bel1' _ _) hHeld.1.1, cell_later (bel1' _ _) hHeld.1.2⟩, Ext.trans' hHeld.2 (bel1' _ _)⟩) (fun hHeld => ?_)
      clear hK K
      try simp only [Act.put, List.setIfInBounds_toArray, List.set_cons_zero, List.set_cons_succ]
      refine held_c 11 fun K hK => ?_
      go_simp
      skip
      refine hK.out _ _ (⟨⟨cell_later (bel1' _ _) hS4.1.1, cell_later (bel1' _ _) hS4.1.2⟩, Ext.trans' hS4.2 (bel1' _ _)⟩) (fun hHeld => ?_)
      clear hK K
      try simp only [Act.put, List.setIfInBounds_toArray, List.set_cons_zero, List.set_cons_succ]
      first | (refine held_t (i := 12) hHeld ?_; apply Exists.intro; refine ⟨fun wq hq => ?_, ?_⟩; (focus ((try dsimp only at hq); go_simp; (first | done | with_reducible rfl | fail)))) | refine held_s (i := 12) hHeld ?_ | fail
      try simp only [Act.put, List.setIfInBounds_toArray, List.set_cons_zero, List.set_cons_succ]
      refine wpAnyH_done (by kernel_rfl) ?_ _
      generalize hw5 : World.alloc w4 (.cells #[.string yn, .string yk, .int .i64 yl] 33) = w5 at *
      clear hw5
      have HB5 := Lib.hid (Ext.trans' HB3.out hHeld.2)
      have d3 := cell_later hHeld.2 d3
      clear hHeld hS4 hb4 p0 d0 d1 hn1 hn2
      (go_wp2_with fail; go_fit (HBt.out _ HB5.out); rintro e w6 ⟨rfl, hb6⟩)
      obtain ⟨w7, hw7, hb7, _, _⟩ := box_new w6 #[.string zn, .string zk, .int .i64 zl] 33
      have d3 := cell_later hb7 (cell_later hb6 d3)
      have HB7 := Lib.hid (Ext.trans' (Ext.trans' HB5.out hb6) hb7)
      clear hb6 hb7
      go_wp2_with fail
      (try rw [hw7])
      clear hw7
      go_wp2
      all_goals (go_ret; exact ⟨ret_bool (by simp [*]), HB7.out⟩)
    · go_simp
      skip
      refine hK.out _ _ (⟨⟨cell_later (bel1' _ _) hHeld.1.1, cell_later (bel1' _ _) hHeld.1.2⟩, Ext.trans' hHeld.2 (bel1' _ _)⟩) (fun hHeld => ?_)
      clear hK K
      try simp only [Act.put, List.setIfInBounds_toArray, List.set_cons_zero, List.set_cons_succ]
      refine held_c 6 fun K hK => ?_
      go_simp
      (go_at_call 38; refine (HP.out _ (Ext.trans' HB3.out hHeld.2) _ (PO.out.ext hHeld.2)).mono ?_; rintro e w4 ⟨rfl, hb4⟩; obtain ⟨e0, e1, e2, ef⟩ : w4.cell? ⟨w3.heap.size, 0, none⟩ = some (.string ⟨#[]⟩) ∧ w4.cell? ⟨w3.heap.size, 1, none⟩ = some (.string ⟨#[]⟩) ∧ w4.cell? ⟨w3.heap.size, 2, none⟩ = some (.int .i64 0) ∧ ∀ j, w4.frozen? ⟨w3.heap.size, j, none⟩ = false := box_three w3.drew _ _ _ _ hb4)
      refine hK.out _ _ (⟨⟨cell_later hb4 hHeld.1.1, cell_later hb4 hHeld.1.2⟩, Ext.trans' hHeld.2 hb4⟩) (fun hHeld => ?_)
      clear hK K
      try simp only [Act.put, List.setIfInBounds_toArray, List.set_cons_zero, List.set_cons_succ]
      first | (refine held_t (i := 7) hHeld ?_; apply Exists.intro; refine ⟨fun wq hq => ?_, ?_⟩; (focus ((try dsimp only at hq); go_simp; (first | done | with_reducible rfl | fail)))) | refine held_s (i := 7) hHeld ?_ | fail
      first | (refine held_t (i := 8) hHeld ?_; apply Exists.intro; refine ⟨fun wq hq => ?_, ?_⟩; (focus ((try dsimp only at hq); go_simp; (first | done | with_reducible rfl | fail)))) | refine held_s (i := 8) hHeld ?_ | fail
      first | (refine held_t (i := 9) hHeld ?_; apply Exists.intro; refine ⟨fun wq hq => ?_, ?_⟩; (focus ((try dsimp only at hq); go_simp; (first | done | with_reducible rfl | fail)))) | refine held_s (i := 9) hHeld ?_ | fail
      try simp only [Act.put, List.setIfInBounds_toArray, List.set_cons_zero, List.set_cons_succ]
      refine held_c 11 fun K hK => ?_
      go_simp
      skip
      refine hK.out _ _ (⟨⟨far3 hHeld.1.1 hn1 _ _ _, far3 hHeld.1.2 hn2 _ _ _⟩, Below.set3 hHeld.2 (Nat.le_refl _) _ _ _⟩) (fun hHeld => ?_)
      clear hK K
      try simp only [Act.put, List.setIfInBounds_toArray, List.set_cons_zero, List.set_cons_succ]
      first | (refine held_t (i := 12) hHeld ?_; apply Exists.intro; refine ⟨fun wq hq => ?_, ?_⟩; (focus ((try dsimp only at hq); go_simp; (first | done | with_reducible rfl | fail)))) | refine held_s (i := 12) hHeld ?_ | fail
      try simp only [Act.put, List.setIfInBounds_toArray, List.set_cons_zero, List.set_cons_succ]
      refine wpAnyH_done (by kernel_rfl) ?_ _
      generalize hw5 : World.setCell _ ⟨w3.heap.size, 2, none⟩ _ = w5 at *
      clear hw5
      have HB5 := Lib.hid (Ext.trans' HB3.out hHeld.2)
      have d3 := cell_later hHeld.2 d3
      clear hHeld hb4 p0 d0 d1 hn1 hn2 e0 e1 e2 ef
      (go_wp2_with fail; go_fit (HBt.out _ HB5.out); rintro e w6 ⟨rfl, hb6⟩)
      obtain ⟨w7, hw7, hb7, _, _⟩ := box_new w6 #[.string zn, .string zk, .int .i64 zl] 33
      have d3 := cell_later hb7 (cell_later hb6 d3)
      have HB7 := Lib.hid (Ext.trans' (Ext.trans' HB5.out hb6) hb7)
      clear hb6 hb7
      go_wp2_with fail
      (try rw [hw7])
      clear hw7
      go_wp2
      all_goals (go_ret; exact ⟨ret_bool (by simp [*]), HB7.out⟩)
theorem begins_rest {D M : Nat → Bool} {w : World} {rb : Nat} {xs : List O} {s : RS} (h : St D M w rb xs s) (x : TokP) (hx : headR s = x) (h1 : ¬ x.1.kind = 1) (h2 : ¬ x.1.kind = 2) :
    Calls Tryz.prog 174 #[.pointer (some ⟨rb, 0, none⟩)] w fun e w' => e = .returned (.bool (if x.1.kind = 3 ∨ x.1.kind = 4 then true else if x.1.kind = 5 then x.1.text == [40] || (x.1.text == [91] || x.1.text == [123]) else false)) ∧ Below w.heap.size w w' := by
  have HN := Lib.hid (next_at h)
  rw [hx] at HN
  obtain ⟨m, hm⟩ : ∃ m, (if x.1.kind = 3 ∨ x.1.kind = 4 then true else if x.1.kind = 5 then x.1.text == [40] || (x.1.text == [91] || x.1.text == [123]) else false) = m := ⟨_, rfl⟩
  rw [hm]
  have HM := Lib.hid hm
  clear h hx hm
  have k1 : ((x.1.kind : Int) == 1) = false := beq_false_of_ne (by omega)
  have k2 : ((x.1.kind : Int) == 2) = false := beq_false_of_ne (by omega)
  clear h1 h2
  go_enter Tryz.func174, Tryz.ntmps174
  (go_wp2_with fail; go_fit (HN.out); rintro e w2 ⟨rfl, hb2⟩)
  obtain ⟨w3, hw3, hb3, hz3, hx3⟩ := box_new w2 #[.int .i64 (x.1.kind : Int), .string ⟨x.1.text.toArray⟩, .int .i64 (x.1.n : Int), .bool x.1.opens, .int .i64 (x.2 : Int)] 52
  obtain ⟨d0, d1, d2, d3, d4, df⟩ := hx3.five
  have HB3 := Lib.hid (Ext.trans' hb2 hb3)
  clear hb2 hb3 HN hx3
  by_cases h3 : x.1.kind = 3
  · have hE : Hid (m = true) := Lib.hid (by rw [← HM.out, if_pos (Or.inl h3)])
    have k3 : ((x.1.kind : Int) == 3) = true := by rw [h3]; rfl
    clear h3
    go_wp2_with fail
    (try rw [hw3])
    clear hw3
    go_wp2
    go_ret
    exact ⟨ret_bool hE.out.symm, HB3.out⟩
  have k3 : ((x.1.kind : Int) == 3) = false := beq_false_of_ne (by omega)
  by_cases h4 : x.1.kind = 4
  · have hE : Hid (m = true) := Lib.hid (by rw [← HM.out, if_pos (Or.inr h4)])
    have k4 : ((x.1.kind : Int) == 4) = true := by rw [h4]; rfl
    clear h3 h4
    go_wp2_with fail
    (try rw [hw3])
    clear hw3
    go_wp2
    go_ret
    exact ⟨ret_bool hE.out.symm, HB3.out⟩
  have k4 : ((x.1.kind : Int) == 4) = false := beq_false_of_ne (by omega)
  have hm := HM.out
  rw [if_neg (by rintro (h | h) <;> contradiction)] at hm
  have HM := Lib.hid hm
  clear hm h3 h4
  by_cases h5 : x.1.kind = 5
  · have k5 : ((x.1.kind : Int) == 5) = true := by rw [h5]; rfl
    have hE : Hid ((x.1.text == [40] || (x.1.text == [91] || x.1.text == [123])) = m) := Lib.hid (by rw [← HM.out, if_pos h5])
    clear h5 HM
    cases t1 : (x.1.text == [40])
    · cases t2 : (x.1.text == [91])
      · go_wp2_with fail
        (try rw [hw3])
        clear hw3
        go_wp2
        go_ret
        exact ⟨ret_bool (by rw [← hE.out, t1, t2]; simp), HB3.out⟩
      · go_wp2_with fail
        (try rw [hw3])
        clear hw3
        go_wp2
        go_ret
        exact ⟨ret_bool (by rw [← hE.out, t1, t2]; simp), HB3.out⟩
    · go_wp2_with fail
      (try rw [hw3])
      clear hw3
      go_wp2
      go_ret
      exact ⟨ret_bool (by rw [← hE.out, t1]; simp), HB3.out⟩
  · have hE : Hid (m = false) := Lib.hid (by rw [← HM.out, if_neg h5])
    have k5 : ((x.1.kind : Int) == 5) = false := beq_false_of_ne (by omega)
    clear h5
    go_wp2_with fail
    (try rw [hw3])
    clear hw3
    go_wp2
    go_ret
    exact ⟨ret_bool hE.out.symm, HB3.out⟩
theorem begins_at {D M : Nat → Bool} {w : World} {rb : Nat} {xs : List O} {s : RS} (h : St D M w rb xs s) :
    Calls Tryz.prog 174 #[.pointer (some ⟨rb, 0, none⟩)] w fun e w' => e = .returned (.bool (beginsR (preO xs) (betO xs) (headR s))) ∧ Below w.heap.size w w' := by
  unfold beginsR
  by_cases hk : (headR s).1.kind = 1 ∨ (headR s).1.kind = 2
  · rw [if_pos hk]
    exact begins_name h _ rfl hk
  · rw [if_neg hk]
    exact begins_rest h _ rfl (fun e => hk (Or.inl e)) (fun e => hk (Or.inr e))
end Go.Proofs.YtljgkfdnmikpfaaGreatDoor
/- The project's reader: variable: where a name stands. -/
namespace Go.Proofs.YtljgkfdnmikpfaaGreatDoor
open Go.Shelf Go.RowKit
set_option linter.unusedVariables false

theorem pred_nm (name : List UInt8) (b1 : Nat) (w : World) (h1 : w.cell? ⟨b1, 0, none⟩ = some (.string ⟨name.toArray⟩)) (y : NmP) :
    Calls Tryz.prog 176 #[.agg #[.string ⟨y.1.toArray⟩, .int .i64 (y.2 : Int)], .pointer (some ⟨b1, 0, none⟩)] w fun e w' => e = .returned (.bool (y.1 == name)) ∧ Below w.heap.size w w' := by
  have n1 : b1 ≠ w.heap.size := (World.new_ne w _ h1).symm
  have l1 : b1 < w.heap.size := World.block_lt_of_cell? _ _ h1
  obtain ⟨t, ht⟩ : ∃ t, (y.1 == name) = t := ⟨_, rfl⟩
  rw [ht]
  cases t
  all_goals
    go_enter Tryz.func176, Tryz.ntmps176
    go_wp2_with fail
    (try (go_quiet (fail)))
    go_wp2
    go_ret
    exact ⟨rfl, by first | exact bel1' _ _ | exact bel_drewN (bel1' _ _) _⟩
theorem nm_none (a : Option Addr) (c : Nat) (f : Value) (w : World) : Calls Tryz.prog 175 #[.slice a 0 c, f] w fun e w' => e = .returned (.int .i64 (-1)) ∧ w = w' := by
  go_enter Tryz.func175, Tryz.ntmps175
  go_wp2_with fail
  refine wp_loop_rounds 1 ?_
  rw [rounds_succ]
  go_wp2
  go_ret
  exact ⟨rfl, rfl⟩
def nmAt (xs : List NmP) (n : List UInt8) : Int := Lib.idxBy (fun _ y => y.1 == n) xs default
theorem nm_cases (xs : List NmP) (n : List UInt8) :
    (nmAt xs n = -1 ∧ xs.find? (fun p => p.1 == n) = none) ∨ (∃ (k : Nat) (x : NmP), nmAt xs n = k ∧ xs[k]? = some x ∧ xs.find? (fun p => p.1 == n) = some x) := by
  suffices h : ∀ (xs : List NmP) (i : Nat), (Lib.idxByFrom (fun _ y => y.1 == n) default xs i = -1 ∧ xs.find? (fun p => p.1 == n) = none) ∨
      (∃ (k : Nat) (x : NmP), Lib.idxByFrom (fun _ y => y.1 == n) default xs i = ((i + k : Nat) : Int) ∧ xs[k]? = some x ∧ xs.find? (fun p => p.1 == n) = some x) by
    rcases h xs 0 with h | ⟨k, x, h1, h2⟩
    · exact Or.inl h
    · exact Or.inr ⟨k, x, by rw [Nat.zero_add] at h1; exact h1, h2⟩
  intro xs
  induction xs with
  | nil => intro i; exact Or.inl ⟨rfl, rfl⟩
  | cons a r ih =>
    intro i
    cases ha : (a.1 == n)
    · rcases ih (i + 1) with ⟨h1, h2⟩ | ⟨k, x, h1, h2, h3⟩
      · exact Or.inl ⟨by simp only [Lib.idxByFrom, ha]; exact h1, by rw [List.find?_cons, ha]; exact h2⟩
      · exact Or.inr ⟨k + 1, x, by simp only [Lib.idxByFrom, ha]; rw [show i + (k + 1) = i + 1 + k by omega]; exact h1, by simpa using h2, by rw [List.find?_cons, ha]; exact h3⟩
    · exact Or.inr ⟨0, a, by simp [Lib.idxByFrom, ha], rfl, by rw [List.find?_cons, ha]⟩
theorem nm_at {W : World} {v : Value} {xs : List NmP} (h : Nms W v xs) (name : List UInt8) (b1 : Nat) (h1 : W.cell? ⟨b1, 0, none⟩ = some (.string ⟨name.toArray⟩)) :
    Calls Tryz.prog 175 #[v, .func (.func 176) #[] #[.pointer (some ⟨b1, 0, none⟩)]] W fun e w' => e = .returned (.int .i64 (nmAt xs name)) ∧ Below W.heap.size W w' := by
  obtain ⟨a, cap, rfl, l1, l2, l3⟩ := h
  rcases l3 with rfl | ⟨b, off, rfl, hb, hc⟩
  · exact (nm_none a cap _ W).mono fun e w' ⟨he, hw⟩ => ⟨he, hw ▸ Below.refl _ _⟩
  · have eg : ∀ args w, (callFunc 176 args).run Tryz.prog w = .ok (.enter 176 args) w := enters_of Tryz.func176 (by kernel_rfl) rfl
    have hcon := AnyQ.slices_IndexFunc Tryz.indexNm 2 Tryz.isAgg54 Tryz.sizeOf54 nmCells nmCells_len (fun y => y.1 == name) 176 #[.pointer (some ⟨b1, 0, none⟩)] eg b off xs.length cap xs W
      (fun W' y hb' => by
        have c1 : W'.cell? ⟨b1, 0, none⟩ = some (.string ⟨name.toArray⟩) := cell_later hb' h1
        refine (pred_nm name b1 W' c1 y).mono ?_
        rintro e w' ⟨rfl, hq⟩
        exact ⟨rfl, hb'.trans (hq.mono hb'.size)⟩)
      (Nat.le_refl _) (by unfold maxLen at l2; omega) hb
      (fun j hj i u hi => by
        have hg : xs[j]? = some xs[j]! := by rw [List.getElem!_eq_getElem?_getD, List.getElem?_eq_getElem hj]; rfl
        have := hc j _ hg i u hi
        rw [← Nat.add_assoc] at this
        exact this)
    rw [List.take_length] at hcon
    exact hcon
end Go.Proofs.YtljgkfdnmikpfaaGreatDoor
/- The project's reader: variable. -/
namespace Go.Proofs.YtljgkfdnmikpfaaGreatDoor
open Go.Shelf Go.RowKit
set_option linter.unusedVariables false

def withB (D : Nat → Bool) (v : Value) : Nat → Bool := fun k => D k || v.ownBlock == some k
theorem withB_of {D : Nat → Bool} {v : Value} {k : Nat} (h : D k = true) : withB D v k = true := by simp [withB, h]
theorem withB_own {D : Nat → Bool} {v : Value} {k : Nat} (h : v.ownBlock = some k) : withB D v k = true := by simp [withB, h]
theorem withB_no {D : Nat → Bool} {v : Value} {k : Nat} (h : v.ownBlock ≠ some k) : withB D v k = D k := by simp [withB, h]
/-- Another number. -/
theorem St.num {D M : Nat → Bool} {w : World} {rb : Nat} {xs : List O} {s s' : RS} (h : St D M w rb xs s) (e1 : s'.rest = s.rest) (e2 : s'.names = s.names) (hn : Nice s') : St D M (w.setCell ⟨rb, 2, none⟩ (.int .i64 (s'.next : Int))) rb xs s' := by
  have hs : Stays (hide D w) (hide D (w.setCell ⟨rb, 2, none⟩ (.int .i64 (s'.next : Int)))) := Stays.set _ _ (h.md rb h.mb)
  obtain ⟨vo, o1, o2⟩ := h.co
  obtain ⟨vl0, l1, l2⟩ := h.cl
  obtain ⟨vn, n1, n2, n3⟩ := h.c3
  exact { mb := h.mb, md := h.md, old := h.old.mono (by simp [World.setCell])
          co := ⟨vo, by rw [near_cell (by decide)]; exact o1, Elems.stay o2 hs⟩
          cl := ⟨vl0, by rw [near_cell (by decide)]; exact l1, by rw [e1]; exact Elems.stay l2 hs⟩
          c2 := css h.c2
          c3 := ⟨vn, by rw [near_cell (by decide)]; exact n1, by rw [e2]; exact row_at n2 (fun g hg => Below.heap_setCell w _ _ g (fun e => by have := (row_in n2 hg).1; simp only at e; omega)), n3⟩
          fz := fun j => by rw [World.frozen?_setCell]; exact h.fz j
          nice := hn }
/-- One more name. -/
theorem St.name {D M : Nat → Bool} {w w5 : World} {rb : Nat} {xs : List O} {s s' : RS} {vn v' : Value} (h : St D M w rb xs s) (e1 : s'.rest = s.rest) (e2 : s'.next = s.next) (hn : Nice s')
    (hv : w.cell? ⟨rb, 3, none⟩ = some vn) (hM : ∀ k, vn.ownBlock = some k → M k = true) (hrb : ∀ k, vn.ownBlock = some k → rb < k) (hot : Below 0 w w5) (hsz : w.heap.size ≤ w5.heap.size) (hk : ∀ k, k < w.heap.size → vn.ownBlock ≠ some k → w5.heap[k]? = w.heap[k]?)
    (hown : w5.ownsRow (rb + 1) 54 2 v' s'.names.length (s'.names.flatMap nmCells)) (hb : v'.ownBlock = vn.ownBlock ∨ ∃ k, w.heap.size ≤ k ∧ v'.ownBlock = some k) :
    St (withB D v') (withB M v') (w5.setCell ⟨rb, 3, none⟩ v') rb xs s' ∧ Turn D M (withB D v') (withB M v') w (w5.setCell ⟨rb, 3, none⟩ v') := by
  have hlt := h.lt
  have hrn : vn.ownBlock ≠ some rb := fun e => by have := hrb rb e; omega
  have hold : ∀ k, k < w.heap.size → v'.ownBlock = some k → M k = true := fun k hk' e => by
    rcases hb with hb | ⟨g, hg, hb⟩
    · exact hM k (by rw [← hb]; exact e)
    · rw [hb] at e; cases e; omega
  have hkeep : ∀ k, k < w.heap.size → M k = false → (w5.setCell ⟨rb, 3, none⟩ v').heap[k]? = w.heap[k]? := fun k hk' hm => by
    rw [Below.heap_setCell w5 _ _ k (fun e => by simp only at e; rw [e, h.mb] at hm; cases hm)]
    exact hk k hk' (fun e => by rw [hM k e] at hm; cases hm)
  have hdd : ∀ k, k < w.heap.size → withB D v' k = D k := fun k hk' => by
    by_cases e : v'.ownBlock = some k
    · rw [withB_own e, h.md k (hold k hk' e)]
    · exact withB_no e
  have hmm : ∀ k, k < w.heap.size → withB M v' k = M k := fun k hk' => by
    by_cases e : v'.ownBlock = some k
    · rw [withB_own e, hold k hk' e]
    · exact withB_no e
  have hs5 : (w5.setCell ⟨rb, 3, none⟩ v').heap.size = w5.heap.size := by simp [World.setCell]
  have ht : Turn D M (withB D v') (withB M v') w (w5.setCell ⟨rb, 3, none⟩ v') := ⟨by rw [hs5]; exact hsz, hdd, hmm, hkeep, hot.setCell (Nat.zero_le _) _⟩
  have hst := ht.stays h.md
  have hr : ∀ j u, w.cell? ⟨rb, j, none⟩ = some u → w5.cell? ⟨rb, j, none⟩ = some u := fun j u hu => by rw [World.cell?_of_block (hk rb hlt hrn)]; exact hu
  obtain ⟨vo, o1, o2⟩ := h.co
  obtain ⟨vl0, l1, l2⟩ := h.cl
  refine ⟨{ mb := withB_of h.mb, md := fun k hm => ?_, old := fun k hk' => ?_, co := ⟨vo, by rw [near_cell (by decide)]; exact hr _ _ o1, Elems.stay o2 hst⟩
            cl := ⟨vl0, by rw [near_cell (by decide)]; exact hr _ _ l1, by rw [e1]; exact Elems.stay l2 hst⟩
            c2 := by rw [near_cell (by decide), e2]; exact hr _ _ h.c2
            c3 := ⟨v', css (hr _ _ hv), row_at hown (fun g hg => Below.heap_setCell w5 _ _ g (fun e => by have := (row_in hown hg).1; simp only at e; omega)), fun k e => withB_own e⟩
            fz := fun j => by rw [World.frozen?_setCell, World.frozen?_of_block (hk rb hlt hrn)]; exact h.fz j
            nice := hn }, ht⟩
  · by_cases e : v'.ownBlock = some k
    · exact withB_own e
    · rw [withB_no e] at hm; exact withB_of (h.md k hm)
  · rw [hs5] at hk'
    rw [withB_no (fun e => by have := (row_in hown e).2; omega)]
    exact h.old k (by omega)
theorem with_plus (D : Nat → Bool) (v : Value) (b : Nat) : withB (plusB D b) v = plusB (withB D v) b := by
  funext k
  simp [withB, plusB, Bool.or_assoc]
theorem Box.block {w w' : World} {b : Nat} {vs : List Value} (h : Box w b vs) (hb : w'.heap[b]? = w.heap[b]?) (hlt : b < w'.heap.size) : Box w' b vs :=
  ⟨fun j u hu => by rw [World.cell?_of_block hb]; exact h.cells j u hu, fun j => by rw [World.frozen?_of_block hb]; exact h.fz j, hlt⟩
theorem infoNm : (Tryz.prog.info? 54).map (fun i => (i.zero, i.size, i.bytes)) = some (some (.agg #[.string ⟨#[]⟩, .int .i64 0]), 2, 24) := by kernel_rfl
theorem vT_at (w : World) (n : Nat) (hn : n ≤ 100000) : TmV w (vT n) (.agg #[.int .i64 0, .int .i64 (n : Int), .string ⟨#[]⟩, .slice none 0 0]) := leaf_tm w i64_0 (by unfold I64; omega) (by decide)
set_option maxHeartbeats 1000000 in
theorem var_hit {D M : Nat → Bool} {w : World} {rb : Nat} {xs : List O} {s : RS} (h : St D M w rb xs s) (name : List UInt8) (k : Nat) (x : NmP) (hk : nmAt s.names name = k) (hx : s.names[k]? = some x) :
    Calls Tryz.prog 149 #[.pointer (some ⟨rb, 0, none⟩), .string ⟨name.toArray⟩] w fun e w' => e = .returned (.agg #[.int .i64 0, .int .i64 (x.2 : Int), .string ⟨#[]⟩, .slice none 0 0]) ∧ Below w.heap.size w w' := by
  obtain ⟨w1, hw1, hb1, hz1, hx1⟩ := box_new w #[.string ⟨name.toArray⟩] 9
  obtain ⟨w2, hw2, hb2, hz2, hx2⟩ := box_new w1 #[.int .i64 0, .int .i64 0, .string ⟨#[]⟩, .slice none 0 0] 27
  have HB2 := Lib.hid (Ext.trans' hb1 hb2)
  obtain ⟨_, _, vn, _, _, _, p3, pf, _, _, pn, _⟩ := (h.later HB2.out).parts
  have hnm : Nms w2 vn s.names := Elems.owned nmCells_len pn
  have HNm := Lib.hid hnm
  have c1 := (hx1.ext hb2).cells 0 _ rfl
  have HI := Lib.hid (nm_at hnm name w.heap.size c1)
  rw [hk] at HI
  obtain ⟨a, c, e, l1, l2, l3⟩ := hnm
  subst e
  obtain ⟨n, hn⟩ : ∃ n, s.names.length = n := ⟨_, rfl⟩
  have hkn : k < n := by rw [← hn]; exact (List.getElem?_eq_some_iff.1 hx).1
  rw [hn] at p3 l1 HI
  obtain ⟨b, off, rfl, hbs, hc⟩ := l3.resolve_left (fun e => by rw [e] at hn; simp at hn; omega)
  have d0 : w2.cell? ⟨b, off + k * 2, none⟩ = some (.string ⟨x.1.toArray⟩) := hc k x hx 0 _ rfl
  have d1 : w2.cell? ⟨b, off + k * 2 + 1, none⟩ = some (.int .i64 (x.2 : Int)) := by rw [Nat.add_assoc]; exact hc k x hx 1 _ rfl
  have hne : w1.heap.size = w.heap.size + 1 := hz1
  unfold maxLen at l2
  have HX := Lib.hid hx2
  have hB : w.heap.size ≤ w1.heap.size := by omega
  clear hne h hk hx hn l3 hc pn hb1 hb2 hx1 hx2 hz1 hz2 HNm
  go_enter Tryz.func149, Tryz.ntmps149
  go_wp2_with fail
  (try rw [hw1])
  (try rw [hw2])
  clear hw1 hw2
  (go_wp2_with fail; go_fit (HI.out); rintro e w3 ⟨rfl, hb3⟩)
  have p3 := cell_later hb3 p3
  have d1 := cell_later hb3 d1
  obtain ⟨r0, r1, r2, r3, rf⟩ := (HX.out.ext hb3).four
  have HX3 := Lib.hid (HX.out.ext hb3)
  have HB3 := Lib.hid (Ext.trans' HB2.out hb3)
  have hkk : ((k : Int) ≥ 0) := by omega
  have hk2 : (k : Int) < n := by omega
  have HV := Lib.hid (fun wq => var_at wq (x.2 : Int))
  clear hb3 HI d0
  go_wp2_with (first | (go_at_call 20; refine (HV.out _).mono ?_; rintro e w4 ⟨rfl, hb4⟩; obtain ⟨r0, r1, r2, r3, rf⟩ := (HX3.out.ext hb4).four; have HB4 := Lib.hid (Ext.trans' HB3.out hb4)))
  refine bodyPost_ret (v := .agg #[.int .i64 0, .int .i64 (x.2 : Int), .string ⟨#[]⟩, .slice none 0 0]) (by rw [results_cell1 rfl]; go_simp) rfl ⟨rfl, Below.set4 HB4.out hB _ _ _ _⟩
set_option maxRecDepth 100000 in
set_option maxHeartbeats 2000000 in
theorem var_miss {D M : Nat → Bool} {w : World} {rb : Nat} {xs : List O} {s s4 s5 : RS} (h : St D M w rb xs s) (name : List UInt8) (hk : nmAt s.names name = -1)
    (e1 : s4.rest = s.rest) (e2 : s4.names = s.names) (e3 : s4.next = s.next + 1) (hn4 : Nice s4) (hun : name = [95] → s5 = s4)
    (hnm : name ≠ [95] → s5.rest = s4.rest ∧ s5.next = s4.next ∧ s5.names = s.names ++ [(name, s.next)] ∧ Nice s5) :
    Calls Tryz.prog 149 #[.pointer (some ⟨rb, 0, none⟩), .string ⟨name.toArray⟩] w fun e w' => e = .returned (.agg #[.int .i64 0, .int .i64 (s.next : Int), .string ⟨#[]⟩, .slice none 0 0]) ∧ ∃ D' M', St D' M' w' rb xs s5 ∧ Turn D M D' M' w w' := by
  obtain ⟨w1, hw1, hb1, hz1, hx1⟩ := box_new w #[.string ⟨name.toArray⟩] 9
  obtain ⟨w2, hw2, hb2, hz2, hx2⟩ := box_new w1 #[.int .i64 0, .int .i64 0, .string ⟨#[]⟩, .slice none 0 0] 27
  have HB2 := Lib.hid (Ext.trans' hb1 hb2)
  have hB : w.heap.size ≤ w1.heap.size := by omega
  have HS2 := Lib.hid (h.box HB2.out hB hx2.lt)
  have HMB := Lib.hid (Old.out h hB)
  have HMD := Lib.hid h.md
  have HOD := Lib.hid h.old
  obtain ⟨_, _, vn, _, _, p2, p3, pf, _, _, pn, _⟩ := HS2.out.parts
  have c1 := (hx1.ext hb2).cells 0 _ rfl
  have HI := Lib.hid (nm_at (show Nms w2 vn s.names from Elems.owned nmCells_len pn) name w.heap.size c1)
  rw [hk] at HI
  have HX := Lib.hid hx2
  have HX1 := Lib.hid (hx1.ext hb2)
  have hlt := h.lt
  have hnr : rb ≠ w.heap.size := by omega
  have hnr1 : rb ≠ w1.heap.size := by omega
  obtain ⟨z, hz⟩ : ∃ z : Int, z = -1 := ⟨_, rfl⟩
  rw [← hz] at HI
  have hz0 : ¬ z ≥ 0 := by omega
  have hbig : s.next ≤ 2000 := by have := hn4.1; omega
  clear hz hk pn hb1 hb2 hx1 hx2 h hz1 hz2
  obtain ⟨q, hq⟩ : ∃ q, s.next = q := ⟨_, rfl⟩
  have HQ := Lib.hid hq
  rw [hq] at p2 hbig ⊢
  have hw : IntKind.i64.wrap ((q : Int) + 1) = (q : Int) + 1 := by rw [IntKind.wrap_i64]; omega
  have HE := Lib.hid (And.intro e1 (And.intro e2 (And.intro e3 hn4)))
  clear hq e1 e2 e3 hn4
  go_enter Tryz.func149, Tryz.ntmps149
  go_wp2_with fail
  (try rw [hw1])
  (try rw [hw2])
  clear hw1 hw2
  (go_wp2_with fail; go_fit (HI.out); rintro e w3 ⟨rfl, hb3⟩)
  have S3 := HS2.out.later hb3
  have S4 := S3.num (s' := s4) HE.out.1 HE.out.2.1 HE.out.2.2.2
  have hq4 : (s4.next : Int) = (q : Int) + 1 := by rw [HE.out.2.2.1, HQ.out]; omega
  rw [hq4] at S4
  have HS4 := Lib.hid S4
  have p2 := cell_later hb3 p2
  have pf3 : w3.frozen? ⟨rb, 2, none⟩ = false := S3.fz 2
  have HX1 := Lib.hid ((HX1.out.ext hb3).far (c := rb) (k := 2) (u := .int .i64 ((q : Int) + 1)) (Ne.symm hnr))
  have HX := Lib.hid ((HX.out.ext hb3).far (c := rb) (k := 2) (u := .int .i64 ((q : Int) + 1)) (Ne.symm hnr1))
  have HT4 := Lib.hid ((Turn.below (D := D) (M := M) (Ext.trans' HB2.out hb3)).set ⟨rb, 2, none⟩ (.int .i64 ((q : Int) + 1)) (Or.inr HS2.out.mb))
  have c1 := HX1.out.cells 0 _ rfl
  have HV := Lib.hid (fun wq => var_at wq (q : Int))
  have c1' := (World.cell?_setCell_other w3 ⟨rb, 2, none⟩ ⟨w.heap.size, 0, none⟩ (.int .i64 ((q : Int) + 1)) (fun e => by injection e with e _ _; exact hnr e)).symm.trans c1
  clear hb3 HI S3 S4 hq4
  by_cases hnu : name = [95]
  · have ht : (name == [95]) = true := by rw [hnu]; rfl
    have HU := Lib.hid (hun hnu)
    clear hun hnm hnu p3
    obtain ⟨w4, hw4⟩ : ∃ w4, w3.setCell ⟨rb, 2, none⟩ (.int .i64 ((q : Int) + 1)) = w4 := ⟨_, rfl⟩
    rw [hw4] at HS4 HX1 HX HT4 c1
    go_wp2_with (first | (go_at_call 20; refine (HV.out _).mono ?_; rintro e w5 ⟨rfl, hb5⟩; obtain ⟨r0, r1, r2, r3, rf⟩ := (HX.out.ext hb5).four; have HB5 := Lib.hid hb5; have HS5 := Lib.hid (HS4.out.later hb5)))
    refine bodyPost_ret (v := .agg #[.int .i64 0, .int .i64 (q : Int), .string ⟨#[]⟩, .slice none 0 0]) (by rw [results_cell1 rfl]; go_simp) rfl ⟨rfl, D, M, ?_⟩
    rw [HU.out]
    have hT := (HT4.out.trans (Turn.below HB5.out)).set4 (b := w1.heap.size) (Or.inl hB) (.int .i64 0) (.int .i64 (q : Int)) (.string ⟨#[]⟩) (.slice none 0 0)
    exact ⟨(HS5.out.put4 (plusB_self D _) HMB.out (.int .i64 0) (.int .i64 (q : Int)) (.string ⟨#[]⟩) (.slice none 0 0)).unbox HMD.out (HOD.out.mono hT.size), hT⟩
  · have ht : (name != [95]) = true := by simpa using hnu
    have ht2 : (name == [95]) = false := beq_false_of_ne hnu
    have HNm := Lib.hid (hnm hnu)
    obtain ⟨i0, hi0, hzz, hss, hbb⟩ := info_parts infoNm
    clear hun hnm hnu p3
    obtain ⟨_, _, vn, _, _, p2, p3, pf, _, _, pn, pm⟩ := HS4.out.parts
    obtain ⟨w4, hw4⟩ : ∃ w4, w3.setCell ⟨rb, 2, none⟩ (.int .i64 ((q : Int) + 1)) = w4 := ⟨_, rfl⟩
    rw [hw4] at HS4 HX1 HX HT4 c1 p2 p3 pf pn
    have HP3 := Lib.hid p3
    have HRB := Lib.hid (fun k hk => (row_in pn (g := k) hk).1)
    have HPM := Lib.hid pm
    rw [HE.out.2.1] at pn
    obtain ⟨m, hm⟩ : ∃ m, s.names.length = m := ⟨_, rfl⟩
    have hmq : m ≤ 2000 := by have h1 := HE.out.2.2.2.1; have h2 := HE.out.2.2.2.2.1; rw [HE.out.2.1, hm] at h2; omega
    rw [hm] at pn
    have HN := Lib.hid hm
    obtain ⟨olds, hol⟩ : ∃ l, s.names.flatMap nmCells = l := ⟨_, rfl⟩
    rw [hol] at pn
    have HOl := Lib.hid hol
    have HPN := Lib.hid pn
    have hsz4 : rb + 1 ≤ w4.heap.size := by have := HS4.out.lt; omega
    have hrn : vn.ownBlock ≠ some rb := fun e => by have := HRB.out rb e; omega
    have hlt4 := HS4.out.lt
    have HG := Lib.hid (fun (o : Obj) (w7 : World) (g : (w4.alloc o).drew.grownBy w7 vn.ownBlock) (k : Nat) (hk : k < w4.heap.size) (hne : vn.ownBlock ≠ some k) => (g.block k (Nat.lt_of_lt_of_le hk (bel1' w4 o).size) (Ne.symm hne)).trans ((bel1' w4 o).block k hk))
    have HGZ := Lib.hid (fun (o : Obj) (w7 : World) (g : (w4.alloc o).drew.grownBy w7 vn.ownBlock) => Nat.le_trans (bel1' w4 o).size g.size)
    have HGO := Lib.hid (fun (o : Obj) (w7 : World) (g : (w4.alloc o).drew.grownBy w7 vn.ownBlock) => (show Below 0 w4 w7 from ((bel1' w4 o).mono (Nat.zero_le _)).drew.grown g (Nat.zero_le _) (fun _ _ => Nat.zero_le _)))
    have HRn := Lib.hid hrn
    have HLT := Lib.hid hlt4
    have c3' : ∀ o, (w4.alloc o).cell? ⟨rb, 3, none⟩ = some vn := fun o => Lib.cell?_alloc_some _ p3
    have cn' : ∀ o, (w4.alloc o).cell? ⟨w.heap.size, 0, none⟩ = some (.string ⟨name.toArray⟩) := fun o => Lib.cell?_alloc_some _ c1
    have HROW := Lib.hid (fun (o : Obj) => show (w4.alloc o).drew.ownsRow (rb + 1) 54 2 vn m olds from (HPN.out.alloc o))
    clear hm hol pn hrn hlt4
    go_wp2_with fail
    go_region_law ((refine step_append_k (by rfl) _ _ _ (by rfl) (rb + 1) 54 i0 (.agg #[.string ⟨#[]⟩, .int .i64 0]) 2 24 Tryz.underlying28 hi0 hzz hss (by decide) hbb rfl vn m olds (by rfl) (HROW.out _) (some ⟨w4.heap.size, 0, none⟩) 1 1 [.string ⟨name.toArray⟩, .int .i64 (q : Int)] (by rfl) (by rfl) (Or.inr ⟨_, rfl, fun j u hu => cell_new w4 #[.string ⟨name.toArray⟩, .int .i64 (q : Int)] _ j u hu⟩) (by simp [Value.oneCell']) (by unfold maxLen; omega) (by omega) (by simp; omega) (m + 1) (olds ++ [.string ⟨name.toArray⟩, .int .i64 (q : Int)]) rfl rfl ?_; intro a7 c7 w7 hown7 hgrow7 hat7; have e7 := HG.out _ _ hgrow7; have d3 : w7.cell? ⟨rb, 3, none⟩ = some vn := (by rw [World.cell?_of_block (e7 rb HLT.out HRn.out)]; exact p3); have f3 : w7.frozen? ⟨rb, 3, none⟩ = false := (by rw [World.frozen?_of_block (e7 rb HLT.out HRn.out)]; exact pf 3); have HE7 := Lib.hid e7; have HO7 := Lib.hid hown7; have HZ7 := Lib.hid (HGZ.out _ _ hgrow7); have HOT := Lib.hid (HGO.out _ _ hgrow7); have HA7 := Lib.hid hat7; clear e7 hown7 hgrow7 hat7))
    all_goals
      have hS4u := HS4.out.unbox HMD.out (HOD.out.mono HT4.out.size)
      have hBlt := HX.out.lt
      have hnB : vn.ownBlock ≠ some w1.heap.size := fun e => by have := HPM.out _ e; rw [HMB.out] at this; cases this
      have hat : (Value.slice a7 (m + 1) c7).ownBlock = vn.ownBlock ∨ ∃ k, w4.heap.size ≤ k ∧ (Value.slice a7 (m + 1) c7).ownBlock = some k := HA7.out.imp id (fun h => ⟨_, (bel1' w4 _).size, h⟩)
      have hown : w7.ownsRow (rb + 1) 54 2 (.slice a7 (m + 1) c7) s5.names.length (s5.names.flatMap nmCells) := by
        have h := HO7.out
        rw [HNm.out.2.2.1, List.length_append, List.length_singleton, List.flatMap_append, HN.out, HOl.out, HQ.out]
        exact h
      have hn1 := HS4.out.name (v' := .slice a7 (m + 1) c7) HNm.out.1 HNm.out.2.1 HNm.out.2.2.2 HP3.out HPM.out HRB.out HOT.out HZ7.out HE7.out hown hat
      have hn2 := hS4u.name (v' := .slice a7 (m + 1) c7) HNm.out.1 HNm.out.2.1 HNm.out.2.2.2 HP3.out HPM.out HRB.out HOT.out HZ7.out HE7.out hown hat
      have HVB := Lib.hid (show (Value.slice a7 (m + 1) c7).ownBlock ≠ some w1.heap.size from fun e => by
        rcases hat with h | ⟨k, hk, h⟩
        · exact hnB (h.symm.trans e)
        · rw [h] at e; injection e with e; omega)
      have HX7 := Lib.hid (((HX.out.block (HE7.out _ hBlt hnB) (Nat.lt_of_lt_of_le hBlt HZ7.out)).far (c := rb) (k := 3) (u := .slice a7 (m + 1) c7) (Ne.symm hnr1)))
      have HN1 := Lib.hid hn1.1
      have HTT := Lib.hid (HT4.out.trans hn2.2)
      obtain ⟨w8, hw8⟩ : ∃ w8, w7.setCell ⟨rb, 3, none⟩ (.slice a7 (m + 1) c7) = w8 := ⟨_, rfl⟩
      rw [hw8] at HX7 HN1 HTT
      clear hS4u hnB hat hown hn1 hn2 hBlt d3 f3 c3' cn' c1' c1 p2 p3 pf
      (try rw [hw8])
      clear hw8
      go_wp2_with (first | (go_at_call 20; refine (HV.out _).mono ?_; rintro e w9 ⟨rfl, hb9⟩; obtain ⟨r0, r1, r2, r3, rf⟩ := (HX7.out.ext hb9).four; have HB9 := Lib.hid hb9; have HS9 := Lib.hid (HN1.out.later hb9)))
      refine bodyPost_ret (v := .agg #[.int .i64 0, .int .i64 (q : Int), .string ⟨#[]⟩, .slice none 0 0]) (by rw [results_cell1 rfl]; go_simp) rfl ⟨rfl, withB D (.slice a7 (m + 1) c7), withB M (.slice a7 (m + 1) c7), ?_⟩
      have hT := (HTT.out.trans (Turn.below HB9.out)).set4 (b := w1.heap.size) (Or.inl hB) (.int .i64 0) (.int .i64 (q : Int)) (.string ⟨#[]⟩) (.slice none 0 0)
      have hP := HS9.out.put4 (b := w1.heap.size) (withB_of (plusB_self D _)) ((withB_no HVB.out).trans HMB.out) (.int .i64 0) (.int .i64 (q : Int)) (.string ⟨#[]⟩) (.slice none 0 0)
      rw [with_plus] at hP
      exact ⟨hP.unbox (fun k hk => by
        by_cases e : (Value.slice a7 (m + 1) c7).ownBlock = some k
        · exact withB_own e
        · rw [withB_no e] at hk; exact withB_of (HMD.out k hk)) (fun k hk => by
        have h9 := hP.old k hk
        cases hd : withB D (.slice a7 (m + 1) c7) k with
        | false => rfl
        | true => rw [plusB_of hd] at h9; cases h9), hT⟩
end Go.Proofs.YtljgkfdnmikpfaaGreatDoor
