import Derived.Test.YtaojalicnnnkmaaGreatDoorHyyaf
import Derived.Laws.ResultCell
import Derived.Test.YtaojalicnnnkmaaGreatDoorHyyab
import Derived.Shelf.Spec.SlicesGrow
import Derived.Laws.MakeOwn
import Derived.Deep.RegionHeld3
set_option linter.unusedVariables false
set_option linter.unusedSimpArgs false
/- Operators: the one of a name and side: Pre, In. -/
namespace Go.Proofs.YtaojalicnnnkmaaGreatDoor
open Go.Shelf Go.RowKit

theorem place_cases (xs : List O) (n : List UInt8) (s : Int) :
    (placeB xs n s = -1 ∧ ∀ (j : Nat) (y : O), xs[j]? = some y → isAt n s y = false) ∨
    (∃ (k : Nat) (x : O), placeB xs n s = k ∧ xs[k]? = some x ∧ isAt n s x = true ∧ ∀ (j : Nat) (y : O), j < k → xs[j]? = some y → isAt n s y = false) := by
  suffices h : ∀ (xs : List O) (i : Nat), (Lib.idxByFrom (fun _ y => isAt n s y) default xs i = -1 ∧ ∀ (j : Nat) (y : O), xs[j]? = some y → isAt n s y = false) ∨
      (∃ (k : Nat) (x : O), Lib.idxByFrom (fun _ y => isAt n s y) default xs i = ((i + k : Nat) : Int) ∧ xs[k]? = some x ∧ isAt n s x = true ∧ ∀ (j : Nat) (y : O), j < k → xs[j]? = some y → isAt n s y = false) by
    rcases h xs 0 with h | ⟨k, x, h1, h2⟩
    · exact Or.inl h
    · exact Or.inr ⟨k, x, by rw [Nat.zero_add] at h1; exact h1, h2⟩
  intro xs
  induction xs with
  | nil => intro i; exact Or.inl ⟨rfl, fun j y h => by simp at h⟩
  | cons a r ih =>
    intro i
    cases ha : isAt n s a
    · rcases ih (i + 1) with ⟨h1, h2⟩ | ⟨k, x, h1, h2, h3, h4⟩
      · refine Or.inl ⟨by simp only [Lib.idxByFrom, ha]; exact h1, fun j y hy => ?_⟩
        cases j with
        | zero => simp at hy; rw [← hy]; exact ha
        | succ j => exact h2 j y (by simpa using hy)
      · refine Or.inr ⟨k + 1, x, by simp only [Lib.idxByFrom, ha]; rw [show i + (k + 1) = i + 1 + k by omega]; exact h1, by simpa using h2, h3, fun j y hj hy => ?_⟩
        cases j with
        | zero => simp at hy; rw [← hy]; exact ha
        | succ j => exact h4 j y (by omega) (by simpa using hy)
    · exact Or.inr ⟨0, a, by simp [Lib.idxByFrom, ha], rfl, ha, fun j y hj => by omega⟩

/-- The one of that name and side, of a good table. -/
def oneB (xs : List O) (n : List UInt8) (s : Int) : O × Bool :=
  if decide (placeB xs n s < 0) || !goodB xs then (default, false) else (xs[(placeB xs n s).toNat]!, true)

set_option maxHeartbeats 1000000 in
theorem one_walk {w : World} {v : Value} {xs : List O} (h : Ops w v xs) (n : ByteArray) (s : Int) :
    Calls Tryz.prog 124 #[.agg #[v], .string n, .int .i64 s] w fun e w' => e = .returned (.tuple #[oVal (oneB xs (bl n) s).1, .bool (oneB xs (bl n) s).2]) ∧ Below w.heap.size w w' := by
  obtain ⟨a, c, rfl, hl1, hl2⟩ := h.form
  unfold maxLen at hl2
  have H := Lib.hid h
  have HP := Lib.hid (fun (wq : World) (hq : Below w.heap.size w wq) => place_walk (h.ext hq) n s)
  have HG := Lib.hid (fun (wq : World) (hq : Below w.heap.size w wq) => good_walk (h.ext hq))
  clear h
  rcases place_cases xs (bl n) s with ⟨hm, _⟩ | ⟨k, x, hm, hx, _, _⟩
  · have hE : oneB xs (bl n) s = (default, false) := by unfold oneB; rw [hm]; rfl
    rw [hE]; clear hE
    rw [hm] at HP
    clear hm
    go_enter Tryz.func124, Tryz.ntmps124
    (go_wp2_with fail; go_fit (HP.out _ ((bel1' _ _).trans ((bel1' _ _).mono (by simp)))); rintro e w1 ⟨rfl, hb⟩)
    have c0 : w1.cell? ⟨w.heap.size, 0, none⟩ = some (.slice a xs.length c) := cell_later hb (by simp)
    have c1 : w1.cell? ⟨w.heap.size + 1, 0, none⟩ = some (.string ⟨#[]⟩) := cell_later hb (by simp)
    have c2 : w1.cell? ⟨w.heap.size + 1, 1, none⟩ = some (.string ⟨#[]⟩) := cell_later hb (by simp)
    have c3 : w1.cell? ⟨w.heap.size + 1, 2, none⟩ = some (.int .i64 0) := cell_later hb (by simp)
    have f1 : ∀ j, w1.frozen? ⟨w.heap.size + 1, j, none⟩ = false := fun j => (hb.frozen (p := ⟨w.heap.size + 1, j, none⟩) (by simp)).trans (by simp)
    have hbw : Below w.heap.size w w1 := Below.trans ((bel1' _ _).trans ((bel1' _ _).mono (by simp))) (hb.mono (by simp; omega))
    have HB := Lib.hid hb; clear hb
    have HW := Lib.hid hbw; clear hbw
    go_wp2
    (try simp only [Exit.inBlock, Exit.then])
    refine bodyPost_ret (v := .tuple #[.agg #[.string ⟨#[]⟩, .string ⟨#[]⟩, .int .i64 0], .bool false]) (by rw [results_cell_tmp rfl]; go_simp) rfl ⟨rfl, ?_⟩
    repeat' (first | exact HW.out | refine Below.setCell ?_ (by simp) _)
  · have hk := (List.getElem?_eq_some_iff.1 hx).1
    obtain ⟨b, off, rfl, hbs, d0, d1, d2⟩ := Ops.cells H.out hx
    have hE : oneB xs (bl n) s = if goodB xs then (x, true) else (default, false) := by
      unfold oneB
      rw [hm]
      have h1 : ¬ ((k : Int) < 0) := by omega
      have h2 : xs[(k : Int).toNat]! = x := by rw [Int.toNat_natCast, List.getElem!_eq_getElem?_getD, hx]; rfl
      rw [h2]
      simp only [h1, decide_false, Bool.false_or]
      cases goodB xs <;> rfl
    rw [hE]; clear hE
    rw [hm] at HP
    rcases x with ⟨yn, yk, yl⟩
    simp only at d0 d1 d2
    obtain ⟨g, hg⟩ : ∃ g, goodB xs = g := ⟨_, rfl⟩
    rw [hg] at HG ⊢
    have HD := Lib.hid (And.intro d0 (And.intro d1 d2))
    clear hg hm hx d0 d1 d2
    have hkk : (k : Int) < xs.length := by omega
    have hk0 : ((k : Int) < 0) = False := by simp
    go_enter Tryz.func124, Tryz.ntmps124
    (go_wp2_with fail; go_fit (HP.out _ ((bel1' _ _).trans ((bel1' _ _).mono (by simp)))); rintro e w1 ⟨rfl, hb⟩)
    have c0 : w1.cell? ⟨w.heap.size, 0, none⟩ = some (.slice (some ⟨b, off, none⟩) xs.length c) := cell_later hb (by simp)
    have c1 : w1.cell? ⟨w.heap.size + 1, 0, none⟩ = some (.string ⟨#[]⟩) := cell_later hb (by simp)
    have c2 : w1.cell? ⟨w.heap.size + 1, 1, none⟩ = some (.string ⟨#[]⟩) := cell_later hb (by simp)
    have c3 : w1.cell? ⟨w.heap.size + 1, 2, none⟩ = some (.int .i64 0) := cell_later hb (by simp)
    have f1 : ∀ j, w1.frozen? ⟨w.heap.size + 1, j, none⟩ = false := fun j => (hb.frozen (p := ⟨w.heap.size + 1, j, none⟩) (by simp)).trans (by simp)
    have hbw : Below w.heap.size w w1 := Below.trans ((bel1' _ _).trans ((bel1' _ _).mono (by simp))) (hb.mono (by simp; omega))
    have HB := Lib.hid hb; clear hb
    have HW := Lib.hid hbw; clear hbw
    (go_wp2_with fail; go_fit (HG.out w1 HW.out); rintro e w2 ⟨rfl, hb2⟩)
    have e0 : w2.cell? ⟨w.heap.size, 0, none⟩ = some (.slice (some ⟨b, off, none⟩) xs.length c) := cell_later hb2 c0
    have e1 : w2.cell? ⟨w.heap.size + 1, 0, none⟩ = some (.string ⟨#[]⟩) := cell_later hb2 c1
    have e2 : w2.cell? ⟨w.heap.size + 1, 1, none⟩ = some (.string ⟨#[]⟩) := cell_later hb2 c2
    have e3 : w2.cell? ⟨w.heap.size + 1, 2, none⟩ = some (.int .i64 0) := cell_later hb2 c3
    have f2 : ∀ j, w2.frozen? ⟨w.heap.size + 1, j, none⟩ = false := fun j => (hb2.frozen (p := ⟨w.heap.size + 1, j, none⟩) (by have := HB.out.size; simp at this; simp; omega)).trans (f1 j)
    have HW2 := Lib.hid (Ext.trans' HW.out hb2)
    clear hb2 c0 c1 c2 c3 f1
    cases g
    · go_wp2
      (try simp only [Exit.inBlock, Exit.then])
      refine bodyPost_ret (v := .tuple #[.agg #[.string ⟨#[]⟩, .string ⟨#[]⟩, .int .i64 0], .bool false]) (by rw [results_cell_tmp rfl]; go_simp) rfl ⟨rfl, ?_⟩
      repeat' (first | exact HW2.out | refine Below.setCell ?_ (by simp) _)
    · have d0 : w2.cell? ⟨b, off + k * 3, none⟩ = some (.string yn) := cell_later HW2.out HD.out.1
      have d1 : w2.cell? ⟨b, off + k * 3 + 1, none⟩ = some (.string yk) := cell_later HW2.out HD.out.2.1
      have d2 : w2.cell? ⟨b, off + k * 3 + 2, none⟩ = some (.int .i64 yl) := cell_later HW2.out HD.out.2.2
      go_wp2
      (try simp only [Exit.inBlock, Exit.then])
      refine bodyPost_ret (v := .tuple #[.agg #[.string yn, .string yk, .int .i64 yl], .bool true]) (by rw [results_cell_tmp rfl]; go_simp) rfl ⟨rfl, ?_⟩
      repeat' (first | exact HW2.out | refine Below.setCell ?_ (by simp) _)

theorem pre_walk {w : World} {v : Value} {xs : List O} (h : Ops w v xs) (n : ByteArray) :
    Calls Tryz.prog 118 #[.agg #[v], .string n] w fun e w' => e = .returned (.tuple #[oVal (oneB xs (bl n) 1).1, .bool (oneB xs (bl n) 1).2]) ∧ Below w.heap.size w w' := by
  have HO := Lib.hid (fun (wq : World) (hq : Below w.heap.size w wq) => one_walk (h.ext hq) n 1)
  clear h
  generalize oneB xs (bl n) 1 = r at HO ⊢
  obtain ⟨⟨yn, yk, yl⟩, g⟩ := r
  go_enter Tryz.func118, Tryz.ntmps118
  (go_wp2_with fail; go_fit (HO.out _ ((bel1' _ _).trans ((bel1' _ _).mono (by simp)))); rintro e w1 ⟨rfl, hb⟩)
  have c1 : w1.cell? ⟨w.heap.size + 1, 0, none⟩ = some (.string ⟨#[]⟩) := cell_later hb (by simp)
  have c2 : w1.cell? ⟨w.heap.size + 1, 1, none⟩ = some (.string ⟨#[]⟩) := cell_later hb (by simp)
  have c3 : w1.cell? ⟨w.heap.size + 1, 2, none⟩ = some (.int .i64 0) := cell_later hb (by simp)
  have f1 : ∀ j, w1.frozen? ⟨w.heap.size + 1, j, none⟩ = false := fun j => (hb.frozen (p := ⟨w.heap.size + 1, j, none⟩) (by simp)).trans (by simp)
  have HW : Hid (Below w.heap.size w w1) := Lib.hid (Below.trans ((bel1' _ _).trans ((bel1' _ _).mono (by simp))) (hb.mono (by simp; omega)))
  clear hb
  go_wp2
  (try simp only [Exit.inBlock, Exit.then])
  refine bodyPost_ret (v := .tuple #[.agg #[.string yn, .string yk, .int .i64 yl], .bool g]) (by rw [results_cell_tmp rfl]; go_simp) rfl ⟨rfl, ?_⟩
  repeat' (first | exact HW.out | refine Below.setCell ?_ (by simp) _)
theorem in_walk {w : World} {v : Value} {xs : List O} (h : Ops w v xs) (n : ByteArray) :
    Calls Tryz.prog 100 #[.agg #[v], .string n] w fun e w' => e = .returned (.tuple #[oVal (oneB xs (bl n) 2).1, .bool (oneB xs (bl n) 2).2]) ∧ Below w.heap.size w w' := by
  have HO := Lib.hid (fun (wq : World) (hq : Below w.heap.size w wq) => one_walk (h.ext hq) n 2)
  clear h
  generalize oneB xs (bl n) 2 = r at HO ⊢
  obtain ⟨⟨yn, yk, yl⟩, g⟩ := r
  go_enter Tryz.func100, Tryz.ntmps100
  (go_wp2_with fail; go_fit (HO.out _ ((bel1' _ _).trans ((bel1' _ _).mono (by simp)))); rintro e w1 ⟨rfl, hb⟩)
  have c1 : w1.cell? ⟨w.heap.size + 1, 0, none⟩ = some (.string ⟨#[]⟩) := cell_later hb (by simp)
  have c2 : w1.cell? ⟨w.heap.size + 1, 1, none⟩ = some (.string ⟨#[]⟩) := cell_later hb (by simp)
  have c3 : w1.cell? ⟨w.heap.size + 1, 2, none⟩ = some (.int .i64 0) := cell_later hb (by simp)
  have f1 : ∀ j, w1.frozen? ⟨w.heap.size + 1, j, none⟩ = false := fun j => (hb.frozen (p := ⟨w.heap.size + 1, j, none⟩) (by simp)).trans (by simp)
  have HW : Hid (Below w.heap.size w w1) := Lib.hid (Below.trans ((bel1' _ _).trans ((bel1' _ _).mono (by simp))) (hb.mono (by simp; omega)))
  clear hb
  go_wp2
  (try simp only [Exit.inBlock, Exit.then])
  refine bodyPost_ret (v := .tuple #[.agg #[.string yn, .string yk, .int .i64 yl], .bool g]) (by rw [results_cell_tmp rfl]; go_simp) rfl ⟨rfl, ?_⟩
  repeat' (first | exact HW.out | refine Below.setCell ?_ (by simp) _)
end Go.Proofs.YtaojalicnnnkmaaGreatDoor
/- Operators: slices.Grow and slices.Concat at them. -/
namespace Go.Proofs.YtaojalicnnnkmaaGreatDoor
open Go.Shelf Go.RowKit

theorem flat3_len (L : List O) : (L.flatMap oCells).length = L.length * 3 := by
  induction L with
  | nil => rfl
  | cons a r ih => rw [List.flatMap_cons, List.length_append, ih, oCells_len]; simp; omega
theorem flat3_get : ∀ (L : List O) (i : Nat) (x : O), L[i]? = some x → ∀ j, j < 3 → (L.flatMap oCells)[i * 3 + j]? = (oCells x)[j]?
  | [], i, x, h, _, _ => by simp at h
  | a :: r, 0, x, h, j, hj => by
    simp at h
    subst h
    rw [List.flatMap_cons, List.getElem?_append_left (by rw [oCells_len]; omega)]
    congr 1
    omega
  | a :: r, i + 1, x, h, j, hj => by
    rw [List.flatMap_cons, List.getElem?_append_right (by rw [oCells_len]; omega), oCells_len, show (i + 1) * 3 + j - 3 = i * 3 + j by omega]
    exact flat3_get r i x (by simpa using h) j hj
theorem flat3_at (L : List O) (j : Nat) (u : Value) (h : (L.flatMap oCells)[j]? = some u) : ∃ x, L[j / 3]? = some x ∧ (oCells x)[j % 3]? = some u := by
  have hj := (List.getElem?_eq_some_iff.1 h).1
  rw [flat3_len] at hj
  obtain ⟨x, hx⟩ : ∃ x, L[j / 3]? = some x := ⟨_, List.getElem?_eq_getElem (by omega)⟩
  refine ⟨x, hx, ?_⟩
  rw [← flat3_get L _ x hx (j % 3) (by omega), ← h]
  congr 1
  omega
theorem flat3_one (L : List O) : ∀ u ∈ L.flatMap oCells, u.oneCell' = true := by
  intro u hu
  obtain ⟨x, _, hx⟩ := List.mem_flatMap.1 hu
  simp [oCells] at hx
  rcases hx with rfl | rfl | rfl <;> rfl
/-- What the call owns reads as these. -/
theorem Ops.owned {w : World} {B : Nat} {v : Value} {L : List O} (h : w.ownsRow B 93 3 v L.length (L.flatMap oCells)) : Ops w v L := by
  rcases h.2 with ⟨rfl, h0⟩ | ⟨g, cap, cur, rfl, _, hg, h1, h2, h3, h4⟩
  · obtain rfl := List.length_eq_zero_iff.1 h0
    exact ⟨none, 0, rfl, Nat.le_refl _, Nat.zero_le _, Or.inl rfl⟩
  · refine ⟨_, cap, rfl, h1, h2, Or.inr ⟨g, 0, rfl, (Array.getElem?_eq_some_iff.1 hg).1, fun i x hx j u hu => ?_⟩⟩
    have hj : j < 3 := by have := (List.getElem?_eq_some_iff.1 hu).1; rwa [oCells_len] at this
    have hi := (List.getElem?_eq_some_iff.1 hx).1
    have h5 := flat3_get L i x hx j hj
    rw [← h4, List.getElem?_take, if_pos (by omega), hu] at h5
    rw [Nat.zero_add, World.cell?, hg]
    simpa using h5
theorem Ops.set {w : World} {v : Value} {L : List O} (h : Ops w v L) (a : Addr) (u : Value) (hne : v.ownBlock ≠ some a.block) : Ops (w.setCell a u) v L := by
  obtain ⟨a', cap, rfl, h1, h2, h3⟩ := h
  refine ⟨a', cap, rfl, h1, h2, ?_⟩
  rcases h3 with rfl | ⟨b, off, rfl, hb, hc⟩
  · exact Or.inl rfl
  · refine Or.inr ⟨b, off, rfl, by simpa [World.setCell] using hb, fun i x hx j u' hu => ?_⟩
    rw [World.cell?_of_block (w := w) (Below.heap_setCell w a u b (fun e => hne (by rw [← e]; rfl)))]
    exact hc i x hx j u' hu
theorem Ops.src {w : World} {a : Option Addr} {n c : Nat} {L : List O} (h : Ops w (.slice a n c) L) : n = 0 ∨ ∃ ad, a = some ad ∧ ∀ j u, (L.flatMap oCells)[j]? = some u → w.cell? (ad.add j) = some u := by
  obtain ⟨a', cap', e, h1, h2, h3⟩ := h
  cases e
  rcases h3 with rfl | ⟨b, off, rfl, hb, hc⟩
  · exact Or.inl rfl
  · refine Or.inr ⟨_, rfl, fun j u hu => ?_⟩
    obtain ⟨x, hx, hu'⟩ := flat3_at L j u hu
    rw [add_plain, ← hc _ x hx _ u hu']
    congr 2
    omega

theorem info3 : (Tryz.prog.info? 93).map (fun i => (i.zero, i.size, i.bytes)) = some (some (.agg #[.string ⟨#[]⟩, .string ⟨#[]⟩, .int .i64 0]), 3, 40) := by kernel_rfl
theorem info3_parts : ∃ i, Tryz.prog.info? 93 = some i ∧ i.zero = some (.agg #[.string ⟨#[]⟩, .string ⟨#[]⟩, .int .i64 0]) ∧ i.size = 3 ∧ i.bytes = 40 := by
  have h := info3
  cases hi : Tryz.prog.info? 93 with
  | none => rw [hi] at h; simp at h
  | some i => rw [hi] at h; simp only [Option.map_some, Option.some.injEq, Prod.mk.injEq] at h; exact ⟨i, rfl, h.1, h.2.1, h.2.2⟩

theorem grow_walk (n : Nat) (hn : n ≤ 5000) (w : World) :
    Calls Tryz.prog 67 #[.slice none 0 0, .int .i64 n] w fun e w' => ∃ a c, e = .returned (.slice a 0 c) ∧ w'.ownsRow w.heap.size 93 3 (.slice a 0 c) 0 [] ∧ Below w.heap.size w w' := by
  obtain ⟨i0, hi0, hz0, hs0, hb0⟩ := info3_parts
  by_cases h0 : n = 0
  · subst h0
    have hcon := Any8.slices_Grow_room Tryz.growOp none 0 0 0 w (by omega) (by omega) (by omega) (by omega)
    refine Calls.mono (show Calls Tryz.prog 67 _ _ _ from hcon) ?_
    rintro e w' ⟨rfl, rfl⟩
    exact ⟨none, 0, rfl, ⟨rfl, Or.inl ⟨rfl, rfl⟩⟩, Below.refl _ _⟩
  · have hcon := Any8.slices_Grow_grow Tryz.growOp i0 _ hi0 hz0 (by omega) none 0 0 n [] w (by omega) (by omega) (by rw [hb0]; omega) (by omega) (by simp) (fun _ => rfl) (fun a h => by cases h)
    refine Calls.mono (show Calls Tryz.prog 67 _ _ _ from hcon) ?_
    rintro e w' ⟨rfl, rfl⟩
    refine ⟨_, _, rfl, ⟨rfl, Or.inr ⟨w.heap.size, _, _, rfl, Nat.le_refl _, heap_alloc_new w.drew _, Nat.zero_le _, ?_, ?_, by simp⟩⟩, ((Below.refl _ _).drew).alloc (Nat.le_refl _) _⟩
    · exact grownCap_le_maxLen w _ _ _ (by unfold maxLen; omega)
    · have hge := grownCap_ge w (0 + n) 0 93
      simp only [Array.size_append, size_zeroCells]
      show 0 + (0 + n - 0) * 3 + (grownCap w (0 + n) 0 93 - (0 + n)) * 3 = grownCap w (0 + n) 0 93 * 3
      omega

/-- What the first k hold together. -/
def upto (ps : List (Value × List O)) (k : Nat) : List O := (ps.take k).flatMap (·.2)
theorem upto_succ {ps : List (Value × List O)} {k : Nat} {p : Value × List O} (h : ps[k]? = some p) : upto ps (k + 1) = upto ps k ++ p.2 := by
  unfold upto
  rw [List.take_add_one, h]
  simp
theorem upto_all (ps : List (Value × List O)) {k : Nat} (h : ps.length ≤ k) : upto ps k = ps.flatMap (·.2) := by
  unfold upto
  rw [List.take_of_length_le h]
theorem upto_le (ps : List (Value × List O)) (k : Nat) : (upto ps k).length ≤ (ps.flatMap (·.2)).length := by
  unfold upto
  conv => rhs; rw [← List.take_append_drop k ps, List.flatMap_append, List.length_append]
  omega

theorem own_base {w : World} {B e s n : Nat} {v : Value} {xs : List Value} (h : w.ownsRow B e s v n xs) : ∀ k, v.ownBlock = some k → B ≤ k := fun k hk => by
  rcases h.2 with ⟨rfl, _⟩ | ⟨g, cap, cur, rfl, hg, _⟩
  · simp [Value.ownBlock] at hk
  · simp [Value.ownBlock] at hk
    omega
set_option maxHeartbeats 1000000 in
theorem concat_walk {w : World} {v : Value} {ps : List (Value × List O)} (h : Elems 1 (fun p => [p.1]) w v ps) (hp : ∀ p ∈ ps, Ops w p.1 p.2) (hl : ps.length ≤ 20) (hs : (ps.flatMap (·.2)).length ≤ 5000) :
    Calls Tryz.prog 46 #[v] w fun e w' => ∃ r, e = .returned r ∧ Ops w' r (ps.flatMap (·.2)) ∧ Below w.heap.size w w' ∧ (∀ k, r.ownBlock = some k → w.heap.size ≤ k) := by
  obtain ⟨a, cap, rfl, h1, h2, h3⟩ := h
  have hc : ∀ (k : Nat) (p : Value × List O), ps[k]? = some p → ∃ b off, a = some ⟨b, off, none⟩ ∧ b < w.heap.size ∧ w.cell? ⟨b, off + k, none⟩ = some p.1 := fun k p hk => by
    rcases h3 with rfl | ⟨b, off, rfl, hb, hc⟩
    · simp at hk
    · exact ⟨b, off, rfl, hb, by have := hc k p hk 0 _ rfl; rwa [show off + (k * 1 + 0) = off + k by omega] at this⟩
  have HC := Lib.hid hc; clear hc h3
  have HP := Lib.hid hp; clear hp
  unfold maxLen at h2
  have HS := Lib.hid hs; clear hs
  go_enter Tryz.func46, Tryz.ntmps46
  go_wp2_with fail
  go_loop [3, 11] (fun s i => ∃ k : Nat, k ≤ ps.length ∧ i = .int .i64 k ∧ s = .int .i64 ((upto ps k).length : Nat)) (fun _ i => ps.length - (intOf i).toNat)
  case atStart => exact ⟨0, by omega, rfl, rfl⟩
  case round =>
    obtain ⟨k, hk, rfl, rfl⟩ := hrel
    by_cases hlt : k < ps.length
    · obtain ⟨p, hx⟩ : ∃ p, ps[k]? = some p := ⟨_, List.getElem?_eq_getElem hlt⟩
      obtain ⟨b, off, rfl, hb, d0⟩ := HC.out k p hx
      obtain ⟨pv, pl⟩ := p
      obtain ⟨a1, c1, hpv, hq1, hq2⟩ := Ops.form (HP.out _ (List.mem_of_getElem? hx))
      simp only at hpv d0 hq1 hq2
      subst hpv
      have hm := upto_le ps (k + 1)
      rw [upto_succ hx, List.length_append] at hm
      have hss := HS.out
      simp only at hm
      have HX : Hid ((upto ps (k + 1)).length = (upto ps k).length + pl.length) := Lib.hid (by rw [upto_succ hx, List.length_append])
      obtain ⟨m, hmm⟩ : ∃ m, (upto ps k).length = m := ⟨_, rfl⟩
      rw [hmm] at hm HX ⊢
      have hw : IntKind.i64.wrap ((m : Int) + (pl.length : Int)) = (m : Int) + (pl.length : Int) := by rw [IntKind.wrap_i64]; omega
      have hneg : decide ((m : Int) + (pl.length : Int) < 0) = false := by simp; omega
      clear hmm
      go_wp2_with fail
      exact ⟨⟨k + 1, by omega, by go_num, by rw [HX.out]; push_cast; rfl⟩, by simp [intOf]; omega⟩
    · have hkn : k = ps.length := by omega
      subst hkn
      rw [upto_all ps (Nat.le_refl _)]
      obtain ⟨N, hN⟩ : ∃ N, (ps.flatMap (·.2)).length = N := ⟨_, rfl⟩
      have hNle : N ≤ 5000 := by rw [← hN]; exact HS.out
      rw [hN]
      have HN := Lib.hid hN; clear hN
      (go_wp2_with fail; go_fit (grow_walk N hNle w); rintro e w1 ⟨a1, c1, rfl, hown, hb1⟩)
      obtain ⟨i0, hi0, hz0, hs0, hb0⟩ := info3_parts
      have HO := Lib.hid hown; have HB1 := Lib.hid hb1
      clear hown hb1
      go_wp2_with fail
      go_loopw [6, 27] (fun r i wr => ∃ (k : Nat) (a' : Option Addr) (c' : Nat), k ≤ ps.length ∧ i = .int .i64 k ∧ r = .slice a' (upto ps k).length c' ∧ Hid (wr.ownsRow w.heap.size 93 3 (.slice a' (upto ps k).length c') (upto ps k).length ((upto ps k).flatMap oCells) ∧ Below w.heap.size w wr)) (fun _ i _ => ps.length - (intOf i).toNat)
      case atStart => exact ⟨0, a1, c1, by omega, rfl, rfl, Lib.hid ⟨HO.out, HB1.out⟩⟩
      case round =>
        obtain ⟨k, a2, c2, hk, rfl, rfl, HR⟩ := hrel
        by_cases hlt : k < ps.length
        · obtain ⟨p, hx⟩ : ∃ p, ps[k]? = some p := ⟨_, List.getElem?_eq_getElem hlt⟩
          obtain ⟨b, off, rfl, hb, d0⟩ := HC.out k p hx
          obtain ⟨pv, pl⟩ := p
          have hpo := (HP.out _ (List.mem_of_getElem? hx)).ext HR.out.2
          obtain ⟨a3, c3, hpv, hq1, hq2⟩ := Ops.form hpo
          simp only at hpv d0 hq1 hq2 hpo
          subst hpv
          have d1 : wr.cell? ⟨b, off + k, none⟩ = some (.slice a3 pl.length c3) := cell_later HR.out.2 d0
          have HSC := Lib.hid (Ops.src hpo)
          have hm := upto_le ps (k + 1)
          rw [HN.out, upto_succ hx, List.length_append] at hm
          simp only at hm
          have HX : Hid (upto ps (k + 1) = upto ps k ++ pl) := Lib.hid (by rw [upto_succ hx])
          obtain ⟨L, hL⟩ : ∃ L, upto ps k = L := ⟨_, rfl⟩
          rw [hL] at hm HX HR ⊢
          have HL := Lib.hid hL
          clear hL hx d0 hpo
          obtain ⟨m, hmm⟩ : ∃ m, L.length = m := ⟨_, rfl⟩
          rw [hmm] at hm HR ⊢
          have HM := Lib.hid hmm
          clear hmm
          obtain ⟨n, hnn⟩ : ∃ n, pl.length = n := ⟨_, rfl⟩
          have HPL : Hid ((pl.flatMap oCells).length = n * 3) := Lib.hid (by rw [flat3_len, hnn])
          have HNN := Lib.hid hnn
          rw [hnn] at hm d1 HSC hq1
          clear hnn
          go_wp2_with (first
            | (at_builtin; refine wpList_append_k rfl _ _ 65 rfl w.heap.size 93 i0 (.agg #[.string ⟨#[]⟩, .string ⟨#[]⟩, .int .i64 0]) 3 40 Tryz.underlying65 hi0 hz0 hs0 (by decide) hb0 rfl (.slice a2 m c2) m (L.flatMap oCells) rfl HR.out.1 a3 n c3 (pl.flatMap oCells) rfl HPL.out HSC.out (flat3_one _) (by unfold maxLen; omega) (by omega) HR.out.2.size (m + n) ((L ++ pl).flatMap oCells) rfl (by rw [List.flatMap_append]) ?_; intro a4 c4 w4 hown4 hgrow4 hat4
               have HO4 := Lib.hid hown4
               have HB4 := Lib.hid (HR.out.2.grown hgrow4 HR.out.2.size (own_base HR.out.1))
               clear hown4 hgrow4 hat4)
            | fail)
          exact ⟨⟨k + 1, a4, c4, by omega, by go_num, by rw [HX.out, List.length_append, HM.out, HNN.out], Lib.hid ⟨by rw [HX.out, List.length_append, HM.out, HNN.out]; exact HO4.out, HB4.out⟩⟩, by simp [intOf]; omega⟩
        · have hkk : ¬ (k : Int) < ps.length := by omega
          have HE : Hid (upto ps k = ps.flatMap (·.2)) := Lib.hid (upto_all ps (by omega))
          obtain ⟨m, hmm⟩ : ∃ m, (upto ps k).length = m := ⟨_, rfl⟩
          have HM := Lib.hid hmm
          rw [hmm]
          clear hmm
          go_wp2
          go_ret
          have hfin := HR.out.1
          have hbase := own_base hfin
          rw [HM.out] at hfin hbase
          refine ⟨.slice a2 m c2, rfl, Ops.owned (B := w.heap.size) ?_, HR.out.2, hbase⟩
          rw [← HE.out, HM.out]
          exact hfin
end Go.Proofs.YtaojalicnnnkmaaGreatDoor
/- Operators: alike: a row of them with names that come in. -/
namespace Go.Proofs.YtaojalicnnnkmaaGreatDoor
open Go.Shelf Go.RowKit

theorem strs_laid (w : World) (t : TypeId) (ss : List ByteArray) (n : Nat) (hn : ss.length = n) (h : n ≤ 100000) (hs : ∀ s ∈ ss, s.size ≤ 100000) : Strs (w.alloc (.cells (ss.map Value.string).toArray t)) (.slice (some ⟨w.heap.size, 0, none⟩) n n) ss := by
  subst hn
  refine ⟨_, _, rfl, Nat.le_refl _, by unfold maxLen; omega, by omega, fun s hm => by have := hs s hm; omega, Or.inr ⟨_, _, rfl, by simp, fun i x hx => ?_⟩⟩
  rw [World.cell?_alloc_at _ _ _ _ rfl]
  simp [hx]
theorem row_cell {w : World} {b t : Nat} {cs : Array Value} {fz : Nat × Nat} (h : w.heap[b]? = some (.cells cs t fz)) (i : Nat) : w.cell? ⟨b, i, none⟩ = cs[i]? := by simp [World.cell?, h]
theorem row_froz {w : World} {b t : Nat} {cs : Array Value} (h : w.heap[b]? = some (.cells cs t (0, 0))) (i : Nat) : w.frozen? ⟨b, i, none⟩ = false := by simp [World.frozen?, h]
theorem row_set {w : World} {b t : Nat} {cs : Array Value} (h : w.heap[b]? = some (.cells cs t (0, 0))) (j : Nat) (u : Value) : (w.setCell ⟨b, j, none⟩ u).heap[b]? = some (.cells (cs.setIfInBounds j u) t (0, 0)) := by
  have hb := (Array.getElem?_eq_some_iff.1 h).1
  simp [World.setCell, Array.getElem?_modify, h]
/-- The first of the row are these. -/
def RowAt (w : World) (g n : Nat) (L : List O) : Prop := ∃ cur, w.heap[g]? = some (.cells cur 93 (0, 0)) ∧ cur.size = n * 3 ∧ cur.toList.take (L.length * 3) = L.flatMap oCells
theorem RowAt.next {w : World} {g n : Nat} {L : List O} (h : RowAt w g n L) (hl : L.length < n) (x : O) :
    RowAt (((w.setCell ⟨g, L.length * 3, none⟩ (.string x.n)).setCell ⟨g, L.length * 3 + 1, none⟩ (.string x.k)).setCell ⟨g, L.length * 3 + 2, none⟩ (.int .i64 x.l)) g n (L ++ [x]) := by
  obtain ⟨cur, h1, h2, h3⟩ := h
  refine ⟨_, row_set (row_set (row_set h1 _ _) _ _) _ _, by simp [h2], ?_⟩
  have e : (L ++ [x]).length * 3 = L.length * 3 + 3 := by simp; omega
  rw [e, List.flatMap_append, ← h3]
  apply List.ext_getElem?
  intro i
  have hcs : cur.size = n * 3 := h2
  by_cases hi : i < L.length * 3
  · rw [List.getElem?_take, if_pos (by omega), List.getElem?_append_left (by simp; omega), List.getElem?_take, if_pos hi]
    simp only [Array.getElem?_toList]
    rw [Array.getElem?_setIfInBounds_ne (by omega), Array.getElem?_setIfInBounds_ne (by omega), Array.getElem?_setIfInBounds_ne (by omega)]
  · rw [List.getElem?_take]
    split
    · rename_i hlt
      rw [List.getElem?_append_right (by simp; omega)]
      simp only [Array.getElem?_toList, List.flatMap_cons, List.flatMap_nil, List.append_nil, List.length_take, Array.length_toList]
      rw [Nat.min_eq_left (by omega)]
      have hc : i = L.length * 3 ∨ i = L.length * 3 + 1 ∨ i = L.length * 3 + 2 := by omega
      rcases hc with rfl | rfl | rfl
      · rw [Array.getElem?_setIfInBounds_ne (by omega), Array.getElem?_setIfInBounds_ne (by omega), Array.getElem?_setIfInBounds_self_of_lt (by omega)]
        simp [oCells]
      · rw [Array.getElem?_setIfInBounds_ne (by omega), Array.getElem?_setIfInBounds_self_of_lt (by simp; omega)]
        simp [oCells]
      · rw [Array.getElem?_setIfInBounds_self_of_lt (by simp; omega)]
        simp [oCells]
    · rename_i hge
      symm
      rw [List.getElem?_eq_none]
      simp [oCells_len]
      omega
theorem RowAt.ops {w : World} {g n : Nat} {L : List O} (h : RowAt w g n L) (hl : L.length = n) (hn : n ≤ 100000) : Ops w (.slice (some ⟨g, 0, none⟩) n n) L := by
  obtain ⟨cur, h1, h2, h3⟩ := h
  subst hl
  refine Ops.owned (B := 0) ⟨by rw [flat3_len], Or.inr ⟨g, _, cur, rfl, Nat.zero_le _, h1, Nat.le_refl _, by unfold maxLen; omega, h2, h3⟩⟩

set_option maxHeartbeats 1000000 in
theorem alike_walk {w : World} {v : Value} {names : List ByteArray} (kind : ByteArray) (l : Int) (h : Strs w v names) (hn : names.length ≤ 1000) :
    Calls Tryz.prog 47 #[.string kind, .int .i64 l, v] w fun e w' => ∃ r, e = .returned r ∧ Ops w' r (names.map fun s => (⟨s, kind, l⟩ : O)) ∧ Below w.heap.size w w' := by
  obtain ⟨a, cap, rfl, h1, h2, _, _, h3⟩ := h
  have hc : ∀ (k : Nat) (s : ByteArray), names[k]? = some s → ∃ b off, a = some ⟨b, off, none⟩ ∧ b < w.heap.size ∧ w.cell? ⟨b, off + k, none⟩ = some (.string s) := fun k s hk => by
    rcases h3 with rfl | ⟨b, off, rfl, hb, hc⟩
    · simp at hk
    · exact ⟨b, off, rfl, hb, hc k s hk⟩
  have HC := Lib.hid hc; clear hc h3
  unfold maxLen at h2
  obtain ⟨i0, hi0, hz0, hs0, hb0⟩ := info3_parts
  obtain ⟨n, hnn⟩ : ∃ n, names.length = n := ⟨_, rfl⟩
  rw [hnn] at hn h1 ⊢
  have HN := Lib.hid hnn
  clear hnn
  have hmk := fun (w : World) => run_make (P := Tryz.prog) w 65 93 i0 _ Tryz.underlying65 hi0 hz0 .i64 .i64 (n : Int) (n : Int) (by omega) (Int.le_refl _) (by rw [hb0]; omega) (by omega)
  rw [Int.toNat_natCast, hs0] at hmk
  obtain ⟨Z, hZ⟩ : ∃ Z, madeCells (Value.agg #[.string ⟨#[]⟩, .string ⟨#[]⟩, .int .i64 0]).cells (n * 3) = Z := ⟨_, rfl⟩
  have HZ : Hid (Z.size = n * 3) := Lib.hid (by rw [← hZ, size_madeCells])
  rw [hZ] at hmk
  clear hZ
  have HW : Hid (RowAt (w.alloc (.cells Z 93)) w.heap.size n []) := Lib.hid ⟨Z, heap_alloc_new w _, HZ.out, by simp⟩
  go_enter Tryz.func47, Tryz.ntmps47
  go_wp2_with fail
  go_loopw [15] (fun i wr => ∃ k : Nat, k ≤ n ∧ i = .int .i64 k ∧ Hid (RowAt wr w.heap.size n ((names.take k).map fun s => (⟨s, kind, l⟩ : O)) ∧ Below w.heap.size w wr)) (fun i _ => n - (intOf i).toNat)
  case atStart => exact ⟨0, by omega, rfl, Lib.hid ⟨by simpa using HW.out, bel1' _ _⟩⟩
  case round =>
    obtain ⟨k, hk, rfl, HR⟩ := hrel
    by_cases hlt : k < n
    · obtain ⟨s, hx⟩ : ∃ s, names[k]? = some s := ⟨_, List.getElem?_eq_getElem (by rw [HN.out]; exact hlt)⟩
      obtain ⟨b, off, rfl, hb, d0⟩ := HC.out k s hx
      have d1 : wr.cell? ⟨b, off + k, none⟩ = some (.string s) := cell_later HR.out.2 d0
      clear d0
      have hL : ((names.take k).map fun s => (⟨s, kind, l⟩ : O)).length = k := by
        have := HN.out
        simp
        omega
      have HNX := HR.out.1.next (by rw [hL]; exact hlt) ⟨s, kind, l⟩
      rw [hL] at HNX
      have HX := Lib.hid HNX
      have HT : Hid ((names.take (k + 1)).map (fun s => (⟨s, kind, l⟩ : O)) = (names.take k).map (fun s => (⟨s, kind, l⟩ : O)) ++ [⟨s, kind, l⟩]) := Lib.hid (by rw [List.take_add_one, hx]; simp)
      obtain ⟨cur, hcur, hsz, _⟩ := HR.out.1
      have c0 : wr.cell? ⟨w.heap.size, k * 3, none⟩ = some (cur[k * 3]'(by omega)) := by rw [row_cell hcur]; exact Array.getElem?_eq_getElem _
      have c1 : wr.cell? ⟨w.heap.size, k * 3 + 1, none⟩ = some (cur[k * 3 + 1]'(by omega)) := by rw [row_cell hcur]; exact Array.getElem?_eq_getElem _
      have c2 : wr.cell? ⟨w.heap.size, k * 3 + 2, none⟩ = some (cur[k * 3 + 2]'(by omega)) := by rw [row_cell hcur]; exact Array.getElem?_eq_getElem _
      have f0 : ∀ j, wr.frozen? ⟨w.heap.size, j, none⟩ = false := fun j => row_froz hcur j
      generalize cur[k * 3]'(by omega) = x0 at c0
      generalize cur[k * 3 + 1]'(by omega) = x1 at c1
      generalize cur[k * 3 + 2]'(by omega) = x2 at c2
      clear HNX hL hx hcur hsz
      go_wp2_with fail
      exact ⟨⟨k + 1, by omega, by go_num, Lib.hid ⟨by rw [HT.out]; exact HX.out, ((HR.out.2.setCell (Nat.le_refl _) _).setCell (Nat.le_refl _) _).setCell (Nat.le_refl _) _⟩⟩, by simp [intOf]; omega⟩
    · have hkk : ¬ (k : Int) < n := by omega
      go_wp2
      go_ret
      refine ⟨_, rfl, ?_, HR.out.2⟩
      have := HR.out.1
      rw [List.take_of_length_le (by rw [HN.out]; omega)] at this
      exact this.ops (by rw [List.length_map, HN.out]) (by omega)
end Go.Proofs.YtaojalicnnnkmaaGreatDoor
/- Operators: the plain ones. -/
namespace Go.Proofs.YtaojalicnnnkmaaGreatDoor
open Go.Shelf Go.RowKit

abbrev xfx : ByteArray := ⟨#[120, 102, 120]⟩
abbrev xfy : ByteArray := ⟨#[120, 102, 121]⟩
abbrev yfx : ByteArray := ⟨#[121, 102, 120]⟩
abbrev fy : ByteArray := ⟨#[102, 121]⟩
def names1 : List ByteArray := [⟨#[58, 45]⟩]
def names2 : List ByteArray := [⟨#[59]⟩]
def names3 : List ByteArray := [⟨#[45, 62]⟩]
def names4 : List ByteArray := [⟨#[44]⟩]
def names5 : List ByteArray := [⟨#[92, 43]⟩]
def names6 : List ByteArray := [⟨#[61]⟩, ⟨#[92, 61]⟩, ⟨#[61, 61]⟩, ⟨#[92, 61, 61]⟩, ⟨#[64, 60]⟩, ⟨#[64, 62]⟩, ⟨#[64, 61, 60]⟩, ⟨#[64, 62, 61]⟩, ⟨#[61, 46, 46]⟩, ⟨#[105, 115]⟩, ⟨#[61, 58, 61]⟩, ⟨#[61, 92, 61]⟩, ⟨#[60]⟩, ⟨#[62]⟩, ⟨#[61, 60]⟩, ⟨#[62, 61]⟩]
def names7 : List ByteArray := [⟨#[43]⟩, ⟨#[45]⟩, ⟨#[47, 92]⟩, ⟨#[92, 47]⟩, ⟨#[120, 111, 114]⟩]
def names8 : List ByteArray := [⟨#[42]⟩, ⟨#[47, 47]⟩, ⟨#[109, 111, 100]⟩, ⟨#[114, 101, 109]⟩, ⟨#[62, 62]⟩, ⟨#[60, 60]⟩]
def names9 : List ByteArray := [⟨#[94]⟩]
def names10 : List ByteArray := [⟨#[45]⟩, ⟨#[92]⟩]
def alikeB (k : ByteArray) (l : Int) (ns : List ByteArray) : List O := ns.map fun s => ⟨s, k, l⟩
def opsB : List O := alikeB xfx 1200 names1 ++ alikeB xfy 1100 names2 ++ alikeB xfy 1050 names3 ++ alikeB xfy 1000 names4 ++ alikeB fy 900 names5 ++ alikeB xfx 700 names6 ++ alikeB yfx 500 names7 ++ alikeB yfx 400 names8 ++ alikeB xfy 200 names9 ++ alikeB fy 200 names10

theorem alike_at {w0 w : World} (hb : Below w0.heap.size w0 w) (ns : List ByteArray) (n : Nat) (hn : ns.length = n) (hs : n ≤ 100) (hz : ∀ s ∈ ns, s.size ≤ 100000) (k : ByteArray) (l : Int) :
    Calls Tryz.prog 47 #[.string k, .int .i64 l, .slice (some ⟨w.heap.size, 0, none⟩) n n] (w.alloc (.cells (ns.map Value.string).toArray 9)) fun e w' => ∃ a c, e = .returned (.slice a n c) ∧ Ops w' (.slice a n c) (alikeB k l ns) ∧ Below w.heap.size w w' ∧ Below w0.heap.size w0 w' := by
  refine (alike_walk k l (strs_laid w 9 ns n hn (by omega) hz) (by omega)).mono ?_
  rintro e w' ⟨r, rfl, h1, h2⟩
  have h3 : Below w.heap.size w w' := Below.trans (bel1' _ _) (h2.mono (by simp))
  obtain ⟨a, c, rfl, _⟩ := h1.form
  rw [List.length_map, hn] at h1 ⊢
  exact ⟨a, c, rfl, h1, h3, Ext.trans' hb h3⟩

theorem alike1 {w0 w : World} (hb : Below w0.heap.size w0 w) :
    Calls Tryz.prog 47 #[.string ⟨#[120, 102, 120]⟩, .int .i64 1200, .slice (some ⟨w.heap.size, 0, none⟩) 1 1] (w.alloc (.cells #[.string ⟨#[58, 45]⟩] 9)) fun e w' => ∃ a c, e = .returned (.slice a 1 c) ∧ Ops w' (.slice a 1 c) (alikeB xfx 1200 names1) ∧ Below w.heap.size w w' ∧ Below w0.heap.size w0 w' :=
  alike_at hb names1 1 rfl (by decide) (by decide) xfx 1200
theorem alike2 {w0 w : World} (hb : Below w0.heap.size w0 w) :
    Calls Tryz.prog 47 #[.string ⟨#[120, 102, 121]⟩, .int .i64 1100, .slice (some ⟨w.heap.size, 0, none⟩) 1 1] (w.alloc (.cells #[.string ⟨#[59]⟩] 9)) fun e w' => ∃ a c, e = .returned (.slice a 1 c) ∧ Ops w' (.slice a 1 c) (alikeB xfy 1100 names2) ∧ Below w.heap.size w w' ∧ Below w0.heap.size w0 w' :=
  alike_at hb names2 1 rfl (by decide) (by decide) xfy 1100
theorem alike3 {w0 w : World} (hb : Below w0.heap.size w0 w) :
    Calls Tryz.prog 47 #[.string ⟨#[120, 102, 121]⟩, .int .i64 1050, .slice (some ⟨w.heap.size, 0, none⟩) 1 1] (w.alloc (.cells #[.string ⟨#[45, 62]⟩] 9)) fun e w' => ∃ a c, e = .returned (.slice a 1 c) ∧ Ops w' (.slice a 1 c) (alikeB xfy 1050 names3) ∧ Below w.heap.size w w' ∧ Below w0.heap.size w0 w' :=
  alike_at hb names3 1 rfl (by decide) (by decide) xfy 1050
theorem alike4 {w0 w : World} (hb : Below w0.heap.size w0 w) :
    Calls Tryz.prog 47 #[.string ⟨#[120, 102, 121]⟩, .int .i64 1000, .slice (some ⟨w.heap.size, 0, none⟩) 1 1] (w.alloc (.cells #[.string ⟨#[44]⟩] 9)) fun e w' => ∃ a c, e = .returned (.slice a 1 c) ∧ Ops w' (.slice a 1 c) (alikeB xfy 1000 names4) ∧ Below w.heap.size w w' ∧ Below w0.heap.size w0 w' :=
  alike_at hb names4 1 rfl (by decide) (by decide) xfy 1000
theorem alike5 {w0 w : World} (hb : Below w0.heap.size w0 w) :
    Calls Tryz.prog 47 #[.string ⟨#[102, 121]⟩, .int .i64 900, .slice (some ⟨w.heap.size, 0, none⟩) 1 1] (w.alloc (.cells #[.string ⟨#[92, 43]⟩] 9)) fun e w' => ∃ a c, e = .returned (.slice a 1 c) ∧ Ops w' (.slice a 1 c) (alikeB fy 900 names5) ∧ Below w.heap.size w w' ∧ Below w0.heap.size w0 w' :=
  alike_at hb names5 1 rfl (by decide) (by decide) fy 900
theorem alike6 {w0 w : World} (hb : Below w0.heap.size w0 w) :
    Calls Tryz.prog 47 #[.string ⟨#[120, 102, 120]⟩, .int .i64 700, .slice (some ⟨w.heap.size, 0, none⟩) 16 16] (w.alloc (.cells #[.string ⟨#[61]⟩, .string ⟨#[92, 61]⟩, .string ⟨#[61, 61]⟩, .string ⟨#[92, 61, 61]⟩, .string ⟨#[64, 60]⟩, .string ⟨#[64, 62]⟩, .string ⟨#[64, 61, 60]⟩, .string ⟨#[64, 62, 61]⟩, .string ⟨#[61, 46, 46]⟩, .string ⟨#[105, 115]⟩, .string ⟨#[61, 58, 61]⟩, .string ⟨#[61, 92, 61]⟩, .string ⟨#[60]⟩, .string ⟨#[62]⟩, .string ⟨#[61, 60]⟩, .string ⟨#[62, 61]⟩] 9)) fun e w' => ∃ a c, e = .returned (.slice a 16 c) ∧ Ops w' (.slice a 16 c) (alikeB xfx 700 names6) ∧ Below w.heap.size w w' ∧ Below w0.heap.size w0 w' :=
  alike_at hb names6 16 rfl (by decide) (by decide) xfx 700
theorem alike7 {w0 w : World} (hb : Below w0.heap.size w0 w) :
    Calls Tryz.prog 47 #[.string ⟨#[121, 102, 120]⟩, .int .i64 500, .slice (some ⟨w.heap.size, 0, none⟩) 5 5] (w.alloc (.cells #[.string ⟨#[43]⟩, .string ⟨#[45]⟩, .string ⟨#[47, 92]⟩, .string ⟨#[92, 47]⟩, .string ⟨#[120, 111, 114]⟩] 9)) fun e w' => ∃ a c, e = .returned (.slice a 5 c) ∧ Ops w' (.slice a 5 c) (alikeB yfx 500 names7) ∧ Below w.heap.size w w' ∧ Below w0.heap.size w0 w' :=
  alike_at hb names7 5 rfl (by decide) (by decide) yfx 500
theorem alike8 {w0 w : World} (hb : Below w0.heap.size w0 w) :
    Calls Tryz.prog 47 #[.string ⟨#[121, 102, 120]⟩, .int .i64 400, .slice (some ⟨w.heap.size, 0, none⟩) 6 6] (w.alloc (.cells #[.string ⟨#[42]⟩, .string ⟨#[47, 47]⟩, .string ⟨#[109, 111, 100]⟩, .string ⟨#[114, 101, 109]⟩, .string ⟨#[62, 62]⟩, .string ⟨#[60, 60]⟩] 9)) fun e w' => ∃ a c, e = .returned (.slice a 6 c) ∧ Ops w' (.slice a 6 c) (alikeB yfx 400 names8) ∧ Below w.heap.size w w' ∧ Below w0.heap.size w0 w' :=
  alike_at hb names8 6 rfl (by decide) (by decide) yfx 400
theorem alike9 {w0 w : World} (hb : Below w0.heap.size w0 w) :
    Calls Tryz.prog 47 #[.string ⟨#[120, 102, 121]⟩, .int .i64 200, .slice (some ⟨w.heap.size, 0, none⟩) 1 1] (w.alloc (.cells #[.string ⟨#[94]⟩] 9)) fun e w' => ∃ a c, e = .returned (.slice a 1 c) ∧ Ops w' (.slice a 1 c) (alikeB xfy 200 names9) ∧ Below w.heap.size w w' ∧ Below w0.heap.size w0 w' :=
  alike_at hb names9 1 rfl (by decide) (by decide) xfy 200
theorem alike10 {w0 w : World} (hb : Below w0.heap.size w0 w) :
    Calls Tryz.prog 47 #[.string ⟨#[102, 121]⟩, .int .i64 200, .slice (some ⟨w.heap.size, 0, none⟩) 2 2] (w.alloc (.cells #[.string ⟨#[45]⟩, .string ⟨#[92]⟩] 9)) fun e w' => ∃ a c, e = .returned (.slice a 2 c) ∧ Ops w' (.slice a 2 c) (alikeB fy 200 names10) ∧ Below w.heap.size w w' ∧ Below w0.heap.size w0 w' :=
  alike_at hb names10 2 rfl (by decide) (by decide) fy 200
theorem parts_laid (w : World) (t : TypeId) (ps : List (Value × List O)) (n : Nat) (hn : ps.length = n) (h : n ≤ 100000) :
    Elems 1 (fun p => [p.1]) (w.alloc (.cells (ps.map (·.1)).toArray t)) (.slice (some ⟨w.heap.size, 0, none⟩) n n) ps := by
  subst hn
  refine ⟨_, _, rfl, Nat.le_refl _, by unfold maxLen; omega, Or.inr ⟨_, _, rfl, by simp, fun i x hx j u hu => ?_⟩⟩
  have hj : j = 0 := by have := (List.getElem?_eq_some_iff.1 hu).1; simp at this; exact this
  subst hj
  simp at hu
  subst hu
  rw [World.cell?_alloc_at _ _ _ _ rfl]
  simp [hx]
def parts (r1 r2 r3 r4 r5 r6 r7 r8 r9 r10 : Value) : List (Value × List O) := [(r1, alikeB xfx 1200 names1), (r2, alikeB xfy 1100 names2), (r3, alikeB xfy 1050 names3), (r4, alikeB xfy 1000 names4), (r5, alikeB fy 900 names5), (r6, alikeB xfx 700 names6), (r7, alikeB yfx 500 names7), (r8, alikeB yfx 400 names8), (r9, alikeB xfy 200 names9), (r10, alikeB fy 200 names10)]
theorem parts_flat (r1 r2 r3 r4 r5 r6 r7 r8 r9 r10 : Value) : (parts r1 r2 r3 r4 r5 r6 r7 r8 r9 r10).flatMap (·.2) = opsB := by
  simp only [parts, opsB, List.flatMap_cons, List.flatMap_nil, List.append_nil, List.append_assoc]
theorem plain_len : opsB.length = 35 := by decide +kernel
theorem parts_at (w : World) (r1 r2 r3 r4 r5 r6 r7 r8 r9 r10 : Value) : Elems 1 (fun p => [p.1]) (w.alloc (.cells #[r1, r2, r3, r4, r5, r6, r7, r8, r9, r10] 65)) (.slice (some ⟨w.heap.size, 0, none⟩) 10 10) (parts r1 r2 r3 r4 r5 r6 r7 r8 r9 r10) :=
  parts_laid w 65 (parts r1 r2 r3 r4 r5 r6 r7 r8 r9 r10) 10 rfl (by decide)
theorem concat_plain {w : World} {r1 r2 r3 r4 r5 r6 r7 r8 r9 r10 : Value} {v : Value} (h : Elems 1 (fun p => [p.1]) w v (parts r1 r2 r3 r4 r5 r6 r7 r8 r9 r10)) (hp : ∀ p ∈ parts r1 r2 r3 r4 r5 r6 r7 r8 r9 r10, Ops w p.1 p.2) :
    Calls Tryz.prog 46 #[v] w fun e w' => ∃ r, e = .returned r ∧ Ops w' r opsB ∧ Below w.heap.size w w' ∧ (∀ k, r.ownBlock = some k → w.heap.size ≤ k) := by
  have := concat_walk h hp (by simp [parts]) (by rw [parts_flat, plain_len]; omega)
  rw [parts_flat] at this
  exact this
set_option maxRecDepth 100000
set_option maxHeartbeats 1000000 in
theorem plain_walk (w : World) : Calls Tryz.prog 29 #[] w fun e w' => ∃ v, e = .returned (.agg #[v]) ∧ Ops w' v opsB ∧ Below w.heap.size w w' := by
  have hA := alike1 (w0 := w.alloc (.cells #[.slice none 0 0] 67)) (Below.refl _ _)
  have hsz : (w.alloc (.cells #[.slice none 0 0] 67)).heap.size = w.heap.size + 1 := by simp
  rw [hsz] at hA
  have HA := Lib.hid hA
  clear hA hsz
  go_enter Tryz.func29, Tryz.ntmps29
  (go_wp2_with fail; go_fit (HA.out); rintro e w1 ⟨a1, c1, rfl, h1, _, hb1⟩)
  have H1 := Lib.hid h1
  have HB1 : Hid (Below (w.alloc (.cells #[.slice none 0 0] 67)).heap.size (w.alloc (.cells #[.slice none 0 0] 67)) w1) := Lib.hid (by simpa using hb1)
  clear h1 hb1
  (go_wp2_with fail; go_fit (alike2 HB1.out); rintro e w2 ⟨a2, c2, rfl, h2, hc2, hb2⟩)
  have H2 := Lib.hid h2; have HC2 := Lib.hid hc2; have HB2 := Lib.hid hb2
  clear h2 hc2 hb2
  (go_wp2_with fail; go_fit (alike3 HB2.out); rintro e w3 ⟨a3, c3, rfl, h3, hc3, hb3⟩)
  have H3 := Lib.hid h3; have HC3 := Lib.hid hc3; have HB3 := Lib.hid hb3
  clear h3 hc3 hb3
  (go_wp2_with fail; go_fit (alike4 HB3.out); rintro e w4 ⟨a4, c4, rfl, h4, hc4, hb4⟩)
  have H4 := Lib.hid h4; have HC4 := Lib.hid hc4; have HB4 := Lib.hid hb4
  clear h4 hc4 hb4
  (go_wp2_with fail; go_fit (alike5 HB4.out); rintro e w5 ⟨a5, c5, rfl, h5, hc5, hb5⟩)
  have H5 := Lib.hid h5; have HC5 := Lib.hid hc5; have HB5 := Lib.hid hb5
  clear h5 hc5 hb5
  (go_wp2_with fail; go_fit (alike6 HB5.out); rintro e w6 ⟨a6, c6, rfl, h6, hc6, hb6⟩)
  have H6 := Lib.hid h6; have HC6 := Lib.hid hc6; have HB6 := Lib.hid hb6
  clear h6 hc6 hb6
  (go_wp2_with fail; go_fit (alike7 HB6.out); rintro e w7 ⟨a7, c7, rfl, h7, hc7, hb7⟩)
  have H7 := Lib.hid h7; have HC7 := Lib.hid hc7; have HB7 := Lib.hid hb7
  clear h7 hc7 hb7
  (go_wp2_with fail; go_fit (alike8 HB7.out); rintro e w8 ⟨a8, c8, rfl, h8, hc8, hb8⟩)
  have H8 := Lib.hid h8; have HC8 := Lib.hid hc8; have HB8 := Lib.hid hb8
  clear h8 hc8 hb8
  (go_wp2_with fail; go_fit (alike9 HB8.out); rintro e w9 ⟨a9, c9, rfl, h9, hc9, hb9⟩)
  have H9 := Lib.hid h9; have HC9 := Lib.hid hc9; have HB9 := Lib.hid hb9
  clear h9 hc9 hb9
  (go_wp2_with fail; go_fit (alike10 HB9.out); rintro e w10 ⟨a10, c10, rfl, h10, hc10, hb10⟩)
  have H10 := Lib.hid h10; have HC10 := Lib.hid hc10; have HB10 := Lib.hid hb10
  clear h10 hc10 hb10
  have O10 := Lib.hid H10.out
  have O1 := Lib.hid (((((((((H1.out.ext HC2.out).ext HC3.out).ext HC4.out).ext HC5.out).ext HC6.out).ext HC7.out).ext HC8.out).ext HC9.out).ext HC10.out)
  have O2 := Lib.hid ((((((((H2.out.ext HC3.out).ext HC4.out).ext HC5.out).ext HC6.out).ext HC7.out).ext HC8.out).ext HC9.out).ext HC10.out)
  have O3 := Lib.hid (((((((H3.out.ext HC4.out).ext HC5.out).ext HC6.out).ext HC7.out).ext HC8.out).ext HC9.out).ext HC10.out)
  have O4 := Lib.hid ((((((H4.out.ext HC5.out).ext HC6.out).ext HC7.out).ext HC8.out).ext HC9.out).ext HC10.out)
  have O5 := Lib.hid (((((H5.out.ext HC6.out).ext HC7.out).ext HC8.out).ext HC9.out).ext HC10.out)
  have O6 := Lib.hid ((((H6.out.ext HC7.out).ext HC8.out).ext HC9.out).ext HC10.out)
  have O7 := Lib.hid (((H7.out.ext HC8.out).ext HC9.out).ext HC10.out)
  have O8 := Lib.hid ((H8.out.ext HC9.out).ext HC10.out)
  have O9 := Lib.hid (H9.out.ext HC10.out)
  clear HA H1 H2 H3 H4 H5 H6 H7 H8 H9 H10 HC2 HC3 HC4 HC5 HC6 HC7 HC8 HC9 HC10 HB1 HB2 HB3 HB4 HB5 HB6 HB7 HB8 HB9
  have hpl := parts_at w10 (.slice a1 1 c1) (.slice a2 1 c2) (.slice a3 1 c3) (.slice a4 1 c4) (.slice a5 1 c5) (.slice a6 16 c6) (.slice a7 5 c7) (.slice a8 6 c8) (.slice a9 1 c9) (.slice a10 2 c10)
  have HPL := Lib.hid hpl
  clear hpl
  have HPO : Hid (∀ p ∈ (parts (.slice a1 1 c1) (.slice a2 1 c2) (.slice a3 1 c3) (.slice a4 1 c4) (.slice a5 1 c5) (.slice a6 16 c6) (.slice a7 5 c7) (.slice a8 6 c8) (.slice a9 1 c9) (.slice a10 2 c10)), Ops (w10.alloc (.cells #[.slice a1 1 c1, .slice a2 1 c2, .slice a3 1 c3, .slice a4 1 c4, .slice a5 1 c5, .slice a6 16 c6, .slice a7 5 c7, .slice a8 6 c8, .slice a9 1 c9, .slice a10 2 c10] 65)) p.1 p.2) := Lib.hid (by
    intro p hp
    simp only [parts, List.mem_cons, List.not_mem_nil, or_false] at hp
    rcases hp with rfl | rfl | rfl | rfl | rfl | rfl | rfl | rfl | rfl | rfl
    
    · exact O1.out.ext (bel1' _ _)
    · exact O2.out.ext (bel1' _ _)
    · exact O3.out.ext (bel1' _ _)
    · exact O4.out.ext (bel1' _ _)
    · exact O5.out.ext (bel1' _ _)
    · exact O6.out.ext (bel1' _ _)
    · exact O7.out.ext (bel1' _ _)
    · exact O8.out.ext (bel1' _ _)
    · exact O9.out.ext (bel1' _ _)
    · exact O10.out.ext (bel1' _ _))
  (go_wp2_with fail; go_fit (concat_plain HPL.out HPO.out); rintro e w11 ⟨r, rfl, h11, hb11, hf11⟩)
  obtain ⟨ar, cr, rfl, _⟩ := h11.form
  have hpl : opsB.length = 35 := plain_len
  rw [hpl] at h11 ⊢
  clear hpl
  have HO := Lib.hid h11
  have hbw : Below (w.alloc (.cells #[.slice none 0 0] 67)).heap.size (w.alloc (.cells #[.slice none 0 0] 67)) w11 := Ext.trans' (Ext.trans' HB10.out (bel1' _ _)) hb11
  have e1 : w11.cell? ⟨w.heap.size, 0, none⟩ = some (.slice none 0 0) := cell_later hbw (by simp)
  have f1 : w11.frozen? ⟨w.heap.size, 0, none⟩ = false := (hbw.frozen (p := ⟨w.heap.size, 0, none⟩) (by simp)).trans (by simp)
  have HBW := Lib.hid (Below.trans (bel1' w _) (hbw.mono (by simp)))
  have HF := Lib.hid hf11
  have HS10 : Hid (w.heap.size + 1 ≤ w10.heap.size) := Lib.hid (by have := HB10.out.size; simpa using this)
  clear hbw hb11 h11 hf11
  go_wp2
  (try simp only [Exit.inBlock, Exit.then])
  refine bodyPost_ret (v := .agg #[.slice ar 35 cr]) (by simp [results, Tryz.f29]; go_simp) rfl ⟨_, rfl, ?_, ?_⟩
  · refine HO.out.set _ _ (fun h => ?_)
    have h' := HF.out _ h
    simp at h'
    have := HS10.out
    omega
  · exact HBW.out.setCell (Nat.le_refl _) _
end Go.Proofs.YtaojalicnnnkmaaGreatDoor
/- A region that draws its order, walked operation by operation while a condition holds. Nothing here speaks of one program. -/
namespace Go
section
variable {P : Program} {md : Region.Mode} {ops : Array Oper} {Q : Exit → Act → World → Prop} {S : World → Prop}
theorem held_t {i : Nat} {oi : Oper} {fuel : Nat} {listed : Array Bool} {a : Act} {w : World} (hS : S w)
    (h : ∃ v, (∀ w, S w → (execOp a.eval oi).run P w = .ok (.value v) w) ∧ wpAnyH P md ops Q S fuel (listed.setIfInBounds i true) (a.put oi.dst v) w)
    (hi : ops[i]? = some oi := by simp only [List.getElem?_toArray, List.getElem?_cons_zero, List.getElem?_cons_succ]; rfl)
    (hs : Region.noSelect ops = true := by kernel_rfl) (hf : Region.free md ops listed i = true := by kernel_rfl) (hr : (Region.ready md ops listed).contains i = true := by kernel_rfl) (hw : Region.wanted oi (yielded ops a.tmps) = true := by rfl)
    (hQ : ∀ v c a w, Q (.panic c) (a.put oi.dst v) w → Q (.panic c) a w := by exact fun _ _ _ _ h => h) : wpAnyH P md ops Q S (fuel + 1) listed a w := by
  obtain ⟨v, h1, h2⟩ := h
  exact wpAnyH_take hi hs hf hr (hQ v) (Or.inl ⟨hw, h1⟩) hS h2
theorem held_s {i : Nat} {oi : Oper} {fuel : Nat} {listed : Array Bool} {a : Act} {w : World} (hS : S w) (h : wpAnyH P md ops Q S fuel (listed.setIfInBounds i true) (a.put oi.dst undef) w)
    (hi : ops[i]? = some oi := by simp only [List.getElem?_toArray, List.getElem?_cons_zero, List.getElem?_cons_succ]; rfl)
    (hs : Region.noSelect ops = true := by kernel_rfl) (hf : Region.free md ops listed i = true := by kernel_rfl) (hr : (Region.ready md ops listed).contains i = true := by kernel_rfl) (hw : Region.wanted oi (yielded ops a.tmps) = false := by rfl)
    (hQ : ∀ c a w, Q (.panic c) (a.put oi.dst undef) w → Q (.panic c) a w := by exact fun _ _ _ h => h) : wpAnyH P md ops Q S (fuel + 1) listed a w :=
  wpAnyH_take hi hs hf hr hQ (Or.inr ⟨hw, rfl⟩) hS h
theorem held_c (i : Nat) {o : Oper} {fuel : Nat} {listed : Array Bool} {a : Act} {w : World}
    (h : ∀ K' : Act → World → Prop, Shut (∀ a w, S w → (S w → wpAnyH P md ops Q S fuel (listed.setIfInBounds i true) a w) → K' a w) → if Region.wanted o (yielded ops a.tmps) = true then Oper.wp P o a w K' Q else K' (a.put o.dst undef) w)
    (hr : Region.ready md ops listed = [i] := by kernel_rfl) (hi : ops[i]? = some o := by simp only [List.getElem?_toArray, List.getElem?_cons_zero, List.getElem?_cons_succ]; rfl) : wpAnyH P md ops Q S (fuel + 1) listed a w :=
  wpAnyH_ready hr (by simp) (AllReadyH.cons hi h AllReadyH.nil)
end
end Go
