/- Operators: the one of a name and side: Pre, In. -/
import Derived.Test.YthalpdjnclfleaaOpC
import Derived.Laws.ResultCell
namespace Go.Proofs.Ythalpdjnclfleaa
open Go.Shelf Go.RowKit

theorem place_cases (xs : List O) (n : List UInt8) (s : Int) :
    (placeB xs n s = -1 ∧ ∀ (j : Nat) (y : O), xs[j]? = some y → isAt n s y = false) ∨
    (∃ (k : Nat) (x : O), placeB xs n s = k ∧ xs[k]? = some x ∧ isAt n s x = true ∧ ∀ (j : Nat) (y : O), j < k → xs[j]? = some y → isAt n s y = false) := by
  suffices h : ∀ (xs : List O) (i : Nat), (Lib.idxByFrom (fun _ y => isAt n s y) default xs i = -1 ∧ ∀ (j : Nat) (y : O), xs[j]? = some y → isAt n s y = false) ∨
      (∃ (k : Nat) (x : O), Lib.idxByFrom (fun _ y => isAt n s y) default xs i = ((i + k : Nat) : Int) ∧ xs[k]? = some x ∧ isAt n s x = true ∧ ∀ (j : Nat) (y : O), j < k → xs[j]? = some y → isAt n s y = false) by
    rcases h xs 0 with h | ⟨k, x, h1, h2⟩
    · exact Or.inl h
    · exact Or.inr ⟨k, x, by rw [Nat.zero_add] at h1; exact h1, h2⟩
  intro xs
  induction xs with
  | nil => intro i; exact Or.inl ⟨rfl, fun j y h => by simp at h⟩
  | cons a r ih =>
    intro i
    cases ha : isAt n s a
    · rcases ih (i + 1) with ⟨h1, h2⟩ | ⟨k, x, h1, h2, h3, h4⟩
      · refine Or.inl ⟨by simp only [Lib.idxByFrom, ha]; exact h1, fun j y hy => ?_⟩
        cases j with
        | zero => simp at hy; rw [← hy]; exact ha
        | succ j => exact h2 j y (by simpa using hy)
      · refine Or.inr ⟨k + 1, x, by simp only [Lib.idxByFrom, ha]; rw [show i + (k + 1) = i + 1 + k by omega]; exact h1, by simpa using h2, h3, fun j y hj hy => ?_⟩
        cases j with
        | zero => simp at hy; rw [← hy]; exact ha
        | succ j => exact h4 j y (by omega) (by simpa using hy)
    · exact Or.inr ⟨0, a, by simp [Lib.idxByFrom, ha], rfl, ha, fun j y hj => by omega⟩

/-- The one of that name and side, of a good table. -/
def oneB (xs : List O) (n : List UInt8) (s : Int) : O × Bool :=
  if decide (placeB xs n s < 0) || !goodB xs then (default, false) else (xs[(placeB xs n s).toNat]!, true)

set_option maxHeartbeats 1000000 in
theorem one_walk {w : World} {v : Value} {xs : List O} (h : Ops w v xs) (n : ByteArray) (s : Int) :
    Calls Try.prog 23 #[.agg #[v], .string n, .int .i64 s] w fun e w' => e = .returned (.tuple #[oVal (oneB xs (bl n) s).1, .bool (oneB xs (bl n) s).2]) ∧ Below w.heap.size w w' := by
  obtain ⟨a, c, rfl, hl1, hl2⟩ := h.form
  unfold maxLen at hl2
  have H := Lib.hid h
  have HP := Lib.hid (fun (wq : World) (hq : Below w.heap.size w wq) => place_walk (h.ext hq) n s)
  have HG := Lib.hid (fun (wq : World) (hq : Below w.heap.size w wq) => good_walk (h.ext hq))
  clear h
  rcases place_cases xs (bl n) s with ⟨hm, _⟩ | ⟨k, x, hm, hx, _, _⟩
  · have hE : oneB xs (bl n) s = (default, false) := by unfold oneB; rw [hm]; rfl
    rw [hE]; clear hE
    rw [hm] at HP
    clear hm
    go_enter Try.func23, Try.ntmps23
    (go_wp2_with fail; go_fit (HP.out _ ((bel1' _ _).trans ((bel1' _ _).mono (by simp)))); rintro e w1 ⟨rfl, hb⟩)
    have c0 : w1.cell? ⟨w.heap.size, 0, none⟩ = some (.slice a xs.length c) := cell_later hb (by simp)
    have c1 : w1.cell? ⟨w.heap.size + 1, 0, none⟩ = some (.string ⟨#[]⟩) := cell_later hb (by simp)
    have c2 : w1.cell? ⟨w.heap.size + 1, 1, none⟩ = some (.string ⟨#[]⟩) := cell_later hb (by simp)
    have c3 : w1.cell? ⟨w.heap.size + 1, 2, none⟩ = some (.int .i64 0) := cell_later hb (by simp)
    have f1 : ∀ j, w1.frozen? ⟨w.heap.size + 1, j, none⟩ = false := fun j => (hb.frozen (p := ⟨w.heap.size + 1, j, none⟩) (by simp)).trans (by simp)
    have hbw : Below w.heap.size w w1 := Below.trans ((bel1' _ _).trans ((bel1' _ _).mono (by simp))) (hb.mono (by simp; omega))
    have HB := Lib.hid hb; clear hb
    have HW := Lib.hid hbw; clear hbw
    go_wp2
    (try simp only [Exit.inBlock, Exit.then])
    refine bodyPost_ret (v := .tuple #[.agg #[.string ⟨#[]⟩, .string ⟨#[]⟩, .int .i64 0], .bool false]) (by rw [results_cell_tmp rfl]; go_simp) rfl ⟨rfl, ?_⟩
    repeat' (first | exact HW.out | refine Below.setCell ?_ (by simp) _)
  · have hk := (List.getElem?_eq_some_iff.1 hx).1
    obtain ⟨b, off, rfl, hbs, d0, d1, d2⟩ := Ops.cells H.out hx
    have hE : oneB xs (bl n) s = if goodB xs then (x, true) else (default, false) := by
      unfold oneB
      rw [hm]
      have h1 : ¬ ((k : Int) < 0) := by omega
      have h2 : xs[(k : Int).toNat]! = x := by rw [Int.toNat_natCast, List.getElem!_eq_getElem?_getD, hx]; rfl
      rw [h2]
      simp only [h1, decide_false, Bool.false_or]
      cases goodB xs <;> rfl
    rw [hE]; clear hE
    rw [hm] at HP
    rcases x with ⟨yn, yk, yl⟩
    simp only at d0 d1 d2
    obtain ⟨g, hg⟩ : ∃ g, goodB xs = g := ⟨_, rfl⟩
    rw [hg] at HG ⊢
    have HD := Lib.hid (And.intro d0 (And.intro d1 d2))
    clear hg hm hx d0 d1 d2
    have hkk : (k : Int) < xs.length := by omega
    have hk0 : ((k : Int) < 0) = False := by simp
    go_enter Try.func23, Try.ntmps23
    (go_wp2_with fail; go_fit (HP.out _ ((bel1' _ _).trans ((bel1' _ _).mono (by simp)))); rintro e w1 ⟨rfl, hb⟩)
    have c0 : w1.cell? ⟨w.heap.size, 0, none⟩ = some (.slice (some ⟨b, off, none⟩) xs.length c) := cell_later hb (by simp)
    have c1 : w1.cell? ⟨w.heap.size + 1, 0, none⟩ = some (.string ⟨#[]⟩) := cell_later hb (by simp)
    have c2 : w1.cell? ⟨w.heap.size + 1, 1, none⟩ = some (.string ⟨#[]⟩) := cell_later hb (by simp)
    have c3 : w1.cell? ⟨w.heap.size + 1, 2, none⟩ = some (.int .i64 0) := cell_later hb (by simp)
    have f1 : ∀ j, w1.frozen? ⟨w.heap.size + 1, j, none⟩ = false := fun j => (hb.frozen (p := ⟨w.heap.size + 1, j, none⟩) (by simp)).trans (by simp)
    have hbw : Below w.heap.size w w1 := Below.trans ((bel1' _ _).trans ((bel1' _ _).mono (by simp))) (hb.mono (by simp; omega))
    have HB := Lib.hid hb; clear hb
    have HW := Lib.hid hbw; clear hbw
    (go_wp2_with fail; go_fit (HG.out w1 HW.out); rintro e w2 ⟨rfl, hb2⟩)
    have e0 : w2.cell? ⟨w.heap.size, 0, none⟩ = some (.slice (some ⟨b, off, none⟩) xs.length c) := cell_later hb2 c0
    have e1 : w2.cell? ⟨w.heap.size + 1, 0, none⟩ = some (.string ⟨#[]⟩) := cell_later hb2 c1
    have e2 : w2.cell? ⟨w.heap.size + 1, 1, none⟩ = some (.string ⟨#[]⟩) := cell_later hb2 c2
    have e3 : w2.cell? ⟨w.heap.size + 1, 2, none⟩ = some (.int .i64 0) := cell_later hb2 c3
    have f2 : ∀ j, w2.frozen? ⟨w.heap.size + 1, j, none⟩ = false := fun j => (hb2.frozen (p := ⟨w.heap.size + 1, j, none⟩) (by have := HB.out.size; simp at this; simp; omega)).trans (f1 j)
    have HW2 := Lib.hid (Ext.trans' HW.out hb2)
    clear hb2 c0 c1 c2 c3 f1
    cases g
    · go_wp2
      (try simp only [Exit.inBlock, Exit.then])
      refine bodyPost_ret (v := .tuple #[.agg #[.string ⟨#[]⟩, .string ⟨#[]⟩, .int .i64 0], .bool false]) (by rw [results_cell_tmp rfl]; go_simp) rfl ⟨rfl, ?_⟩
      repeat' (first | exact HW2.out | refine Below.setCell ?_ (by simp) _)
    · have d0 : w2.cell? ⟨b, off + k * 3, none⟩ = some (.string yn) := cell_later HW2.out HD.out.1
      have d1 : w2.cell? ⟨b, off + k * 3 + 1, none⟩ = some (.string yk) := cell_later HW2.out HD.out.2.1
      have d2 : w2.cell? ⟨b, off + k * 3 + 2, none⟩ = some (.int .i64 yl) := cell_later HW2.out HD.out.2.2
      go_wp2
      (try simp only [Exit.inBlock, Exit.then])
      refine bodyPost_ret (v := .tuple #[.agg #[.string yn, .string yk, .int .i64 yl], .bool true]) (by rw [results_cell_tmp rfl]; go_simp) rfl ⟨rfl, ?_⟩
      repeat' (first | exact HW2.out | refine Below.setCell ?_ (by simp) _)

theorem pre_walk {w : World} {v : Value} {xs : List O} (h : Ops w v xs) (n : ByteArray) :
    Calls Try.prog 9 #[.agg #[v], .string n] w fun e w' => e = .returned (.tuple #[oVal (oneB xs (bl n) 1).1, .bool (oneB xs (bl n) 1).2]) ∧ Below w.heap.size w w' := by
  have HO := Lib.hid (fun (wq : World) (hq : Below w.heap.size w wq) => one_walk (h.ext hq) n 1)
  clear h
  generalize oneB xs (bl n) 1 = r at HO ⊢
  obtain ⟨⟨yn, yk, yl⟩, g⟩ := r
  go_enter Try.func9, Try.ntmps9
  (go_wp2_with fail; go_fit (HO.out _ ((bel1' _ _).trans ((bel1' _ _).mono (by simp)))); rintro e w1 ⟨rfl, hb⟩)
  have c1 : w1.cell? ⟨w.heap.size + 1, 0, none⟩ = some (.string ⟨#[]⟩) := cell_later hb (by simp)
  have c2 : w1.cell? ⟨w.heap.size + 1, 1, none⟩ = some (.string ⟨#[]⟩) := cell_later hb (by simp)
  have c3 : w1.cell? ⟨w.heap.size + 1, 2, none⟩ = some (.int .i64 0) := cell_later hb (by simp)
  have f1 : ∀ j, w1.frozen? ⟨w.heap.size + 1, j, none⟩ = false := fun j => (hb.frozen (p := ⟨w.heap.size + 1, j, none⟩) (by simp)).trans (by simp)
  have HW : Hid (Below w.heap.size w w1) := Lib.hid (Below.trans ((bel1' _ _).trans ((bel1' _ _).mono (by simp))) (hb.mono (by simp; omega)))
  clear hb
  go_wp2
  (try simp only [Exit.inBlock, Exit.then])
  refine bodyPost_ret (v := .tuple #[.agg #[.string yn, .string yk, .int .i64 yl], .bool g]) (by rw [results_cell_tmp rfl]; go_simp) rfl ⟨rfl, ?_⟩
  repeat' (first | exact HW.out | refine Below.setCell ?_ (by simp) _)
theorem in_walk {w : World} {v : Value} {xs : List O} (h : Ops w v xs) (n : ByteArray) :
    Calls Try.prog 10 #[.agg #[v], .string n] w fun e w' => e = .returned (.tuple #[oVal (oneB xs (bl n) 2).1, .bool (oneB xs (bl n) 2).2]) ∧ Below w.heap.size w w' := by
  have HO := Lib.hid (fun (wq : World) (hq : Below w.heap.size w wq) => one_walk (h.ext hq) n 2)
  clear h
  generalize oneB xs (bl n) 2 = r at HO ⊢
  obtain ⟨⟨yn, yk, yl⟩, g⟩ := r
  go_enter Try.func10, Try.ntmps10
  (go_wp2_with fail; go_fit (HO.out _ ((bel1' _ _).trans ((bel1' _ _).mono (by simp)))); rintro e w1 ⟨rfl, hb⟩)
  have c1 : w1.cell? ⟨w.heap.size + 1, 0, none⟩ = some (.string ⟨#[]⟩) := cell_later hb (by simp)
  have c2 : w1.cell? ⟨w.heap.size + 1, 1, none⟩ = some (.string ⟨#[]⟩) := cell_later hb (by simp)
  have c3 : w1.cell? ⟨w.heap.size + 1, 2, none⟩ = some (.int .i64 0) := cell_later hb (by simp)
  have f1 : ∀ j, w1.frozen? ⟨w.heap.size + 1, j, none⟩ = false := fun j => (hb.frozen (p := ⟨w.heap.size + 1, j, none⟩) (by simp)).trans (by simp)
  have HW : Hid (Below w.heap.size w w1) := Lib.hid (Below.trans ((bel1' _ _).trans ((bel1' _ _).mono (by simp))) (hb.mono (by simp; omega)))
  clear hb
  go_wp2
  (try simp only [Exit.inBlock, Exit.then])
  refine bodyPost_ret (v := .tuple #[.agg #[.string yn, .string yk, .int .i64 yl], .bool g]) (by rw [results_cell_tmp rfl]; go_simp) rfl ⟨rfl, ?_⟩
  repeat' (first | exact HW.out | refine Below.setCell ?_ (by simp) _)
end Go.Proofs.Ythalpdjnclfleaa
