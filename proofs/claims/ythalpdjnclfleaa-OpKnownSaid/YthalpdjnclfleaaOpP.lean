/- The document's own: the first of a name, the sides, alike lists, the table as its own, good tables. -/
import Derived.Test.YthalpdjnclfleaaOpO
import Derived.Test.YthalpdjnclfleaaOpE
import Derived.Deep.RegionHeld3
namespace Go.Proofs.Ythalpdjnclfleaa
open Go.Shelf Go.RowKit

def isR (n : List UInt8) (bt : Bool) (y : O) : Bool := (bl y.n == n) && (betB (bl y.k) == bt)
def findB (xs : List O) (n : List UInt8) (bt : Bool) : Int := Lib.idxBy (fun _ y => isR n bt y) xs default
theorem idx_from (p : O → Bool) : ∀ (xs : List O) (i : Nat), (Lib.idxByFrom (fun _ y => p y) default xs i = -1 ∧ ∀ (j : Nat) (y : O), xs[j]? = some y → p y = false) ∨
    (∃ (k : Nat) (x : O), Lib.idxByFrom (fun _ y => p y) default xs i = ((i + k : Nat) : Int) ∧ xs[k]? = some x ∧ p x = true ∧ ∀ (j : Nat) (y : O), j < k → xs[j]? = some y → p y = false) := by
  intro xs
  induction xs with
  | nil => intro i; exact Or.inl ⟨rfl, fun j y h => by simp at h⟩
  | cons a r ih =>
    intro i
    cases ha : p a
    · rcases ih (i + 1) with ⟨h1, h2⟩ | ⟨k, x, h1, h2, h3, h4⟩
      · refine Or.inl ⟨by simp only [Lib.idxByFrom, ha]; exact h1, fun j y hy => ?_⟩
        cases j with
        | zero => simp at hy; rw [← hy]; exact ha
        | succ j => exact h2 j y (by simpa using hy)
      · refine Or.inr ⟨k + 1, x, by simp only [Lib.idxByFrom, ha]; rw [show i + (k + 1) = i + 1 + k by omega]; exact h1, by simpa using h2, h3, fun j y hj hy => ?_⟩
        cases j with
        | zero => simp at hy; rw [← hy]; exact ha
        | succ j => exact h4 j y (by omega) (by simpa using hy)
    · exact Or.inr ⟨0, a, by simp [Lib.idxByFrom, ha], rfl, ha, fun j y hj => by omega⟩
theorem find_cases (xs : List O) (n : List UInt8) (bt : Bool) : (findB xs n bt = -1 ∧ ∀ (j : Nat) (y : O), xs[j]? = some y → isR n bt y = false) ∨
    (∃ (k : Nat) (x : O), findB xs n bt = k ∧ xs[k]? = some x ∧ isR n bt x = true ∧ ∀ (j : Nat) (y : O), j < k → xs[j]? = some y → isR n bt y = false) := by
  rcases idx_from (isR n bt) xs 0 with h | ⟨k, x, h1, h2⟩
  · exact Or.inl h
  · exact Or.inr ⟨k, x, by rw [Nat.zero_add] at h1; exact h1, h2⟩
theorem find_hit {xs : List O} {n : List UInt8} {bt : Bool} {k : Nat} {x : O} (hx : xs[k]? = some x) (h : isR n bt x = true) (hno : ∀ (j : Nat) (y : O), j < k → xs[j]? = some y → isR n bt y = false) : findB xs n bt = k := by
  rcases find_cases xs n bt with ⟨_, h2⟩ | ⟨m, y, h1, h2, h3, h4⟩
  · rw [h2 k x hx] at h; cases h
  · rcases Nat.lt_trichotomy m k with hlt | rfl | hlt
    · rw [hno m y hlt h2] at h3; cases h3
    · exact h1
    · rw [h4 k x hlt hx] at h; cases h
theorem find_miss {xs : List O} {n : List UInt8} {bt : Bool} (hno : ∀ (j : Nat) (y : O), xs[j]? = some y → isR n bt y = false) : findB xs n bt = -1 := by
  rcases find_cases xs n bt with ⟨h, _⟩ | ⟨m, y, h1, h2, h3, h4⟩
  · exact h
  · rw [hno m y h2] at h3; cases h3

set_option maxHeartbeats 1000000 in
theorem find_walk {w : World} {v : Value} {xs : List O} (h : Ops w v xs) (n : ByteArray) (bt : Bool) :
    Calls Try.prog 19 #[v, .string n, .bool bt] w fun e w' => e = .returned (.int .i64 (findB xs (bl n) bt)) ∧ w = w' := by
  obtain ⟨a, c, rfl, hl1, hl2⟩ := h.form
  unfold maxLen at hl2
  have H := Lib.hid h
  clear h
  obtain ⟨z, hz⟩ : ∃ z, findB xs (bl n) bt = z := ⟨_, rfl⟩
  have HZ := Lib.hid hz
  rw [hz]
  clear hz
  go_enter Try.func19, Try.ntmps19
  go_wp2_with fail
  go_loop [7] (fun i => ∃ k : Nat, k ≤ xs.length ∧ i = .int .i64 k ∧ Hid (∀ (j : Nat) (y : O), j < k → xs[j]? = some y → isR (bl n) bt y = false)) (fun i => xs.length - (intOf i).toNat)
  case atStart => exact ⟨0, by omega, rfl, Lib.hid (fun j y hj => by omega)⟩
  case round =>
    obtain ⟨k, hk, rfl, HN⟩ := hrel
    by_cases hlt : k < xs.length
    · obtain ⟨x, hx⟩ : ∃ x, xs[k]? = some x := ⟨_, List.getElem?_eq_getElem hlt⟩
      obtain ⟨b, off, rfl, hbs, d0, d1, d2⟩ := H.out.cells hx
      have HX := Lib.hid hx
      clear hx d2
      rcases x with ⟨xn, xk, xl⟩
      simp only at d0 d1
      have hkk : (k : Int) < xs.length := by omega
      have hbw := between_walk xk
      have HI : Hid (isR (bl n) bt ⟨xn, xk, xl⟩ = ((xn.toList == n.toList) && (betB (bl xk) == bt))) := Lib.hid (by unfold isR; rw [Lib.toList_data, Lib.toList_data])
      obtain ⟨p, hp⟩ : ∃ p, betB (bl xk) = p := ⟨_, rfl⟩
      rw [hp] at hbw HI
      have HBW := Lib.hid hbw
      clear hbw hp
      cases h1 : (xn.toList == n.toList)
      · have HNO : Hid (isR (bl n) bt ⟨xn, xk, xl⟩ = false) := Lib.hid (by rw [HI.out, h1]; rfl)
        go_wp2
        exact ⟨⟨k + 1, by omega, by go_num, Lib.hid (fun j y hj hy => by
          rcases Nat.lt_succ_iff_lt_or_eq.1 hj with h | rfl
          · exact HN.out j y h hy
          · have := HX.out; rw [hy] at this; cases this; exact HNO.out)⟩, by simp [intOf]; omega⟩
      · cases h2 : (p == bt)
        · have HNO : Hid (isR (bl n) bt ⟨xn, xk, xl⟩ = false) := Lib.hid (by rw [HI.out, h1, h2]; rfl)
          (go_wp2_with fail; go_fit (HBW.out _); rintro e w' ⟨rfl, rfl⟩)
          go_wp2
          exact ⟨⟨k + 1, by omega, by go_num, Lib.hid (fun j y hj hy => by
            rcases Nat.lt_succ_iff_lt_or_eq.1 hj with h | rfl
            · exact HN.out j y h hy
            · have := HX.out; rw [hy] at this; cases this; exact HNO.out)⟩, by simp [intOf]; omega⟩
        · have HYES : Hid (z = k) := Lib.hid (by rw [← HZ.out]; exact find_hit HX.out (by rw [HI.out, h1, h2]; rfl) HN.out)
          (go_wp2_with fail; go_fit (HBW.out _); rintro e w' ⟨rfl, rfl⟩)
          go_wp2
          go_ret
          exact ⟨ret_int HYES.out.symm, rfl⟩
    · have HNO : Hid (z = -1) := Lib.hid (by rw [← HZ.out]; exact find_miss (fun j y hy => HN.out j y (by have := (List.getElem?_eq_some_iff.1 hy).1; omega) hy))
      have hkk : ¬ (k : Int) < xs.length := by omega
      go_wp2
      go_ret
      exact ⟨ret_int HNO.out.symm, rfl⟩

theorem eq_rop (a b c d : ByteArray) (x y : Int) (w : World) :
    (Op.equalIn 10000 40 (.agg #[.string a, .string b, .int .i64 x]) (.agg #[.string c, .string d, .int .i64 y])).run Try.prog w = .ok ((a.toList == c.toList) && ((b.toList == d.toList) && (x == y))) w := by
  have u3 := Try.underlying3
  have a3 := Try.isAgg3
  have z3 := Try.sizeOf3
  have u9 := Try.underlying9
  have a9 := Try.isAgg9
  have z9 := Try.sizeOf9
  have hS : Try.prog.underlying 40 = some (.struct (Try.prog.fieldsOf 40)) := by kernel_rfl
  have hp : Try.prog.stoodInHeld 40 = false := by kernel_rfl
  rw [show (10000 : Nat) = 9999 + 1 from rfl, run_equalIn_agg w 9999 40 _ _ hS hp]
  simp only [Program.fieldsOf, Try.underlying40]
  go_simp
  by_cases h1 : a.toList = c.toList <;> by_cases h2 : b.toList = d.toList <;> by_cases h3 : x = y <;> simp [h1, h2, h3]

set_option maxHeartbeats 1000000 in
/-- Two readings of one list are alike. -/
theorem same_walk {w : World} {v1 v2 : Value} {xs : List O} (h1 : Ops w v1 xs) (h2 : Ops w v2 xs) :
    Calls Try.prog 13 #[v1, v2] w fun e w' => e = .returned (.bool true) ∧ Below w.heap.size w w' := by
  obtain ⟨a1, c1, rfl, hl1, hl2⟩ := h1.form
  obtain ⟨a2, c2, rfl, hl3, hl4⟩ := h2.form
  unfold maxLen at hl2 hl4
  have H1 := Lib.hid h1
  have H2 := Lib.hid h2
  clear h1 h2
  go_enter Try.func13, Try.ntmps13
  go_wp2_with fail
  go_loopw [5] (fun i wr => ∃ k : Nat, k ≤ xs.length ∧ i = .int .i64 k ∧ Hid (Below w.heap.size w wr)) (fun i _ => xs.length - (intOf i).toNat)
  case atStart => exact ⟨0, by omega, rfl, Lib.hid (Below.refl _ _)⟩
  case round =>
    obtain ⟨k, hk, rfl, HB⟩ := hrel
    by_cases hlt : k < xs.length
    · obtain ⟨x, hx⟩ : ∃ x, xs[k]? = some x := ⟨_, List.getElem?_eq_getElem hlt⟩
      obtain ⟨b1, o1, rfl, _, d0, d1, d2⟩ := (H1.out.ext HB.out).cells hx
      obtain ⟨b2, o2, rfl, _, e0, e1, e2⟩ := (H2.out.ext HB.out).cells hx
      clear hx
      rcases x with ⟨xn, xk, xl⟩
      simp only at d0 d1 d2 e0 e1 e2
      have hkk : (k : Int) < xs.length := by omega
      have heq : ∀ wq, (Op.equalIn 10000 40 (.agg #[.string xn, .string xk, .int .i64 xl]) (.agg #[.string xn, .string xk, .int .i64 xl])).run Try.prog wq = .ok true wq := fun wq => by rw [eq_rop]; simp
      go_wp2_with fail
      go_big_quiet (fail)
      go_wp2
      go_roundw
      case rel => exact ⟨k + 1, by omega, by go_num, Lib.hid (bel_drewN HB.out _)⟩
      case measure => simp [intOf]; omega
    · have hkk : ¬ (k : Int) < xs.length := by omega
      go_wp2
      go_ret
      exact ⟨rfl, HB.out⟩
end Go.Proofs.Ythalpdjnclfleaa
