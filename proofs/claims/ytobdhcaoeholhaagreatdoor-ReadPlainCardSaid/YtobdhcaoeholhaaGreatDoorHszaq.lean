import Derived.Test.YtobdhcaoeholhaaGreatDoorHszap
import Derived.Test.YtobdhcaoeholhaaGreatDoorHszag
import Derived.Deep.RegionHeld3
import Derived.Test.YtobdhcaoeholhaaGreatDoorHszaf
import Derived.Laws.StructEq
import Derived.Test.YtobdhcaoeholhaaGreatDoorHszaa
import Derived.Test.YtobdhcaoeholhaaGreatDoorCards
import Derived.Test.YtobdhcaoeholhaaGreatDoorTie
import Derived.LaidLaws
import Derived.Lay
import Derived.LaidSub
import Derived.SevenTiedAt
import Derived.Lib.LaidTab
import Derived.Stop.LaidErr
import Derived.Test.YtobdhcaoeholhaaGreatDoorHszao
set_option linter.unusedVariables false
set_option linter.unusedSimpArgs false
/- The document's own: the first of a name, the sides, alike lists, the table as its own, good tables. -/
namespace Go.Proofs.YtobdhcaoeholhaaGreatDoor
open Go.Shelf Go.RowKit

def isR (n : List UInt8) (bt : Bool) (y : O) : Bool := (bl y.n == n) && (betB (bl y.k) == bt)
def findB (xs : List O) (n : List UInt8) (bt : Bool) : Int := Lib.idxBy (fun _ y => isR n bt y) xs default
theorem idx_from (p : O → Bool) : ∀ (xs : List O) (i : Nat), (Lib.idxByFrom (fun _ y => p y) default xs i = -1 ∧ ∀ (j : Nat) (y : O), xs[j]? = some y → p y = false) ∨
    (∃ (k : Nat) (x : O), Lib.idxByFrom (fun _ y => p y) default xs i = ((i + k : Nat) : Int) ∧ xs[k]? = some x ∧ p x = true ∧ ∀ (j : Nat) (y : O), j < k → xs[j]? = some y → p y = false) := by
  intro xs
  induction xs with
  | nil => intro i; exact Or.inl ⟨rfl, fun j y h => by simp at h⟩
  | cons a r ih =>
    intro i
    cases ha : p a
    · rcases ih (i + 1) with ⟨h1, h2⟩ | ⟨k, x, h1, h2, h3, h4⟩
      · refine Or.inl ⟨by simp only [Lib.idxByFrom, ha]; exact h1, fun j y hy => ?_⟩
        cases j with
        | zero => simp at hy; rw [← hy]; exact ha
        | succ j => exact h2 j y (by simpa using hy)
      · refine Or.inr ⟨k + 1, x, by simp only [Lib.idxByFrom, ha]; rw [show i + (k + 1) = i + 1 + k by omega]; exact h1, by simpa using h2, h3, fun j y hj hy => ?_⟩
        cases j with
        | zero => simp at hy; rw [← hy]; exact ha
        | succ j => exact h4 j y (by omega) (by simpa using hy)
    · exact Or.inr ⟨0, a, by simp [Lib.idxByFrom, ha], rfl, ha, fun j y hj => by omega⟩
theorem find_cases (xs : List O) (n : List UInt8) (bt : Bool) : (findB xs n bt = -1 ∧ ∀ (j : Nat) (y : O), xs[j]? = some y → isR n bt y = false) ∨
    (∃ (k : Nat) (x : O), findB xs n bt = k ∧ xs[k]? = some x ∧ isR n bt x = true ∧ ∀ (j : Nat) (y : O), j < k → xs[j]? = some y → isR n bt y = false) := by
  rcases idx_from (isR n bt) xs 0 with h | ⟨k, x, h1, h2⟩
  · exact Or.inl h
  · exact Or.inr ⟨k, x, by rw [Nat.zero_add] at h1; exact h1, h2⟩
theorem find_hit {xs : List O} {n : List UInt8} {bt : Bool} {k : Nat} {x : O} (hx : xs[k]? = some x) (h : isR n bt x = true) (hno : ∀ (j : Nat) (y : O), j < k → xs[j]? = some y → isR n bt y = false) : findB xs n bt = k := by
  rcases find_cases xs n bt with ⟨_, h2⟩ | ⟨m, y, h1, h2, h3, h4⟩
  · rw [h2 k x hx] at h; cases h
  · rcases Nat.lt_trichotomy m k with hlt | rfl | hlt
    · rw [hno m y hlt h2] at h3; cases h3
    · exact h1
    · rw [h4 k x hlt hx] at h; cases h
theorem find_miss {xs : List O} {n : List UInt8} {bt : Bool} (hno : ∀ (j : Nat) (y : O), xs[j]? = some y → isR n bt y = false) : findB xs n bt = -1 := by
  rcases find_cases xs n bt with ⟨h, _⟩ | ⟨m, y, h1, h2, h3, h4⟩
  · exact h
  · rw [hno m y h2] at h3; cases h3

set_option maxHeartbeats 1000000 in
theorem find_walk {w : World} {v : Value} {xs : List O} (h : Ops w v xs) (n : ByteArray) (bt : Bool) :
    Calls Tryz.prog 144 #[v, .string n, .bool bt] w fun e w' => e = .returned (.int .i64 (findB xs (bl n) bt)) ∧ w = w' := by
  obtain ⟨a, c, rfl, hl1, hl2⟩ := h.form
  unfold maxLen at hl2
  have H := Lib.hid h
  clear h
  obtain ⟨z, hz⟩ : ∃ z, findB xs (bl n) bt = z := ⟨_, rfl⟩
  have HZ := Lib.hid hz
  rw [hz]
  clear hz
  go_enter Tryz.func144, Tryz.ntmps144
  go_wp2_with fail
  go_loop [7] (fun i => ∃ k : Nat, k ≤ xs.length ∧ i = .int .i64 k ∧ Hid (∀ (j : Nat) (y : O), j < k → xs[j]? = some y → isR (bl n) bt y = false)) (fun i => xs.length - (intOf i).toNat)
  case atStart => exact ⟨0, by omega, rfl, Lib.hid (fun j y hj => by omega)⟩
  case round =>
    obtain ⟨k, hk, rfl, HN⟩ := hrel
    by_cases hlt : k < xs.length
    · obtain ⟨x, hx⟩ : ∃ x, xs[k]? = some x := ⟨_, List.getElem?_eq_getElem hlt⟩
      obtain ⟨b, off, rfl, hbs, d0, d1, d2⟩ := H.out.cells hx
      have HX := Lib.hid hx
      clear hx d2
      rcases x with ⟨xn, xk, xl⟩
      simp only at d0 d1
      have hkk : (k : Int) < xs.length := by omega
      have hbw := between_walk xk
      have HI : Hid (isR (bl n) bt ⟨xn, xk, xl⟩ = ((xn.toList == n.toList) && (betB (bl xk) == bt))) := Lib.hid (by unfold isR; rw [Lib.toList_data, Lib.toList_data])
      obtain ⟨p, hp⟩ : ∃ p, betB (bl xk) = p := ⟨_, rfl⟩
      rw [hp] at hbw HI
      have HBW := Lib.hid hbw
      clear hbw hp
      cases h1 : (xn.toList == n.toList)
      · have HNO : Hid (isR (bl n) bt ⟨xn, xk, xl⟩ = false) := Lib.hid (by rw [HI.out, h1]; rfl)
        go_wp2
        exact ⟨⟨k + 1, by omega, by go_num, Lib.hid (fun j y hj hy => by
          rcases Nat.lt_succ_iff_lt_or_eq.1 hj with h | rfl
          · exact HN.out j y h hy
          · have := HX.out; rw [hy] at this; cases this; exact HNO.out)⟩, by simp [intOf]; omega⟩
      · cases h2 : (p == bt)
        · have HNO : Hid (isR (bl n) bt ⟨xn, xk, xl⟩ = false) := Lib.hid (by rw [HI.out, h1, h2]; rfl)
          (go_wp2_with fail; go_fit (HBW.out _); rintro e w' ⟨rfl, rfl⟩)
          go_wp2
          exact ⟨⟨k + 1, by omega, by go_num, Lib.hid (fun j y hj hy => by
            rcases Nat.lt_succ_iff_lt_or_eq.1 hj with h | rfl
            · exact HN.out j y h hy
            · have := HX.out; rw [hy] at this; cases this; exact HNO.out)⟩, by simp [intOf]; omega⟩
        · have HYES : Hid (z = k) := Lib.hid (by rw [← HZ.out]; exact find_hit HX.out (by rw [HI.out, h1, h2]; rfl) HN.out)
          (go_wp2_with fail; go_fit (HBW.out _); rintro e w' ⟨rfl, rfl⟩)
          go_wp2
          go_ret
          exact ⟨ret_int HYES.out.symm, rfl⟩
    · have HNO : Hid (z = -1) := Lib.hid (by rw [← HZ.out]; exact find_miss (fun j y hy => HN.out j y (by have := (List.getElem?_eq_some_iff.1 hy).1; omega) hy))
      have hkk : ¬ (k : Int) < xs.length := by omega
      go_wp2
      go_ret
      exact ⟨ret_int HNO.out.symm, rfl⟩

end Go.Proofs.YtobdhcaoeholhaaGreatDoor
/- The document's own: good tables, the sides, the table as its own. -/
namespace Go.Proofs.YtobdhcaoeholhaaGreatDoor
open Go.Shelf Go.RowKit

theorem may_level' {n k : List UInt8} {l : Int} (h : mayB n k l = true) : (1 ≤ l ∧ l ≤ 1200) ∧ sideB k ≠ 0 := by
  unfold mayB at h
  split at h
  · simp at h
    obtain ⟨rfl, rfl⟩ := h
    exact ⟨by omega, by decide⟩
  · split at h
    · cases h
    · split at h
      · cases h
      · split at h
        · cases h
        · split at h
          · cases h
          · simp at h
            exact ⟨⟨h.1.2, h.2⟩, h.1.1.2⟩
theorem side_two' (k : List UInt8) (h : sideB k ≠ 0) : sideB k = 1 ∨ sideB k = 2 := by
  unfold sideB at h ⊢
  repeat' split
  all_goals first | exact Or.inl rfl | exact Or.inr rfl | skip
  all_goals simp_all
/-- No key yet is that one. -/
def NoKey (xs : List O) (m : Nat) (K : List UInt8 × Int) : Prop := ∀ (j : Nat) (y : O), j < m → xs[j]? = some y → key y ≠ K
theorem NoKey.next {xs : List O} {m : Nat} {K : List UInt8 × Int} (h : NoKey xs m K) {x : O} (hx : xs[m]? = some x) (hn : key x ≠ K) : NoKey xs (m + 1) K := fun j y hj hy => by
  rcases Nat.lt_succ_iff_lt_or_eq.1 hj with h' | rfl
  · exact h j y h' hy
  · rw [hx] at hy
    cases hy
    exact hn
def AllOk (xs : List O) (k : Nat) : Prop := ∀ (j : Nat) (x : O), j < k → xs[j]? = some x → okB (xs.take j) x = true
theorem AllOk.next {xs : List O} {k : Nat} (h : AllOk xs k) {x : O} (hx : xs[k]? = some x) (hn : okB (xs.take k) x = true) : AllOk xs (k + 1) := fun j y hj hy => by
  rcases Nat.lt_succ_iff_lt_or_eq.1 hj with h' | rfl
  · exact h j y h' hy
  · rw [hx] at hy
    cases hy
    exact hn
theorem ok_iff (pre : List O) (x : O) : okB pre x = true ↔ mayO x = true ∧ ∀ y ∈ pre, key y ≠ key x := by
  unfold okB
  rw [Bool.and_eq_true, decide_eq_true_eq, place_neg]
  rfl
theorem key_bet {x y : O} (hx : sideB (bl x.k) ≠ 0) (hy : sideB (bl y.k) ≠ 0) : key x = key y ↔ (bl x.n == bl y.n) = true ∧ (betB (bl x.k) == betB (bl y.k)) = true := by
  unfold key
  rw [Prod.mk.injEq, bet_side, bet_side, beq_iff_eq]
  refine and_congr_right fun _ => ?_
  rcases side_two' _ hx with h1 | h1 <;> rcases side_two' _ hy with h2 | h2 <;> rw [h1, h2] <;> simp

set_option maxRecDepth 100000
set_option maxHeartbeats 1000000 in
theorem goodOps_walk {w : World} {v : Value} {xs : List O} (h : Ops w v xs) :
    Calls Tryz.prog 59 #[v] w fun e w' => e = .returned (.bool (goodB xs)) ∧ Below w.heap.size w w' := by
  obtain ⟨a, c, rfl, hl1, hl2⟩ := h.form
  unfold maxLen at hl2
  have H := Lib.hid h
  clear h
  obtain ⟨r, hr⟩ : ∃ r, goodB xs = r := ⟨_, rfl⟩
  have HR := Lib.hid hr
  rw [hr]
  clear hr
  go_enter Tryz.func59, Tryz.ntmps59
  go_wp2_with fail
  go_loopw [3] (fun i wr => ∃ k : Nat, k ≤ xs.length ∧ i = .int .i64 k ∧ Hid (AllOk xs k ∧ Below w.heap.size w wr)) (fun i _ => xs.length - (intOf i).toNat)
  case atStart => exact ⟨0, by omega, rfl, Lib.hid ⟨fun j x hj => by omega, Below.refl _ _⟩⟩
  case round =>
    obtain ⟨k, hk, rfl, HB⟩ := hrel
    by_cases hlt : k < xs.length
    · obtain ⟨x, hx⟩ : ∃ x, xs[k]? = some x := ⟨_, List.getElem?_eq_getElem hlt⟩
      obtain ⟨b, off, rfl, hbs, _⟩ := H.out.cells hx
      have HDC := Lib.hid (fun (wq : World) (hb : Below w.heap.size w wq) (j : Nat) (y : O) (hy : xs[j]? = some y) => (show wq.cell? ⟨b, off + j * 3, none⟩ = some (.string y.n) ∧ wq.cell? ⟨b, off + j * 3 + 1, none⟩ = some (.string y.k) ∧ wq.cell? ⟨b, off + j * 3 + 2, none⟩ = some (.int .i64 y.l) from by
        obtain ⟨b', off', e, _, h⟩ := (H.out.ext hb).cells hy
        cases e
        exact h))
      obtain ⟨d0, d1, d2⟩ := HDC.out wr HB.out.2 k x hx
      have HX := Lib.hid hx
      clear hx
      have hmay := goodOp_walk x.n x.k x.l
      have HO : Hid (mayO x = mayB (bl x.n) (bl x.k) x.l) := Lib.hid rfl
      obtain ⟨q, hq⟩ : ∃ q, mayB (bl x.n) (bl x.k) x.l = q := ⟨_, rfl⟩
      rw [hq] at hmay HO
      have HM := Lib.hid hmay
      have HQ := Lib.hid hq
      clear hmay hq
      have hbx := between_walk x.k
      have HKB : Hid (∀ y : O, sideB (bl y.k) ≠ 0 → sideB (bl x.k) ≠ 0 → (key y = key x ↔ (bl y.n == bl x.n) = true ∧ (betB (bl y.k) == betB (bl x.k)) = true)) := Lib.hid (fun y h1 h2 => key_bet h1 h2)
      obtain ⟨p, hp⟩ : ∃ p, betB (bl x.k) = p := ⟨_, rfl⟩
      rw [hp] at hbx HKB
      have HBX := Lib.hid hbx
      clear hbx hp
      rcases x with ⟨xn, xk, xl⟩
      simp only at d0 d1 d2
      obtain ⟨K, hK⟩ : ∃ K, key ⟨xn, xk, xl⟩ = K := ⟨_, rfl⟩
      have HK := Lib.hid hK
      rw [hK] at HKB
      clear hK
      have hkk : (k : Int) < xs.length := by omega
      (go_wp2_with fail; go_fit (HM.out _); rintro e w3 ⟨rfl, hb3⟩)
      have HB3 := Lib.hid (Ext.trans' HB.out.2 hb3)
      clear hb3 d0 d1 d2
      cases q
      · have HNO : Hid (r = false) := Lib.hid (by
          rw [← HR.out]
          refine good_no HX.out ?_
          cases ho : okB (xs.take k) ⟨xn, xk, xl⟩
          · rfl
          · have := ((ok_iff _ _).1 ho).1; rw [HO.out] at this; cases this)
        go_wp2
        go_ret
        exact ⟨ret_bool HNO.out.symm, HB3.out⟩
      · have HSX : Hid (sideB (bl xk) ≠ 0) := Lib.hid (may_level' HQ.out).2
        go_wp2_with fail
        go_loopw [4] (fun i wr => ∃ m : Nat, m ≤ k ∧ i = .int .i64 m ∧ Hid (NoKey xs m K ∧ Below w.heap.size w wr)) (fun i _ => k - (intOf i).toNat)
        case atStart => exact ⟨0, by omega, rfl, Lib.hid ⟨fun j y hj => by omega, HB3.out⟩⟩
        case round =>
          obtain ⟨m, hm, rfl, HI⟩ := hrel
          by_cases hml : m < k
          · obtain ⟨y, hy⟩ : ∃ y, xs[m]? = some y := ⟨_, List.getElem?_eq_getElem (by omega)⟩
            obtain ⟨e0, e1, _⟩ := HDC.out wr HI.out.2 m y hy
            obtain ⟨d0, d1, _⟩ := HDC.out wr HI.out.2 k _ HX.out
            have HY := Lib.hid hy
            have HSY : Hid (sideB (bl y.k) ≠ 0) := Lib.hid (may_level' (n := bl y.n) (l := y.l) ((ok_iff _ _).1 (HB.out.1 m y hml hy)).1).2
            clear hy
            have hby := between_walk y.k
            have HKY : Hid (key y = K ↔ (y.n.toList == xn.toList) = true ∧ (betB (bl y.k) == p) = true) := Lib.hid (by
              rw [HKB.out y HSY.out HSX.out, Lib.toList_data, Lib.toList_data])
            obtain ⟨q2, hq2⟩ : ∃ q2, betB (bl y.k) = q2 := ⟨_, rfl⟩
            rw [hq2] at hby HKY
            have HBY := Lib.hid hby
            clear hby hq2
            rcases y with ⟨yn, yk, yl⟩
            simp only at e0 e1 d0 d1
            have hmm : (m : Int) < k := by omega
            have hm1 : (m : Int) < xs.length := by omega
            cases h1 : (yn.toList == xn.toList)
            · have HNO : Hid (key ⟨yn, yk, yl⟩ ≠ K) := Lib.hid (fun e => by have := (HKY.out.1 e).1; rw [h1] at this; cases this)
              go_wp2_with fail
              go_big_quiet (fail)
              go_wp2
              go_roundw
              case rel => exact ⟨m + 1, by omega, by go_num, Lib.hid ⟨HI.out.1.next HY.out HNO.out, bel_drewN HI.out.2 _⟩⟩
              case measure => simp [intOf]; omega
            · cases h2 : (q2 == p)
              · have HNO : Hid (key ⟨yn, yk, yl⟩ ≠ K) := Lib.hid (fun e => by have := (HKY.out.1 e).2; rw [h2] at this; cases this)
                go_wp2_with fail
                go_big_quiet (first | (go_at_call_of 95 yk; exact Calls.quiet_of_same ((HBY.out _).mono fun _ _ ⟨a, b⟩ => ⟨a, b.symm⟩)) | (go_at_call_of 95 xk; exact Calls.quiet_of_same ((HBX.out _).mono fun _ _ ⟨a, b⟩ => ⟨a, b.symm⟩)))
                go_wp2
                go_roundw
                case rel => exact ⟨m + 1, by omega, by go_num, Lib.hid ⟨HI.out.1.next HY.out HNO.out, bel_drewN HI.out.2 _⟩⟩
                case measure => simp [intOf]; omega
              · have HNO : Hid (r = false) := Lib.hid (by
                  rw [← HR.out]
                  refine good_no HX.out ?_
                  cases ho : okB (xs.take k) ⟨xn, xk, xl⟩
                  · rfl
                  · exact absurd ((HKY.out.2 ⟨h1, h2⟩).trans HK.out.symm) (((ok_iff _ _).1 ho).2 _ (List.mem_of_getElem? (show (xs.take k)[m]? = _ by rw [List.getElem?_take, if_pos hml]; exact HY.out))))
                go_wp2_with fail
                go_big_quiet (first | (go_at_call_of 95 yk; exact Calls.quiet_of_same ((HBY.out _).mono fun _ _ ⟨a, b⟩ => ⟨a, b.symm⟩)) | (go_at_call_of 95 xk; exact Calls.quiet_of_same ((HBX.out _).mono fun _ _ ⟨a, b⟩ => ⟨a, b.symm⟩)))
                go_wp2
                go_ret
                exact ⟨ret_bool HNO.out.symm, bel_drewN HI.out.2 _⟩
          · have hmm : ¬ (m : Int) < k := by omega
            have hmk : m = k := by omega
            have HNX : Hid (AllOk xs (k + 1)) := Lib.hid (HB.out.1.next HX.out ((ok_iff _ _).2 ⟨HQ.out, fun z hz => by
              obtain ⟨i, hi, rfl⟩ := List.mem_take_iff_getElem.1 hz
              have := HI.out.1 i _ (by omega) (List.getElem?_eq_getElem (by omega))
              rw [HK.out]
              exact this⟩))
            go_wp2
            go_roundw
            case rel => exact ⟨k + 1, by omega, by go_num, Lib.hid ⟨HNX.out, HI.out.2⟩⟩
            case measure => simp [intOf]; omega
    · have hkk : ¬ (k : Int) < xs.length := by omega
      have HF : Hid (r = decide ((xs.length : Int) ≤ 128)) := Lib.hid (by
        rw [← HR.out]
        by_cases h128 : xs.length ≤ 128
        · rw [good_yes h128 (fun j x hx => HB.out.1 j x (by have := (List.getElem?_eq_some_iff.1 hx).1; omega) hx)]
          symm
          simp
          omega
        · have : goodB xs = false := by
            cases hg : goodB xs
            · rfl
            · exact absurd (good_len hg) h128
          rw [this]
          symm
          simp
          omega)
      go_wp2
      go_ret
      exact ⟨ret_bool HF.out.symm, HB.out.2⟩
end Go.Proofs.YtobdhcaoeholhaaGreatDoor
/- The document's own: the sides, the table as its own. -/
namespace Go.Proofs.YtobdhcaoeholhaaGreatDoor
open Go.Shelf Go.RowKit

set_option maxRecDepth 100000
set_option maxHeartbeats 1000000 in
theorem rsides_walk (n k : ByteArray) (l : Int) (w : World) :
    Calls Tryz.prog 117 #[.agg #[.string n, .string k, .int .i64 l]] w fun e w' => e = .returned (.tuple #[.int .i64 (sidesB (bl k) l).1, .int .i64 (sidesB (bl k) l).2]) ∧ Below w.heap.size w w' := by
  cases h1 : (k.toList == [120, 102, 120])
  · cases h2 : (k.toList == [120, 102, 121])
    · cases h3 : (k.toList == [121, 102, 120])
      · cases h4 : (k.toList == [102, 121])
        · cases h5 : (k.toList == [102, 120])
          · have hE : sidesB (bl k) l = (0, 0) := by unfold sidesB; simp only [tests_bl h1, tests_bl h2, tests_bl h3, tests_bl h4, tests_bl h5, if_true]; try rfl
            rw [hE]; clear hE
            go_enter Tryz.func117, Tryz.ntmps117
            go_wp2
            go_ret2
            exact ⟨rfl, by first | exact bel1' _ _ | exact bel_drewN (bel1' _ _) _⟩
          · have hE : sidesB (bl k) l = (0, wrap64 (l - 1)) := by unfold sidesB; simp only [tests_bl h1, tests_bl h2, tests_bl h3, tests_bl h4, tests_bl h5, if_true]; try rfl
            rw [hE]; clear hE
            go_enter Tryz.func117, Tryz.ntmps117
            go_wp2_with fail
            go_quiet (fail)
            go_wp2
            go_ret2
            exact ⟨rfl, by first | exact bel1' _ _ | exact bel_drewN (bel1' _ _) _⟩
        · have hE : sidesB (bl k) l = (0, l) := by unfold sidesB; simp only [tests_bl h1, tests_bl h2, tests_bl h3, tests_bl h4, if_true]; try rfl
          rw [hE]; clear hE
          go_enter Tryz.func117, Tryz.ntmps117
          go_wp2_with fail
          go_quiet (fail)
          go_wp2
          go_ret2
          exact ⟨rfl, by first | exact bel1' _ _ | exact bel_drewN (bel1' _ _) _⟩
      · have hE : sidesB (bl k) l = (l, wrap64 (l - 1)) := by unfold sidesB; simp only [tests_bl h1, tests_bl h2, tests_bl h3, if_true]; try rfl
        rw [hE]; clear hE
        go_enter Tryz.func117, Tryz.ntmps117
        go_wp2_with fail
        go_quiet (fail)
        go_wp2
        go_ret2
        exact ⟨rfl, by first | exact bel1' _ _ | exact bel_drewN (bel1' _ _) _⟩
    · have hE : sidesB (bl k) l = (wrap64 (l - 1), l) := by unfold sidesB; simp only [tests_bl h1, tests_bl h2, if_true]; try rfl
      rw [hE]; clear hE
      go_enter Tryz.func117, Tryz.ntmps117
      go_wp2_with fail
      go_quiet (fail)
      go_wp2
      go_ret2
      exact ⟨rfl, by first | exact bel1' _ _ | exact bel_drewN (bel1' _ _) _⟩
  · have hE : sidesB (bl k) l = (wrap64 (l - 1), wrap64 (l - 1)) := by unfold sidesB; simp only [tests_bl h1, if_true]; try rfl
    rw [hE]; clear hE
    go_enter Tryz.func117, Tryz.ntmps117
    go_wp2_with fail
    go_quiet (fail)
    go_wp2
    go_ret2
    exact ⟨rfl, by first | exact bel1' _ _ | exact bel_drewN (bel1' _ _) _⟩

theorem infoR : (Tryz.prog.info? 114).map (fun i => (i.zero, i.size, i.bytes)) = some (some (.agg #[.string ⟨#[]⟩, .string ⟨#[]⟩, .int .i64 0]), 3, 40) := by kernel_rfl
theorem infoR_parts : ∃ i, Tryz.prog.info? 114 = some i ∧ i.zero = some (.agg #[.string ⟨#[]⟩, .string ⟨#[]⟩, .int .i64 0]) ∧ i.size = 3 ∧ i.bytes = 40 := by
  have h := infoR
  cases hi : Tryz.prog.info? 114 with
  | none => rw [hi] at h; simp at h
  | some i => rw [hi] at h; simp only [Option.map_some, Option.some.injEq, Prod.mk.injEq] at h; exact ⟨i, rfl, h.1, h.2.1, h.2.2⟩
/-- What the call owns, of whatever kind the row is, reads as these. -/
theorem ops_owned {w : World} {B e : Nat} {v : Value} {L : List O} (h : w.ownsRow B e 3 v L.length (L.flatMap oCells)) : Ops w v L := by
  rcases h.2 with ⟨rfl, h0⟩ | ⟨g, cap, cur, rfl, _, hg, h1, h2, h3, h4⟩
  · obtain rfl := List.length_eq_zero_iff.1 h0
    exact ⟨none, 0, rfl, Nat.le_refl _, Nat.zero_le _, Or.inl rfl⟩
  · refine ⟨_, cap, rfl, h1, h2, Or.inr ⟨g, 0, rfl, (Array.getElem?_eq_some_iff.1 hg).1, fun i x hx j u hu => ?_⟩⟩
    have hj : j < 3 := by have := (List.getElem?_eq_some_iff.1 hu).1; rwa [oCells_len] at this
    have hi := (List.getElem?_eq_some_iff.1 hx).1
    have h5 := flat3_get L i x hx j hj
    rw [← h4, List.getElem?_take, if_pos (by omega), hu] at h5
    rw [Nat.zero_add, World.cell?, hg]
    simpa using h5
theorem one_src (w : World) (x : O) (t : TypeId) : ∀ (j : Nat) (u : Value), ([x].flatMap oCells)[j]? = some u → (w.alloc (.cells #[.string x.n, .string x.k, .int .i64 x.l] t)).cell? ((⟨w.heap.size, 0, none⟩ : Addr).add j) = some u := fun j u hu => by
  rw [add_plain, Nat.zero_add, World.cell?_alloc_at _ _ _ _ rfl]
  simpa [oCells] using hu

end Go.Proofs.YtobdhcaoeholhaaGreatDoor
/- What the cards of this seat share: strconv's ErrRange is an error where the program's text lays it. -/
namespace Go.Proofs.YtobdhcaoeholhaaGreatDoor
open Go.RowKit
theorem star : "*" ++ "errors.errorString" = "*errors.errorString" := by decide
theorem row_err (u : TypeId) (h : Tryz.prog.typeName? 3 u = some "*errors.errorString") : u = 233 :=
  typeName_ptr_named (nm := "errors.errorString") (by rw [star]; kernel_rfl) (by kernel_rfl) (by decide) u (by rw [star]; exact h)
theorem err_of {l : List (String × DataW Unit)} {w : World} (hl : (l.all fun x => x.2.handleName?.isNone) = true) {nm : String} {text : List UInt8}
    (hf : l.filter (fun x => x.1 == "strconv.ErrRange") = [("strconv.ErrRange", .iface nm (.ptr (.agg [.lit (.string text)])))]) (hn : nm = "*errors.errorString") (h : laidMetH Tryz.prog l w) : Err w := by
  subst hn
  rw [MakeChecks.laidMetH_plain _ _ _ hl] at h
  have h1 := h.filter (fun x => x.1 == "strconv.ErrRange")
  rw [hf] at h1
  obtain ⟨a, s, hv, _⟩ := laid_sentinel h1 gRange (ti := 178) (by kernel_rfl) Tryz.underlying178 (tp := 233) row_err Tryz.underlying233 Tryz.underlying235 rfl rfl Tryz.underlying9 (by kernel_rfl) (by kernel_rfl)
  exact ⟨_, _, hv⟩
end Go.Proofs.YtobdhcaoeholhaaGreatDoor
/- The document's own writing without operators: plain. -/
namespace Go.Proofs.YtobdhcaoeholhaaGreatDoor
open Go.Shelf Go.RowKit
set_option linter.unusedVariables false

abbrev baS (l : List UInt8) : ByteArray := ⟨l.toArray⟩
def QC (q : ByteArray → List UInt8) (s : ByteArray) : Prop := ∀ w, Calls Tryz.prog 101 #[.string s] w fun e w' => e = .returned (.string (baS (q s))) ∧ Below w.heap.size w w'
def NC (nm : Int → List UInt8) (n : Int) : Prop := ∀ w, Calls Tryz.prog 104 #[.int .i64 n] w fun e w' => e = .returned (.string (baS (nm n))) ∧ Below w.heap.size w w'
section
variable (q : ByteArray → List UInt8) (nm : Int → List UInt8) (vs : List Int)
def varW (n : Int) : List UInt8 := match vs.findIdx? (fun v => v == n) with
  | some i => 95 :: nm (i : Nat)
  | none => [95]
mutual
def plainW : Tm → List UInt8
  | .mk k n s ts => if k = 0 then varW nm vs n else if k = 1 then nm n else if ts.isEmpty then q s else q s ++ argsW true ts ++ [41]
def argsW : Bool → List Tm → List UInt8
  | _, [] => []
  | first, x :: r => (if first then 40 else 44) :: plainW x ++ argsW false r
end
mutual
/-- All its names and numbers are such as can be written. -/
def mayW (P : ByteArray → Prop) (Q : Int → Prop) : Tm → Prop
  | .mk k n s ts => (k = 1 → Q n) ∧ (k ≠ 0 → k ≠ 1 → P s) ∧ maysW P Q ts
def maysW (P : ByteArray → Prop) (Q : Int → Prop) : List Tm → Prop
  | [] => True
  | x :: r => mayW P Q x ∧ maysW P Q r
end
end
theorem mays_mem {P : ByteArray → Prop} {Q : Int → Prop} : ∀ {l : List Tm} {x : Tm}, maysW P Q l → x ∈ l → mayW P Q x
  | y :: r, x, h, hx => by
    rw [maysW] at h
    rcases List.mem_cons.1 hx with rfl | hx
    · exact h.1
    · exact mays_mem h.2 hx
theorem args_drop (q : ByteArray → List UInt8) (nm : Int → List UInt8) (vs : List Int) : ∀ (ts : List Tm) (j : Nat) (x : Tm) (first : Bool), ts[j]? = some x → argsW q nm vs (first && decide (j = 0)) (ts.drop j) = (if (first && decide (j = 0)) = true then 40 else 44) :: plainW q nm vs x ++ argsW q nm vs false (ts.drop (j + 1))
  | ts, j, x, first, h => by
    have hj := (List.getElem?_eq_some_iff.1 h).1
    have e : ts.drop j = x :: ts.drop (j + 1) := by
      rw [← List.getElem_cons_drop hj]
      have := (List.getElem?_eq_some_iff.1 h).2
      rw [this]
    rw [e, argsW]
theorem bl_baS (l : List UInt8) : bl (baS l) = l := by simp [bl]
theorem bl_cat (a b : ByteArray) : bl (a ++ b) = bl a ++ bl b := by simp [bl]
theorem bl_eq {a b : ByteArray} (h : bl a = bl b) : a = b := bytes_eq h
theorem size_bl (a : ByteArray) : a.size = (bl a).length := (bl_len a).symm
/-- What a writer needs. -/
structure WrAt (w : World) (wb : Nat) (vv : Value) (vs : List Int) : Prop where
  c : w.cell? ⟨wb, 1, none⟩ = some vv
  n : Nums w vv vs
theorem WrAt.ext {w w' : World} {wb : Nat} {vv : Value} {vs : List Int} (h : WrAt w wb vv vs) (hb : Below w.heap.size w w') : WrAt w' wb vv vs := ⟨cell_later hb h.c, h.n.ext hb⟩
set_option maxHeartbeats 4000000 in
theorem plain_var {q : ByteArray → List UInt8} {nm : Int → List UInt8} {vs : List Int} {w : World} {wb : Nat} {vv : Value} (hw : WrAt w wb vv vs) (hN : ∀ i : Nat, i < vs.length → NC nm i) (n : Int) (s : ByteArray) (a : Option Addr) (m c : Nat) (hl : ∀ i : Nat, i < vs.length → (nm i).length ≤ 1000) :
    Calls Tryz.prog 64 #[.pointer (some ⟨wb, 0, none⟩), .agg #[.int .i64 0, .int .i64 n, .string s, .slice a m c]] w fun e w' => e = .returned (.string (baS (varW nm vs n))) ∧ Below w.heap.size w w' := by
  obtain ⟨ao, cv, rfl, hl1, hl2⟩ := hw.n.len
  unfold maxLen at hl2
  obtain ⟨w1, hw1, hb1, hz1, hx1⟩ := box_new w #[.int .i64 0, .int .i64 n, .string s, .slice a m c] 66
  have hw' := hw.ext hb1
  have HW := Lib.hid hw'
  have HB1 := Lib.hid hb1
  obtain ⟨b0, b1, b2, b3, bf⟩ := hx1.four
  have c1 := hw'.c
  obtain ⟨L, hL⟩ : ∃ L, vs.length = L := ⟨_, rfl⟩
  have HL := Lib.hid hL
  have HNC := Lib.hid hN
  have HLL := Lib.hid hl
  rw [hL] at c1 hl1
  clear hw hw' hb1 hx1 hN hL hl hz1
  go_enter Tryz.func64, Tryz.ntmps64
  go_wp2_with fail
  (try rw [hw1])
  clear hw1
  go_wp2_with fail
  go_loopw [5] (fun v wr => ∃ j : Nat, j ≤ L ∧ v = .int .i64 j ∧ Hid (∀ i x, i < j → vs[i]? = some x → ¬ x = n) ∧ Hid (Below w1.heap.size w1 wr)) (fun v _ => L - (intOf v).toNat)
  case atStart => exact ⟨0, Nat.zero_le _, rfl, Lib.hid (fun i x h => by omega), Lib.hid (Below.refl _ _)⟩
  case round =>
    obtain ⟨j, hj, rfl, HNO, HB⟩ := hrel
    have c1 := cell_later HB.out c1
    have b1 := cell_later HB.out b1
    by_cases hlt : j < L
    · obtain ⟨x, hx⟩ : ∃ x, vs[j]? = some x := ⟨_, List.getElem?_eq_getElem (by rw [HL.out]; exact hlt)⟩
      have hnum := HW.out.n.ext HB.out
      obtain ⟨b, off, rfl, hbb, d0⟩ := hnum.get hx
      have HX := Lib.hid hx
      have hjj : (j : Int) < L := by omega
      clear hnum hx
      by_cases hxn : x = n
      · subst hxn
        have hxe : (x == x) = true := beq_self_eq_true x
        have HNJ := Lib.hid (HNC.out j (by rw [HL.out]; exact hlt))
        obtain ⟨Z, hZ⟩ : ∃ Z, baS (nm j) = Z := ⟨_, rfl⟩
        have hZs : Z.size ≤ 1000 := by rw [← hZ, size_bl, bl_baS]; exact HLL.out j (by rw [HL.out]; exact hlt)
        have hNJ : ∀ w, Calls Tryz.prog 104 #[.int .i64 j] w fun e w' => e = .returned (.string Z) ∧ Below w.heap.size w w' := by rw [← hZ]; exact HNJ.out
        have HNK := Lib.hid hNJ
        have HZ := Lib.hid hZ
        clear hNJ hZ HNJ
        go_wp2_with fail
        go_quiet (fail)
        go_wp2_with fail
        (go_wp2_with fail; go_fit (HNK.out _); rintro e w4 ⟨rfl, hb4⟩)
        have HB4 := Lib.hid (Ext.trans' (Ext.trans' HB1.out (bel_drewN HB.out _)) hb4)
        clear hb4
        go_wp2
        go_ret
        refine ⟨?_, HB4.out⟩
        have hf : vs.findIdx? (fun v => v == x) = some j := by
          rw [List.findIdx?_eq_some_iff_getElem]
          have hjl := (List.getElem?_eq_some_iff.1 HX.out)
          refine ⟨hjl.1, by rw [hjl.2]; exact beq_self_eq_true x, fun i hi => ?_⟩
          have hil : i < vs.length := Nat.lt_trans hi hjl.1
          have := HNO.out i (vs[i]'hil) hi (List.getElem?_eq_getElem hil)
          simpa using this
        have hb : (⟨#[95]⟩ : ByteArray) ++ Z = baS (varW nm vs x) := bl_eq (by
          show bl _ = bl _
          rw [bl_cat, bl_baS, ← HZ.out, bl_baS]
          unfold varW
          rw [hf]
          rfl)
        exact congrArg Ending.returned (congrArg Value.string hb)
      · have hxe : (x == n) = false := beq_false_of_ne hxn
        go_wp2_with fail
        go_quiet (fail)
        go_wp2
        go_roundw
        case rel => exact ⟨j + 1, hlt, by go_num, Lib.hid (fun i y hi hy => by
          by_cases e : i = j
          · subst e; rw [HX.out] at hy; cases hy; exact hxn
          · exact HNO.out i y (by omega) hy), Lib.hid (bel_drewN HB.out _)⟩
        case measure => simp [intOf]; omega
    · have hjl : j = L := by omega
      subst hjl
      have HF := Lib.hid (show varW nm vs n = [95] by
        have hf : vs.findIdx? (fun v => v == n) = none := by
          rw [List.findIdx?_eq_none_iff]
          intro x hx
          obtain ⟨i, hi⟩ := List.getElem?_of_mem hx
          have := HNO.out i x (by rw [← HL.out]; exact (List.getElem?_eq_some_iff.1 hi).1) hi
          simpa using this
        unfold varW
        rw [hf])
      go_wp2
      go_ret
      refine ⟨?_, Ext.trans' HB1.out HB.out⟩
      rw [HF.out]
      rfl
theorem plain_int {q : ByteArray → List UInt8} {nm : Int → List UInt8} {vs : List Int} {w : World} {wb : Nat} (n : Int) (hN : NC nm n) (s : ByteArray) (a : Option Addr) (m c : Nat) :
    Calls Tryz.prog 64 #[.pointer (some ⟨wb, 0, none⟩), .agg #[.int .i64 1, .int .i64 n, .string s, .slice a m c]] w fun e w' => e = .returned (.string (baS (nm n))) ∧ Below w.heap.size w w' := by
  obtain ⟨w1, hw1, hb1, hz1, hx1⟩ := box_new w #[.int .i64 1, .int .i64 n, .string s, .slice a m c] 66
  have HB1 := Lib.hid hb1
  have HNC := Lib.hid hN
  obtain ⟨b0, b1, b2, b3, bf⟩ := hx1.four
  clear hb1 hx1 hN hz1
  go_enter Tryz.func64, Tryz.ntmps64
  go_wp2_with fail
  (try rw [hw1])
  clear hw1
  (go_wp2_with fail; go_fit (HNC.out _); rintro e w4 ⟨rfl, hb4⟩)
  go_wp2
  go_ret
  exact ⟨rfl, Ext.trans' HB1.out hb4⟩
set_option maxHeartbeats 4000000 in
theorem plain_name {q : ByteArray → List UInt8} {nm : Int → List UInt8} {vs : List Int} (k : Int) (hk0 : (k == 0) = false) (hk1 : (k == 1) = false) (n : Int) (s : ByteArray) (ts : List Tm) (hQ : QC q s)
    (hlen : (q s).length + (argsW q nm vs true ts).length ≤ 1000000) {w : World} {wb : Nat} {vv : Value} (hw : WrAt w wb vv vs) (a : Option Addr) (c : Nat) (hT : Tms w (.slice a ts.length c) ts)
    (hC : ∀ x ∈ ts, ∀ (wq : World) (v : Value), TmV wq x v → WrAt wq wb vv vs → Calls Tryz.prog 64 #[.pointer (some ⟨wb, 0, none⟩), v] wq fun e w' => e = .returned (.string (baS (plainW q nm vs x))) ∧ Below wq.heap.size wq w') :
    Calls Tryz.prog 64 #[.pointer (some ⟨wb, 0, none⟩), .agg #[.int .i64 k, .int .i64 n, .string s, .slice a ts.length c]] w fun e w' => e = .returned (.string (baS (if ts.isEmpty then q s else q s ++ argsW q nm vs true ts ++ [41]))) ∧ Below w.heap.size w w' := by
  obtain ⟨m, hm⟩ : ∃ m, ts.length = m := ⟨_, rfl⟩
  have HE := Lib.hid (show ts.isEmpty = decide (m = 0) by rw [← hm]; cases ts <;> simp)
  obtain ⟨l1, l2⟩ : ts.length ≤ c ∧ c ≤ maxLen := by
    obtain ⟨a', c', e', l1, l2, l3⟩ := hT.len
    cases e'
    exact ⟨l1, l2⟩
  rw [hm] at hT l1 ⊢
  unfold maxLen at l2
  obtain ⟨w1, hw1, hb1, hz1, hx1⟩ := box_new w #[.int .i64 k, .int .i64 n, .string s, .slice a m c] 66
  have HB1 := Lib.hid hb1
  have HT := Lib.hid hT
  have HW := Lib.hid hw
  have HM := Lib.hid hm
  have HC := Lib.hid hC
  have HQ := Lib.hid hQ
  have HLN := Lib.hid hlen
  obtain ⟨b0, b1, b2, b3, bf⟩ := hx1.four
  obtain ⟨Q, hq⟩ : ∃ Q, baS (q s) = Q := ⟨_, rfl⟩
  have hQ2 : ∀ w, Calls Tryz.prog 101 #[.string s] w fun e w' => e = .returned (.string Q) ∧ Below w.heap.size w w' := by rw [← hq]; exact hQ
  have HQ2 := Lib.hid hQ2
  have HQE := Lib.hid (show bl Q = q s by rw [← hq, bl_baS])
  obtain ⟨R, hR⟩ : ∃ R, (baS (if ts.isEmpty then q s else q s ++ argsW q nm vs true ts ++ [41])) = R := ⟨_, rfl⟩
  have HR := Lib.hid (show bl R = (if ts.isEmpty then q s else q s ++ argsW q nm vs true ts ++ [41]) by rw [← hR, bl_baS])
  rw [hR]
  clear hb1 hx1 hz1 hT hw hm hC hQ hlen hq hQ2 hR
  go_enter Tryz.func64, Tryz.ntmps64
  go_wp2_with fail
  (try rw [hw1])
  clear hw1
  (go_wp2_with fail; go_fit (HQ2.out _); rintro e w2 ⟨rfl, hb2⟩)
  have HB2 := Lib.hid (Ext.trans' HB1.out hb2)
  have b3 := cell_later hb2 b3
  clear hb2
  go_wp2_with fail
  go_loopw [6, 7] (fun p v wr => ∃ (j : Nat) (acc : ByteArray), j ≤ m ∧ v = .int .i64 j ∧ p = .string acc ∧ Hid (bl acc ++ argsW q nm vs (decide (j = 0)) (ts.drop j) = q s ++ argsW q nm vs true ts) ∧ Hid (Below w2.heap.size w2 wr)) (fun _ v _ => m - (intOf v).toNat)
  case atStart => exact ⟨0, Q, Nat.zero_le _, rfl, rfl, Lib.hid (by rw [HQE.out]; rfl), Lib.hid (Below.refl _ _)⟩
  case round =>
    obtain ⟨j, acc, hj, rfl, rfl, HA, HB⟩ := hrel
    have b3 := cell_later HB.out b3
    have hacc : acc.size ≤ 1000000 := by
      have h1 := congrArg List.length HA.out
      have h2 := HLN.out
      rw [List.length_append, List.length_append] at h1
      rw [size_bl]
      omega
    by_cases hlt : j < m
    · obtain ⟨x, hx⟩ : ∃ x, ts[j]? = some x := ⟨_, List.getElem?_eq_getElem (by rw [HM.out]; exact hlt)⟩
      have HBW := Lib.hid (Ext.trans' HB2.out HB.out)
      obtain ⟨b, off, xk, xn, xs', xu, rfl, hbb, ek, en, es, c0, c1, c2, c3, _, htx⟩ := (HT.out.ext HBW.out).get hx
      have hdr := args_drop q nm vs ts j x true hx
      simp only [Bool.true_and] at hdr
      have HCX := Lib.hid (HC.out x (List.mem_of_getElem? hx) wr _ htx (HW.out.ext HBW.out))
      obtain ⟨Z, hZ⟩ : ∃ Z, baS (plainW q nm vs x) = Z := ⟨_, rfl⟩
      have hZb : bl Z = plainW q nm vs x := by rw [← hZ, bl_baS]
      have hA := HA.out
      rw [hdr, ← hZb] at hA
      have hZs : acc.size + Z.size ≤ 1000000 := by
        have h1 := congrArg List.length hA
        have h2 := HLN.out
        simp only [List.length_append, List.length_cons] at h1
        rw [size_bl, size_bl]
        omega
      have HAZ := Lib.hid hA
      rw [hZ] at HCX
      clear hx ek en es htx hdr hZ hZb hA HA
      have hjj : (j : Int) < m := by omega
      by_cases hj0 : j = 0
      · subst hj0
        simp only [Nat.zero_mul, Nat.add_zero] at c0 c1 c2 c3
        (go_wp2_with fail; go_fit (HCX.out); rintro e w4 ⟨rfl, hb4⟩)
        have HB4 := Lib.hid (Ext.trans' HB.out hb4)
        have HAF := Lib.hid (show bl (acc ++ ⟨#[40]⟩ ++ Z) ++ argsW q nm vs (decide (0 + 1 = 0)) (ts.drop (0 + 1)) = q s ++ argsW q nm vs true ts by
          rw [← HAZ.out, bl_cat, bl_cat]
          simp [bl])
        clear hb4
        go_wp2
        go_roundw
        case rel => exact ⟨0 + 1, acc ++ ⟨#[40]⟩ ++ Z, hlt, by go_num, rfl, HAF, HB4⟩
        case measure => simp [intOf]; omega
      · have hjf : ((j : Int) == 0) = false := beq_false_of_ne (by omega)
        (go_wp2_with fail; go_fit (HCX.out); rintro e w4 ⟨rfl, hb4⟩)
        have HB4 := Lib.hid (Ext.trans' HB.out hb4)
        have HAF := Lib.hid (show bl (acc ++ ⟨#[44]⟩ ++ Z) ++ argsW q nm vs (decide (j + 1 = 0)) (ts.drop (j + 1)) = q s ++ argsW q nm vs true ts by
          rw [← HAZ.out, bl_cat, bl_cat]
          simp [bl, hj0])
        clear hb4
        go_wp2
        go_roundw
        case rel => exact ⟨j + 1, acc ++ ⟨#[44]⟩ ++ Z, hlt, by go_num, rfl, HAF, HB4⟩
        case measure => simp [intOf]; omega
    · have hjm : j = m := by omega
      subst hjm
      have HAE := Lib.hid (show bl acc = q s ++ argsW q nm vs true ts by
        rw [← HA.out, List.drop_of_length_le (by rw [HM.out]; exact Nat.le_refl _)]
        simp [argsW])
      by_cases hj0 : j = 0
      · subst hj0
        have HRE := Lib.hid (show acc = R by
          apply bl_eq
          rw [HAE.out, HR.out, HE.out]
          have : ts = [] := List.length_eq_zero_iff.1 HM.out
          simp [this, argsW])
        go_wp2
        go_ret
        exact ⟨congrArg Ending.returned (congrArg Value.string HRE.out), Ext.trans' HB2.out HB.out⟩
      · have hjp : (0 : Int) < j := by omega
        have HRE := Lib.hid (show acc ++ ⟨#[41]⟩ = R by
          apply bl_eq
          show bl _ = bl _
          rw [bl_cat, HAE.out, HR.out, HE.out]
          simp [hj0, bl])
        go_wp2
        go_ret
        exact ⟨congrArg Ending.returned (congrArg Value.string HRE.out), Ext.trans' HB2.out HB.out⟩
end Go.Proofs.YtobdhcaoeholhaaGreatDoor
/- The document's own writing without operators; what the law's text answers. -/
namespace Go.Proofs.YtobdhcaoeholhaaGreatDoor
open Go.Shelf Go.RowKit
set_option linter.unusedVariables false

theorem args_len (q : ByteArray → List UInt8) (nm : Int → List UInt8) (vs : List Int) : ∀ (ts : List Tm) (first : Bool) (x : Tm), x ∈ ts → (plainW q nm vs x).length ≤ (argsW q nm vs first ts).length
  | y :: r, first, x, h => by
    rw [argsW]
    simp only [List.length_append, List.length_cons]
    rcases List.mem_cons.1 h with rfl | h
    · omega
    · have := args_len q nm vs r false x h
      omega
theorem plainT_at {q : ByteArray → List UInt8} {nm : Int → List UInt8} {vs : List Int} (hN : ∀ i : Nat, i < vs.length → NC nm i) (hl : ∀ i : Nat, i < vs.length → (nm i).length ≤ 1000) (wb : Nat) (vv : Value) :
    ∀ (N : Nat) (t : Tm), sizeN t < N → mayW (QC q) (NC nm) t → (plainW q nm vs t).length ≤ 1000000 → ∀ (w : World) (v : Value), TmV w t v → WrAt w wb vv vs →
      Calls Tryz.prog 64 #[.pointer (some ⟨wb, 0, none⟩), v] w fun e w' => e = .returned (.string (baS (plainW q nm vs t))) ∧ Below w.heap.size w w'
  | 0, t, ht, _, _, w, v, _, _ => by omega
  | N + 1, .mk k n s ts, ht, hm, hlen, w, v, hv, hw => by
    obtain ⟨u, rfl, hs, hk64, hn64, hu⟩ := tmV_iff.1 hv
    obtain ⟨a, c, rfl, _⟩ := hu.len
    rw [mayW] at hm
    rw [plainW] at hlen ⊢
    by_cases h0 : k = 0
    · subst h0
      rw [if_pos rfl]
      exact plain_var (q := q) hw hN n s a ts.length c hl
    · rw [if_neg h0] at hlen ⊢
      by_cases h1 : k = 1
      · subst h1
        rw [if_pos rfl]
        exact plain_int (q := q) (vs := vs) n (hm.1 rfl) s a ts.length c
      · rw [if_neg h1] at hlen ⊢
        have hq : (q s).length + (argsW q nm vs true ts).length ≤ 1000000 := by
          cases ts with
          | nil => simp [argsW] at hlen ⊢; omega
          | cons x r => simp at hlen ⊢; omega
        refine plain_name k (beq_false_of_ne h0) (beq_false_of_ne h1) n s ts (hm.2.1 h0 h1) hq hw a c hu (fun x hx wq vx hvx hwx => ?_)
        have := sizes_mem hx
        rw [sizeN] at ht
        have := args_len q nm vs ts true x hx
        exact plainT_at hN hl wb vv N x (by omega) (mays_mem hm.2.2 hx) (by omega) wq vx hvx hwx
theorem short_at (s : ByteArray) (hs : s.size ≤ 4096) (w : World) : Calls Tryz.prog 61 #[.string s] w fun e w' => e = .returned (.tuple #[.string s, .int .i64 0]) ∧ w = w' := by
  have hd : decide ((4096 : Int) < (s.size : Int)) = false := decide_eq_false (by omega)
  go_enter Tryz.func61, Tryz.ntmps61
  go_wp2
  go_ret2
  exact ⟨rfl, rfl⟩
set_option maxHeartbeats 4000000 in
theorem plain8_at {q : ByteArray → List UInt8} {nm : Int → List UInt8} {t : Tm} (hg : goodT t = true) (hm : mayW (QC q) (NC nm) t) (hN : ∀ i : Nat, i < (varsT t []).length → NC nm i) (hl : ∀ i : Nat, i < (varsT t []).length → (nm i).length ≤ 1000)
    (hlen : (plainW q nm (varsT t []) t).length ≤ 4096) {w : World} {v : Value} (hv : TmV w t v) :
    Calls Tryz.prog 34 #[v] w fun e w' => e = .returned (.tuple #[.string (baS (plainW q nm (varsT t []) t)), .int .i64 0]) ∧ Below w.heap.size w w' := by
  obtain ⟨k, n, s, a, m, c, rfl⟩ := hv.full
  obtain ⟨w1, hw1, hb1, hz1, hx1⟩ := box_new w #[.int .i64 k, .int .i64 n, .string s, .slice a m c] 66
  have HV := Lib.hid hv
  have HB1 := Lib.hid hb1
  have HG := rgood_at t w1 _ (TmV.ext hb1 _ _ hv)
  rw [hg] at HG
  have HG := Lib.hid HG
  obtain ⟨Z, hZ⟩ : ∃ Z, baS (plainW q nm (varsT t []) t) = Z := ⟨_, rfl⟩
  have hZs : Z.size ≤ 4096 := by rw [← hZ, size_bl, bl_baS]; exact hlen
  have HP := Lib.hid (fun (wb : Nat) (vv : Value) (wq : World) (hq : Below w.heap.size w wq) (hw : WrAt wq wb vv (varsT t [])) => plainT_at hN hl wb vv _ t (Nat.lt_succ_self _) hm (by omega) wq _ (TmV.ext hq _ _ hv) hw)
  rw [hZ] at HP
  have HVA := Lib.hid (fun (wq : World) (hq : Below w.heap.size w wq) => rVars_at t wq _ (TmV.ext hq _ _ hv))
  rw [hg] at HVA
  simp only [if_true] at HVA
  have HS := Lib.hid (fun wq => short_at Z hZs wq)
  rw [hZ]
  obtain ⟨b0, b1, b2, b3, bf⟩ := hx1.four
  have HX1 := Lib.hid hx1
  clear hv hb1 hx1 hz1 hg hZ hZs hm hN hl hlen
  go_enter Tryz.func34, Tryz.ntmps34
  go_wp2_with fail
  (try rw [hw1])
  clear hw1
  (go_wp2_with fail; go_fit (HG.out); rintro e w2 ⟨rfl, hb2⟩)
  have HB2 := Lib.hid (Ext.trans' HB1.out hb2)
  obtain ⟨b0, b1, b2, b3, bf⟩ := (HX1.out.ext hb2).four
  clear hb2
  go_wp2_with fail
  refine wp_region_held_drew (S := fun w' => (w'.cell? ⟨w.heap.size, 0, none⟩ = some (.int .i64 k) ∧ w'.cell? ⟨w.heap.size, 1, none⟩ = some (.int .i64 n) ∧ w'.cell? ⟨w.heap.size, 2, none⟩ = some (.string s) ∧ w'.cell? ⟨w.heap.size, 3, none⟩ = some (.slice a m c)) ∧ Below w2.heap.size w2 w') (by kernel_rfl) ⟨⟨b0, b1, b2, b3⟩, (Below.refl _ _).drew⟩ (fun hHeld => ?_)
  first | (refine held_t (i := 0) hHeld ?_; apply Exists.intro; refine ⟨fun wq hq => ?_, ?_⟩; (focus ((try dsimp only at hq); go_simp; (first | done | with_reducible rfl | fail)))) | refine held_s (i := 0) hHeld ?_ | fail
  first | (refine held_t (i := 4) hHeld ?_; apply Exists.intro; refine ⟨fun wq hq => ?_, ?_⟩; (focus ((try dsimp only at hq); go_simp; (first | done | with_reducible rfl | fail)))) | refine held_s (i := 4) hHeld ?_ | fail
  try simp only [Act.put, List.setIfInBounds_toArray, List.set_cons_zero, List.set_cons_succ]
  refine held_c 1 fun K hK => ?_
  go_simp
  (go_at_call 62; refine (HVA.out _ (Ext.trans' HB2.out hHeld.2)).mono ?_; rintro e w3 ⟨vv, rfl, hnv, hb3⟩; obtain ⟨va, vc, rfl, _⟩ := hnv.len; have HNV := Lib.hid hnv; clear hnv)
  refine hK.out _ _ (⟨⟨cell_later hb3 hHeld.1.1, cell_later hb3 hHeld.1.2.1, cell_later hb3 hHeld.1.2.2.1, cell_later hb3 hHeld.1.2.2.2⟩, Ext.trans' hHeld.2 hb3⟩) (fun hHeld => ?_)
  clear hK K
  try simp only [Act.put, List.setIfInBounds_toArray, List.set_cons_zero, List.set_cons_succ]
  first | (refine held_t (i := 2) hHeld ?_; apply Exists.intro; refine ⟨fun wq hq => ?_, ?_⟩; (focus ((try dsimp only at hq); go_simp; (first | done | with_reducible rfl | fail)))) | refine held_s (i := 2) hHeld ?_ | fail
  try simp only [Act.put, List.setIfInBounds_toArray, List.set_cons_zero, List.set_cons_succ]
  refine held_c 3 fun K hK => ?_
  go_simp
  skip
  refine hK.out _ _ (⟨⟨cell_later (bel1' _ _) hHeld.1.1, cell_later (bel1' _ _) hHeld.1.2.1, cell_later (bel1' _ _) hHeld.1.2.2.1, cell_later (bel1' _ _) hHeld.1.2.2.2⟩, Ext.trans' hHeld.2 (bel1' _ _)⟩) (fun hHeld => ?_)
  clear hK K
  try simp only [Act.put, List.setIfInBounds_toArray, List.set_cons_zero, List.set_cons_succ]
  refine held_c 5 fun K hK => ?_
  go_simp
  (go_at_call 64; refine (HP.out _ _ _ (Ext.trans' HB2.out hHeld.2) ⟨by simp, HNV.out.ext (bel1' _ _)⟩).mono ?_; rintro e w4 ⟨rfl, hb4⟩)
  refine hK.out _ _ (⟨⟨cell_later hb4 hHeld.1.1, cell_later hb4 hHeld.1.2.1, cell_later hb4 hHeld.1.2.2.1, cell_later hb4 hHeld.1.2.2.2⟩, Ext.trans' hHeld.2 hb4⟩) (fun hHeld => ?_)
  clear hK K
  try simp only [Act.put, List.setIfInBounds_toArray, List.set_cons_zero, List.set_cons_succ]
  refine held_c 6 fun K hK => ?_
  go_simp
  (go_at_call 61; refine (HS.out _).mono ?_; rintro e w5 ⟨rfl, rfl⟩)
  refine hK.out _ _ (hHeld) (fun hHeld => ?_)
  clear hK K
  try simp only [Act.put, List.setIfInBounds_toArray, List.set_cons_zero, List.set_cons_succ]
  first | (refine held_t (i := 7) hHeld ?_; apply Exists.intro; refine ⟨fun wq hq => ?_, ?_⟩; (focus ((try dsimp only at hq); go_simp; (first | done | with_reducible rfl | fail)))) | refine held_s (i := 7) hHeld ?_ | fail
  first | (refine held_t (i := 8) hHeld ?_; apply Exists.intro; refine ⟨fun wq hq => ?_, ?_⟩; (focus ((try dsimp only at hq); go_simp; (first | done | with_reducible rfl | fail)))) | refine held_s (i := 8) hHeld ?_ | fail
  first | (refine held_t (i := 9) hHeld ?_; apply Exists.intro; refine ⟨fun wq hq => ?_, ?_⟩; (focus ((try dsimp only at hq); go_simp; (first | done | with_reducible rfl | fail)))) | refine held_s (i := 9) hHeld ?_ | fail
  first | (refine held_t (i := 10) hHeld ?_; apply Exists.intro; refine ⟨fun wq hq => ?_, ?_⟩; (focus ((try dsimp only at hq); go_simp; (first | done | with_reducible rfl | fail)))) | refine held_s (i := 10) hHeld ?_ | fail
  try simp only [Act.put, List.setIfInBounds_toArray, List.set_cons_zero, List.set_cons_succ]
  refine wpAnyH_done (by kernel_rfl) ?_ _
  have HF := Lib.hid (Ext.trans' HB2.out hHeld.2)
  go_wp2
  go_ret2
  exact ⟨rfl, HF.out⟩
/-- A read term is good. -/
theorem one_good {xs : List O} {s : List UInt8} {t : Tm} {ns : List NmP} (h : readB oneR xs s = .ok (t, ns)) : goodT t = true := by
  unfold readB oneR at h
  split at h
  · split at h
    · split at h
      · cases h
      · split at h
        · split at h
          · rename_i hg
            cases h
            exact hg
          · cases h
        · cases h
    · cases h
  · cases h
theorem oldNo' (w : World) : Old (fun _ => false) w := fun _ _ => rfl
set_option maxHeartbeats 2000000 in
theorem text_ok {q : ByteArray → List UInt8} {nm : Int → List UInt8} {s : ByteArray} {t : Tm} {ns : List NmP} (h : readB oneR opsB (bl s) = .ok (t, ns)) (hm : mayW (QC q) (NC nm) t) (hN : ∀ i : Nat, i < (varsT t []).length → NC nm i) (hl : ∀ i : Nat, i < (varsT t []).length → (nm i).length ≤ 1000)
    (hlen : (plainW q nm (varsT t []) t).length ≤ 4096) (hs : s.size ≤ 4096) {w : World} (he : Err w) :
    Calls Tryz.prog 14 #[.string s] w fun e w' => e = .returned (.string (baS (plainW q nm (varsT t []) t))) ∧ Below w.heap.size w w' := by
  have hg := one_good h
  have HT := Lib.hid (fun (wq : World) (hq : Below w.heap.size w wq) (v : Value) (ho : Ops wq v opsB) => term8_at ho s (he.ext hq) (by omega))
  rw [h] at HT
  have HPl := Lib.hid (plain_walk w)
  have HP8 := Lib.hid (fun (wq : World) (v : Value) (hv : TmV wq t v) => plain8_at hg hm hN hl hlen hv)
  obtain ⟨Z, hZ⟩ : ∃ Z, baS (plainW q nm (varsT t []) t) = Z := ⟨_, rfl⟩
  rw [hZ] at HP8
  rw [hZ]
  clear h he hs hg hm hN hl hlen hZ
  go_enter Tryz.func14, Tryz.ntmps14
  (go_wp2_with fail; go_fit (HPl.out); rintro e w1 ⟨v, rfl, ho, hb1⟩)
  have HC := Lib.hid ((HT.out w1 hb1 v ho).mono fun e w' (hp : TermX w1 (.ok (t, ns)) e w') => (show (∃ v vn, e = .returned (.tuple #[v, vn, .int .i64 0]) ∧ TmV w' t v ∧ Nms w' vn ns) ∧ Below w1.heap.size w1 w' from hp))
  have HB1 := Lib.hid hb1
  clear ho hb1 HT
  (go_wp2_with fail; go_fit (HC.out); rintro e w2 ⟨⟨v2, vn, rfl, hv2, hn2⟩, hb2⟩)
  obtain ⟨k2, n2, s2, a2, m2, c2, rfl⟩ := hv2.full
  obtain ⟨w3, hw3, hb3, hz3, hx3⟩ := box_new w2 #[.int .i64 k2, .int .i64 n2, .string s2, .slice a2 m2 c2] 27
  have HO := Lib.hid (own_at t (fun _ => false) w3 _ (oldNo' w3) (TmV.ext hb3 _ _ hv2))
  have HB3 := Lib.hid (Ext.trans' (Ext.trans' HB1.out hb2) hb3)
  obtain ⟨b0, b1, b2, b3, bf⟩ := hx3.four
  clear hv2 hn2 hb2 hb3 hx3 hz3 HC
  go_wp2_with fail
  (try rw [hw3])
  clear hw3
  (go_wp2_with fail; go_fit (HO.out); rintro e w4 ⟨v4, rfl, hv4, hb4⟩)
  have HC4 := Lib.hid (HP8.out w4 v4 hv4.bare)
  have HB4 := Lib.hid (Ext.trans' HB3.out hb4)
  clear hv4 hb4
  (go_wp2_with fail; go_fit (HC4.out); rintro e w5 ⟨rfl, hb5⟩)
  have HB5 := Lib.hid (Ext.trans' HB4.out hb5)
  clear hb5
  go_wp2
  go_ret
  exact ⟨rfl, HB5.out⟩
end Go.Proofs.YtobdhcaoeholhaaGreatDoor
/- The document's own Quote at names of one letter. -/
namespace Go.Proofs.YtobdhcaoeholhaaGreatDoor
open Go.Shelf Go.RowKit
set_option linter.unusedVariables false
set_option maxRecDepth 100000

theorem blank_97 (w : World) : Calls Tryz.prog 113 #[.int .u8 97] w fun e w' => e = .returned (.bool false) ∧ w = w' := by
  go_enter Tryz.func113, Tryz.ntmps113
  go_wp2
  go_ret
  exact ⟨rfl, rfl⟩
theorem small_97 (w : World) : Calls Tryz.prog 151 #[.int .u8 97] w fun e w' => e = .returned (.bool true) ∧ w = w' := by
  go_enter Tryz.func151, Tryz.ntmps151
  go_wp2
  go_ret
  exact ⟨rfl, rfl⟩
theorem great_97 (w : World) : Calls Tryz.prog 152 #[.int .u8 97] w fun e w' => e = .returned (.bool false) ∧ w = w' := by
  go_enter Tryz.func152, Tryz.ntmps152
  go_wp2
  go_ret
  exact ⟨rfl, rfl⟩
theorem word_97 (w : World) : Calls Tryz.prog 153 #[.int .u8 97] w fun e w' => e = .returned (.bool true) ∧ w = w' := by
  go_enter Tryz.func153, Tryz.ntmps153
  go_wp2_with (first | (go_at_call 151; refine (small_97 _).mono ?_; rintro e w' ⟨rfl, rfl⟩) | (go_at_call 152; refine (great_97 _).mono ?_; rintro e w' ⟨rfl, rfl⟩))
  go_ret
  exact ⟨rfl, rfl⟩
theorem blank_61 (w : World) : Calls Tryz.prog 113 #[.int .u8 61] w fun e w' => e = .returned (.bool false) ∧ w = w' := by
  go_enter Tryz.func113, Tryz.ntmps113
  go_wp2
  go_ret
  exact ⟨rfl, rfl⟩
theorem small_61 (w : World) : Calls Tryz.prog 151 #[.int .u8 61] w fun e w' => e = .returned (.bool false) ∧ w = w' := by
  go_enter Tryz.func151, Tryz.ntmps151
  go_wp2
  go_ret
  exact ⟨rfl, rfl⟩
theorem great_61 (w : World) : Calls Tryz.prog 152 #[.int .u8 61] w fun e w' => e = .returned (.bool false) ∧ w = w' := by
  go_enter Tryz.func152, Tryz.ntmps152
  go_wp2
  go_ret
  exact ⟨rfl, rfl⟩
theorem digit_61 (w : World) : Calls Tryz.prog 154 #[.int .u8 61] w fun e w' => e = .returned (.bool false) ∧ w = w' := by
  go_enter Tryz.func154, Tryz.ntmps154
  go_wp2
  go_ret
  exact ⟨rfl, rfl⟩
theorem symbol_61 (w : World) : Calls Tryz.prog 158 #[.int .u8 61] w fun e w' => e = .returned (.bool true) ∧ w = w' := by
  go_enter Tryz.func158, Tryz.ntmps158
  go_wp2_with fail
  refine wp_loop_rounds 9 ?_
  rw [rounds_succ]
  go_wp2_with fail
  rw [rounds_succ]
  go_wp2_with fail
  rw [rounds_succ]
  go_wp2_with fail
  rw [rounds_succ]
  go_wp2_with fail
  rw [rounds_succ]
  go_wp2_with fail
  rw [rounds_succ]
  go_wp2_with fail
  rw [rounds_succ]
  go_wp2_with fail
  rw [rounds_succ]
  go_wp2_with fail
  rw [rounds_succ]
  go_wp2
  go_ret
  exact ⟨rfl, rfl⟩
theorem blank_43 (w : World) : Calls Tryz.prog 113 #[.int .u8 43] w fun e w' => e = .returned (.bool false) ∧ w = w' := by
  go_enter Tryz.func113, Tryz.ntmps113
  go_wp2
  go_ret
  exact ⟨rfl, rfl⟩
theorem small_43 (w : World) : Calls Tryz.prog 151 #[.int .u8 43] w fun e w' => e = .returned (.bool false) ∧ w = w' := by
  go_enter Tryz.func151, Tryz.ntmps151
  go_wp2
  go_ret
  exact ⟨rfl, rfl⟩
theorem great_43 (w : World) : Calls Tryz.prog 152 #[.int .u8 43] w fun e w' => e = .returned (.bool false) ∧ w = w' := by
  go_enter Tryz.func152, Tryz.ntmps152
  go_wp2
  go_ret
  exact ⟨rfl, rfl⟩
theorem digit_43 (w : World) : Calls Tryz.prog 154 #[.int .u8 43] w fun e w' => e = .returned (.bool false) ∧ w = w' := by
  go_enter Tryz.func154, Tryz.ntmps154
  go_wp2
  go_ret
  exact ⟨rfl, rfl⟩
theorem symbol_43 (w : World) : Calls Tryz.prog 158 #[.int .u8 43] w fun e w' => e = .returned (.bool true) ∧ w = w' := by
  go_enter Tryz.func158, Tryz.ntmps158
  go_wp2_with fail
  refine wp_loop_rounds 1 ?_
  rw [rounds_succ]
  go_wp2
  go_ret
  exact ⟨rfl, rfl⟩
end Go.Proofs.YtobdhcaoeholhaaGreatDoor
