/- Operators: what they are, and the calls that only read one of them: side, may, mayAdd, Sides. -/
import Derived.Test.YthalpdjnclfleaaOpenE
import Derived.Test.YthalpdjnclfleaaStr
import Derived.LoopTactic
import Derived.Lib.Strings
import Derived.Lib.Hide
import Derived.Deep.QuietTactic
import Derived.BigQuiet
import Derived.Test.YthalpdjnclfleaaRows
namespace Go.Proofs.Ythalpdjnclfleaa
open Go.RowKit

structure O where
  n : ByteArray
  k : ByteArray
  l : Int
instance : Inhabited O := ⟨⟨⟨#[]⟩, ⟨#[]⟩, 0⟩⟩
def oCells (o : O) : List Value := [.string o.n, .string o.k, .int .i64 o.l]
abbrev oVal (o : O) : Value := .agg #[.string o.n, .string o.k, .int .i64 o.l]
def oOk (o : O) : Prop := o.n.size ≤ 140737488351232 ∧ o.k.size ≤ 140737488351232 ∧ (-9223372036854775808 ≤ o.l ∧ o.l ≤ 9223372036854775807)
theorem oCells_len (o : O) : (oCells o).length = 3 := rfl

/-- 2 between, 1 ahead, 0 none. -/
def sideB (k : List UInt8) : Int :=
  if k == [120, 102, 120] then 2 else if k == [120, 102, 121] then 2 else if k == [121, 102, 120] then 2 else if k == [102, 121] then 1 else if k == [102, 120] then 1 else 0
def mayB (n k : List UInt8) (l : Int) : Bool :=
  if n == [44] then k == [120, 102, 121] && l == 1000
  else if n == [] then false else if n == [124] then false else if n == [91, 93] then false else if n == [123, 125] then false
  else decide ((n.length : Int) ≤ 64) && (sideB k != 0) && decide (1 ≤ l) && decide (l ≤ 1200)
def sidesB (k : List UInt8) (l : Int) : Int × Int :=
  if k == [120, 102, 120] then (wrap64 (l - 1), wrap64 (l - 1)) else if k == [120, 102, 121] then (wrap64 (l - 1), l) else if k == [121, 102, 120] then (l, wrap64 (l - 1)) else if k == [102, 121] then (0, l) else if k == [102, 120] then (0, wrap64 (l - 1)) else (0, 0)

theorem side_walk (k : ByteArray) (w : World) : Calls Try.prog 26 #[.string k] w fun e w' => e = .returned (.int .i64 (sideB (bl k))) ∧ w = w' := by
  cases h1 : (k.toList == [120, 102, 120])
  · cases h2 : (k.toList == [120, 102, 121])
    · cases h3 : (k.toList == [121, 102, 120])
      · cases h4 : (k.toList == [102, 121])
        · cases h5 : (k.toList == [102, 120])
          · go_enter Try.func26, Try.ntmps26
            go_wp2
            go_ret
            refine ⟨ret_int ?_, rfl⟩
            rw [Lib.toList_data] at h1 h2 h3 h4 h5
            simp [sideB, bl, h1, h2, h3, h4, h5]
          · go_enter Try.func26, Try.ntmps26
            go_wp2
            go_ret
            refine ⟨ret_int ?_, rfl⟩
            rw [Lib.toList_data] at h1 h2 h3 h4 h5
            simp [sideB, bl, h1, h2, h3, h4, h5]
        · go_enter Try.func26, Try.ntmps26
          go_wp2
          go_ret
          refine ⟨ret_int ?_, rfl⟩
          rw [Lib.toList_data] at h1 h2 h3 h4
          simp [sideB, bl, h1, h2, h3, h4]
      · go_enter Try.func26, Try.ntmps26
        go_wp2
        go_ret
        refine ⟨ret_int ?_, rfl⟩
        rw [Lib.toList_data] at h1 h2 h3
        simp [sideB, bl, h1, h2, h3]
    · go_enter Try.func26, Try.ntmps26
      go_wp2
      go_ret
      refine ⟨ret_int ?_, rfl⟩
      rw [Lib.toList_data] at h1 h2
      simp [sideB, bl, h1, h2]
  · go_enter Try.func26, Try.ntmps26
    go_wp2
    go_ret
    refine ⟨ret_int ?_, rfl⟩
    rw [Lib.toList_data] at h1
    simp [sideB, bl, h1]

theorem tests_bl {n : ByteArray} {l : List UInt8} {b : Bool} (h : (n.toList == l) = b) : (bl n == l) = b := by rw [Lib.toList_data] at h; exact h
theorem bel_drewN {B : Nat} {a w : World} (h : Below B a w) (n : Nat) : Below B a (w.drewN n) := ⟨h.os, h.tape, h.output, h.size, h.block⟩
theorem bel1' (w : World) (o : Obj) : Below w.heap.size w (w.alloc o) := (Below.refl _ _).alloc (Nat.le_refl _) o
set_option maxRecDepth 100000
set_option maxHeartbeats 1000000 in
/-- May an operator be. -/
theorem may_walk (n k : ByteArray) (l : Int) (w : World) :
    Calls Try.prog 29 #[.agg #[.string n, .string k, .int .i64 l]] w fun e w' => e = .returned (.bool (mayB (bl n) (bl k) l)) ∧ Below w.heap.size w w' := by
  cases h0 : (n.toList == [44])
  · cases h1 : (n.toList == [])
    · cases h2 : (n.toList == [124])
      · cases h3 : (n.toList == [91, 93])
        · cases h4 : (n.toList == [123, 125])
          · have hE : mayB (bl n) (bl k) l = (decide ((n.size : Int) ≤ 64) && (sideB (bl k) != 0) && decide (1 ≤ l) && decide (l ≤ 1200)) := by
              unfold mayB; rw [tests_bl h0, tests_bl h1, tests_bl h2, tests_bl h3, tests_bl h4]; rfl
            rw [hE]; clear hE
            have hS := side_walk k
            obtain ⟨z, hz⟩ : ∃ z, sideB (bl k) = z := ⟨_, rfl⟩
            rw [hz]; rw [hz] at hS; clear hz
            have HS := Lib.hid hS; clear hS
            cases h5 : decide ((n.size : Int) ≤ 64)
            · go_enter Try.func29, Try.ntmps29
              go_wp2
              go_ret
              exact ⟨rfl, bel1' _ _⟩
            · cases h6 : (z != 0)
              · go_enter Try.func29, Try.ntmps29
                (go_wp2_with fail; go_fit (HS.out _); rintro e w' ⟨rfl, rfl⟩)
                go_wp2
                go_ret
                exact ⟨rfl, bel1' _ _⟩
              · cases h7 : decide (1 ≤ l)
                · go_enter Try.func29, Try.ntmps29
                  (go_wp2_with fail; go_fit (HS.out _); rintro e w' ⟨rfl, rfl⟩)
                  go_wp2
                  go_ret
                  exact ⟨rfl, bel1' _ _⟩
                · cases h8 : decide (l ≤ 1200)
                  · go_enter Try.func29, Try.ntmps29
                    (go_wp2_with fail; go_fit (HS.out _); rintro e w' ⟨rfl, rfl⟩)
                    go_wp2
                    go_ret
                    exact ⟨rfl, bel1' _ _⟩
                  · go_enter Try.func29, Try.ntmps29
                    (go_wp2_with fail; go_fit (HS.out _); rintro e w' ⟨rfl, rfl⟩)
                    go_wp2
                    go_ret
                    exact ⟨rfl, bel1' _ _⟩
          · have hE : mayB (bl n) (bl k) l = false := by unfold mayB; simp only [tests_bl h0, tests_bl h1, tests_bl h2, tests_bl h3, tests_bl h4, if_true]; rfl
            rw [hE]; clear hE
            go_enter Try.func29, Try.ntmps29
            go_wp2
            go_ret
            exact ⟨rfl, bel1' _ _⟩
        · have hE : mayB (bl n) (bl k) l = false := by unfold mayB; simp only [tests_bl h0, tests_bl h1, tests_bl h2, tests_bl h3, if_true]; rfl
          rw [hE]; clear hE
          go_enter Try.func29, Try.ntmps29
          go_wp2
          go_ret
          exact ⟨rfl, bel1' _ _⟩
      · have hE : mayB (bl n) (bl k) l = false := by unfold mayB; simp only [tests_bl h0, tests_bl h1, tests_bl h2, if_true]; rfl
        rw [hE]; clear hE
        go_enter Try.func29, Try.ntmps29
        go_wp2
        go_ret
        exact ⟨rfl, bel1' _ _⟩
    · have hE : mayB (bl n) (bl k) l = false := by unfold mayB; simp only [tests_bl h0, tests_bl h1, if_true]; rfl
      rw [hE]; clear hE
      go_enter Try.func29, Try.ntmps29
      go_wp2
      go_ret
      exact ⟨rfl, bel1' _ _⟩
  · have hE : mayB (bl n) (bl k) l = ((k.toList == [120, 102, 121]) && (l == 1000)) := by unfold mayB; rw [if_pos (tests_bl h0)]; rw [Lib.toList_data]
    rw [hE]; clear hE
    cases h1 : (k.toList == [120, 102, 121])
    · go_enter Try.func29, Try.ntmps29
      go_wp2
      go_ret
      exact ⟨rfl, bel1' _ _⟩
    · cases h2 : (l == 1000)
      · go_enter Try.func29, Try.ntmps29
        go_wp2
        go_ret
        exact ⟨rfl, bel1' _ _⟩
      · go_enter Try.func29, Try.ntmps29
        go_wp2
        go_ret
        exact ⟨rfl, bel1' _ _⟩

/-- What 'may' takes also a level of 0 for. -/
def lev (l : Int) : Int := if l == 0 then 1 else l
theorem mayAdd_walk (n k : ByteArray) (l : Int) (w : World) :
    Calls Try.prog 24 #[.agg #[.string n, .string k, .int .i64 l]] w fun e w' => e = .returned (.bool (mayB (bl n) (bl k) (lev l))) ∧ Below w.heap.size w w' := by
  cases h : (l == 0)
  · have hE : lev l = l := by unfold lev; rw [h]; rfl
    rw [hE]; clear hE
    go_enter Try.func24, Try.ntmps24
    (go_wp2_with fail; go_fit (may_walk n k l _); rintro e w' ⟨rfl, hb⟩)
    go_wp2
    go_ret
    exact ⟨rfl, Below.trans (bel1' _ _) (hb.mono (by simp))⟩
  · have hE : lev l = 1 := by unfold lev; rw [h]; rfl
    rw [hE]; clear hE
    go_enter Try.func24, Try.ntmps24
    (go_wp2_with fail; go_fit (may_walk n k 1 _); rintro e w' ⟨rfl, hb⟩)
    go_wp2
    go_ret
    exact ⟨rfl, Below.trans (bel1' _ _) (hb.mono (by simp))⟩
theorem sides_walk (n k : ByteArray) (l : Int) (w : World) :
    Calls Try.prog 12 #[.agg #[.string n, .string k, .int .i64 l]] w fun e w' => e = .returned (.tuple #[.int .i64 (sidesB (bl k) l).1, .int .i64 (sidesB (bl k) l).2]) ∧ Below w.heap.size w w' := by
  cases h1 : (k.toList == [120, 102, 120])
  · cases h2 : (k.toList == [120, 102, 121])
    · cases h3 : (k.toList == [121, 102, 120])
      · cases h4 : (k.toList == [102, 121])
        · cases h5 : (k.toList == [102, 120])
          · have hE : sidesB (bl k) l = (0, 0) := by unfold sidesB; simp only [tests_bl h1, tests_bl h2, tests_bl h3, tests_bl h4, tests_bl h5, if_true]; try rfl
            rw [hE]; clear hE
            go_enter Try.func12, Try.ntmps12
            go_wp2
            go_ret2
            exact ⟨rfl, by first | exact bel1' _ _ | exact bel_drewN (bel1' _ _) _⟩
          · have hE : sidesB (bl k) l = (0, wrap64 (l - 1)) := by unfold sidesB; simp only [tests_bl h1, tests_bl h2, tests_bl h3, tests_bl h4, tests_bl h5, if_true]; try rfl
            rw [hE]; clear hE
            go_enter Try.func12, Try.ntmps12
            go_wp2_with fail
            go_quiet (fail)
            go_wp2
            go_ret2
            exact ⟨rfl, by first | exact bel1' _ _ | exact bel_drewN (bel1' _ _) _⟩
        · have hE : sidesB (bl k) l = (0, l) := by unfold sidesB; simp only [tests_bl h1, tests_bl h2, tests_bl h3, tests_bl h4, if_true]; try rfl
          rw [hE]; clear hE
          go_enter Try.func12, Try.ntmps12
          go_wp2_with fail
          go_quiet (fail)
          go_wp2
          go_ret2
          exact ⟨rfl, by first | exact bel1' _ _ | exact bel_drewN (bel1' _ _) _⟩
      · have hE : sidesB (bl k) l = (l, wrap64 (l - 1)) := by unfold sidesB; simp only [tests_bl h1, tests_bl h2, tests_bl h3, if_true]; try rfl
        rw [hE]; clear hE
        go_enter Try.func12, Try.ntmps12
        go_wp2_with fail
        go_quiet (fail)
        go_wp2
        go_ret2
        exact ⟨rfl, by first | exact bel1' _ _ | exact bel_drewN (bel1' _ _) _⟩
    · have hE : sidesB (bl k) l = (wrap64 (l - 1), l) := by unfold sidesB; simp only [tests_bl h1, tests_bl h2, if_true]; try rfl
      rw [hE]; clear hE
      go_enter Try.func12, Try.ntmps12
      go_wp2_with fail
      go_quiet (fail)
      go_wp2
      go_ret2
      exact ⟨rfl, by first | exact bel1' _ _ | exact bel_drewN (bel1' _ _) _⟩
  · have hE : sidesB (bl k) l = (wrap64 (l - 1), wrap64 (l - 1)) := by unfold sidesB; simp only [tests_bl h1, if_true]; try rfl
    rw [hE]; clear hE
    go_enter Try.func12, Try.ntmps12
    go_wp2_with fail
    go_quiet (fail)
    go_wp2
    go_ret2
    exact ⟨rfl, by first | exact bel1' _ _ | exact bel_drewN (bel1' _ _) _⟩
end Go.Proofs.Ythalpdjnclfleaa
