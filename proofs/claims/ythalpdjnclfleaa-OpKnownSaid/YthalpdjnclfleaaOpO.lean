/- The document's own: between, ahead, one operator, the sides, the first of a name. -/
import Derived.Test.YthalpdjnclfleaaOpJ
import Derived.Laws.StructEq
namespace Go.Proofs.Ythalpdjnclfleaa
open Go.Shelf Go.RowKit

def betB (k : List UInt8) : Bool := (k == [120, 102, 120]) || (k == [120, 102, 121]) || (k == [121, 102, 120])
def aheadB (k : List UInt8) : Bool := (k == [102, 121]) || (k == [102, 120])
theorem bet_side (k : List UInt8) : betB k = (sideB k == 2) := by
  unfold betB sideB
  cases (k == [120, 102, 120]) <;> cases (k == [120, 102, 121]) <;> cases (k == [121, 102, 120]) <;> cases (k == [102, 121]) <;> cases (k == [102, 120]) <;> rfl
theorem side_or (k : List UInt8) : (betB k || aheadB k) = (sideB k != 0) := by
  unfold betB aheadB sideB
  cases (k == [120, 102, 120]) <;> cases (k == [120, 102, 121]) <;> cases (k == [121, 102, 120]) <;> cases (k == [102, 121]) <;> cases (k == [102, 120]) <;> rfl

theorem may_bounds {n k : List UInt8} {l : Int} (h : mayB n k l = true) : 1 ≤ l ∧ l ≤ 1200 := by
  unfold mayB at h
  split at h
  · simp at h
    omega
  · split at h
    · cases h
    · split at h
      · cases h
      · split at h
        · cases h
        · split at h
          · cases h
          · simp at h
            exact ⟨h.1.2, h.2⟩
theorem may_size {n k : List UInt8} {l : Int} (h : mayB n k l = true) : n.length ≤ 64 := by
  unfold mayB at h
  split at h
  · rename_i h1
    have : n = [44] := by simpa using h1
    rw [this]
    decide
  · split at h
    · cases h
    · split at h
      · cases h
      · split at h
        · cases h
        · split at h
          · cases h
          · simp at h
            omega
theorem may_not {n k : List UInt8} {l : Int} (h : (n == [] || n == [124] || n == [91, 93] || n == [123, 125]) = true) : mayB n k l = false := by
  simp at h
  rcases h with ((rfl | rfl) | rfl) | rfl <;> rfl

theorem between_walk (k : ByteArray) (w : World) : Calls Try.prog 28 #[.string k] w fun e w' => e = .returned (.bool (betB (bl k))) ∧ w = w' := by
  have hE : betB (bl k) = ((k.toList == [120, 102, 120]) || (k.toList == [120, 102, 121]) || (k.toList == [121, 102, 120])) := by unfold betB; rw [Lib.toList_data]
  rw [hE]; clear hE
  cases h1 : (k.toList == [120, 102, 120])
  · cases h2 : (k.toList == [120, 102, 121])
    · cases h3 : (k.toList == [121, 102, 120])
      · go_enter Try.func28, Try.ntmps28
        go_wp2
        go_ret
        exact ⟨rfl, rfl⟩
      · go_enter Try.func28, Try.ntmps28
        go_wp2
        go_ret
        exact ⟨rfl, rfl⟩
    · go_enter Try.func28, Try.ntmps28
      go_wp2
      go_ret
      exact ⟨rfl, rfl⟩
  · go_enter Try.func28, Try.ntmps28
    go_wp2
    go_ret
    exact ⟨rfl, rfl⟩
theorem ahead_walk (k : ByteArray) (w : World) : Calls Try.prog 33 #[.string k] w fun e w' => e = .returned (.bool (aheadB (bl k))) ∧ w = w' := by
  have hE : aheadB (bl k) = ((k.toList == [102, 121]) || (k.toList == [102, 120])) := by unfold aheadB; rw [Lib.toList_data]
  rw [hE]; clear hE
  cases h1 : (k.toList == [102, 121])
  · cases h2 : (k.toList == [102, 120])
    · go_enter Try.func33, Try.ntmps33
      go_wp2
      go_ret
      exact ⟨rfl, rfl⟩
    · go_enter Try.func33, Try.ntmps33
      go_wp2
      go_ret
      exact ⟨rfl, rfl⟩
  · go_enter Try.func33, Try.ntmps33
    go_wp2
    go_ret
    exact ⟨rfl, rfl⟩

set_option maxRecDepth 100000
set_option maxHeartbeats 2000000 in
theorem goodOp_walk (n k : ByteArray) (l : Int) (w : World) :
    Calls Try.prog 27 #[.agg #[.string n, .string k, .int .i64 l]] w fun e w' => e = .returned (.bool (mayB (bl n) (bl k) l)) ∧ Below w.heap.size w w' := by
  cases h0 : (n.toList == [])
  · cases h1 : decide ((n.size : Int) > 64)
    · cases h2 : (n.toList == [124])
      · cases h3 : (n.toList == [91, 93])
        · cases h4 : (n.toList == [123, 125])
          · cases h5 : decide (l < 1)
            · cases h6 : decide (l > 1200)
              · cases h7 : (n.toList == [44])
                · have hE : mayB (bl n) (bl k) l = (betB (bl k) || aheadB (bl k)) := by
                    have a1 : decide ((n.size : Int) ≤ 64) = true := by simp at h1 ⊢; omega
                    have a2 : decide (1 ≤ l) = true := by simp at h5 ⊢; omega
                    have a3 : decide (l ≤ 1200) = true := by simp at h6 ⊢; omega
                    rw [side_or]
                    unfold mayB
                    rw [tests_bl h0, tests_bl h2, tests_bl h3, tests_bl h4, tests_bl h7]
                    show (decide ((n.size : Int) ≤ 64) && _ && _ && _) = _
                    rw [a1, a2, a3]
                    simp
                  rw [hE]; clear hE
                  have hb := between_walk k
                  have ha := ahead_walk k
                  obtain ⟨p, hp⟩ : ∃ p, betB (bl k) = p := ⟨_, rfl⟩
                  obtain ⟨q, hq⟩ : ∃ q, aheadB (bl k) = q := ⟨_, rfl⟩
                  rw [hp] at hb
                  rw [hq] at ha
                  rw [hp, hq]
                  have HB := Lib.hid hb; have HA := Lib.hid ha
                  clear hb ha hp hq
                  cases p
                  · go_enter Try.func27, Try.ntmps27
                    (go_wp2_with fail; go_fit (HB.out _); rintro e w' ⟨rfl, rfl⟩)
                    (go_wp2_with fail; go_fit (HA.out _); rintro e w' ⟨rfl, rfl⟩)
                    go_wp2
                    go_ret
                    exact ⟨by simp, bel1' _ _⟩
                  · go_enter Try.func27, Try.ntmps27
                    (go_wp2_with fail; go_fit (HB.out _); rintro e w' ⟨rfl, rfl⟩)
                    go_wp2
                    go_ret
                    exact ⟨by simp, bel1' _ _⟩
                · have hE : mayB (bl n) (bl k) l = ((k.toList == [120, 102, 121]) && (l == 1000)) := by
                    unfold mayB; rw [if_pos (tests_bl h7)]; rw [Lib.toList_data]
                  rw [hE]; clear hE
                  cases h8 : (k.toList == [120, 102, 121])
                  · go_enter Try.func27, Try.ntmps27
                    go_wp2
                    go_ret
                    exact ⟨by simp, bel1' _ _⟩
                  · cases h9 : (l == 1000)
                    · go_enter Try.func27, Try.ntmps27
                      go_wp2
                      go_ret
                      exact ⟨by simp, bel1' _ _⟩
                    · go_enter Try.func27, Try.ntmps27
                      go_wp2
                      go_ret
                      exact ⟨by simp, bel1' _ _⟩
              · have hE : mayB (bl n) (bl k) l = false := by
                  simp at h6
                  cases hm : mayB (bl n) (bl k) l
                  · rfl
                  · have := may_bounds hm; omega
                rw [hE]; clear hE
                go_enter Try.func27, Try.ntmps27
                go_wp2
                go_ret
                exact ⟨rfl, bel1' _ _⟩
            · have hE : mayB (bl n) (bl k) l = false := by
                simp at h5
                cases hm : mayB (bl n) (bl k) l
                · rfl
                · have := may_bounds hm; omega
              rw [hE]; clear hE
              go_enter Try.func27, Try.ntmps27
              go_wp2
              go_ret
              exact ⟨rfl, bel1' _ _⟩
          · have hE : mayB (bl n) (bl k) l = false := may_not (by simp [tests_bl h4])
            rw [hE]; clear hE
            go_enter Try.func27, Try.ntmps27
            go_wp2
            go_ret
            exact ⟨rfl, bel1' _ _⟩
        · have hE : mayB (bl n) (bl k) l = false := may_not (by simp [tests_bl h3])
          rw [hE]; clear hE
          go_enter Try.func27, Try.ntmps27
          go_wp2
          go_ret
          exact ⟨rfl, bel1' _ _⟩
      · have hE : mayB (bl n) (bl k) l = false := may_not (by simp [tests_bl h2])
        rw [hE]; clear hE
        go_enter Try.func27, Try.ntmps27
        go_wp2
        go_ret
        exact ⟨rfl, bel1' _ _⟩
    · have hE : mayB (bl n) (bl k) l = false := by
        cases hm : mayB (bl n) (bl k) l
        · rfl
        · have := may_size hm
          simp at h1
          have e : (bl n).length = n.size := rfl
          omega
      rw [hE]; clear hE
      go_enter Try.func27, Try.ntmps27
      go_wp2
      go_ret
      exact ⟨rfl, bel1' _ _⟩
  · have hE : mayB (bl n) (bl k) l = false := may_not (by simp [tests_bl h0])
    rw [hE]; clear hE
    go_enter Try.func27, Try.ntmps27
    go_wp2
    go_ret
    exact ⟨rfl, bel1' _ _⟩
end Go.Proofs.Ythalpdjnclfleaa
