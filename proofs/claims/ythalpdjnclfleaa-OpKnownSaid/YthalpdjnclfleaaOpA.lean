/- Operators: where the one of a name and side is. -/
import Derived.Test.YthalpdjnclfleaaOp
import Derived.Shelf.SlicesQ.IndexFunc
import Derived.Lib.SliceRun
import Derived.Test.YthalpdjnclfleaaLayX
namespace Go.Proofs.Ythalpdjnclfleaa
open Go.Shelf Go.RowKit

def isAt (n : List UInt8) (s : Int) (y : O) : Bool := (bl y.n == n) && (sideB (bl y.k) == s)
/-- The first place of that name and side, or -1. -/
def placeB (xs : List O) (n : List UInt8) (s : Int) : Int := Lib.idxBy (fun _ y => isAt n s y) xs default
def Ops (w : World) (v : Value) (xs : List O) : Prop := Elems 3 oCells w v xs
theorem Ops.ext {w w' : World} {v : Value} {xs : List O} (h : Ops w v xs) (hb : Below w.heap.size w w') : Ops w' v xs := Elems.ext h hb

theorem pred_walk (n : ByteArray) (s : Int) (b1 b2 : Nat) (hne : b1 ≠ b2) (w : World) (h1 : w.cell? ⟨b1, 0, none⟩ = some (.string n)) (h2 : w.cell? ⟨b2, 0, none⟩ = some (.int .i64 s)) (l1 : b1 < w.heap.size) (l2 : b2 < w.heap.size) (y : O) :
    Calls Try.prog 32 #[.agg #[.string y.n, .string y.k, .int .i64 y.l], .pointer (some ⟨b1, 0, none⟩), .pointer (some ⟨b2, 0, none⟩)] w fun e w' => e = .returned (.bool (isAt (bl n) s y)) ∧ Below w.heap.size w w' := by
  rcases y with ⟨yn, yk, yl⟩
  have hS := side_walk yk
  show Calls _ _ _ _ fun e w' => e = .returned (.bool ((bl yn == bl n) && (sideB (bl yk) == s))) ∧ _
  obtain ⟨z, hz⟩ : ∃ z, sideB (bl yk) = z := ⟨_, rfl⟩
  rw [hz]; rw [hz] at hS; clear hz
  have HS := Lib.hid hS; clear hS
  have n1 : b1 ≠ w.heap.size := by omega
  have n2 : b2 ≠ w.heap.size := by omega
  rw [show (bl yn == bl n) = (yn.toList == n.toList) by rw [Lib.toList_data, Lib.toList_data]]
  cases h3 : (yn.toList == n.toList)
  · go_enter Try.func32, Try.ntmps32
    go_wp2_with fail
    go_quiet (fail)
    go_wp2
    go_ret
    exact ⟨rfl, bel_drewN (bel1' _ _) _⟩
  · cases h4 : (z == s)
    · go_enter Try.func32, Try.ntmps32
      go_wp2_with fail
      go_quiet ((go_at_call 26; exact Calls.quiet_of_same ((HS.out _).mono fun _ _ ⟨a, b⟩ => ⟨a, b.symm⟩)))
      go_wp2
      go_ret
      exact ⟨rfl, bel_drewN (bel1' _ _) _⟩
    · go_enter Try.func32, Try.ntmps32
      go_wp2_with fail
      go_quiet ((go_at_call 26; exact Calls.quiet_of_same ((HS.out _).mono fun _ _ ⟨a, b⟩ => ⟨a, b.symm⟩)))
      go_wp2
      go_ret
      exact ⟨rfl, bel_drewN (bel1' _ _) _⟩

theorem index_none (a : Option Addr) (c : Nat) (f : Value) (w : World) : Calls Try.prog 31 #[.slice a 0 c, f] w fun e w' => e = .returned (.int .i64 (-1)) ∧ w = w' := by
  go_enter Try.func31, Try.ntmps31
  go_wp2_with fail
  refine wp_loop_rounds 1 ?_
  rw [rounds_succ]
  go_wp2
  go_ret
  exact ⟨rfl, rfl⟩
end Go.Proofs.Ythalpdjnclfleaa
