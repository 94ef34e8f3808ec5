/- Package lex: what the document tells of a call; a token is like a token. -/
import Derived.Test.YtdjdkhbaemjnnaaDoorLexO
import Derived.Laws.StructEq
import Derived.Test.YtdjdkhbaemjnnaaDoorOpen
namespace Go.Proofs.YtdjdkhbaemjnnaaDoor
open Go.RowKit
set_option linter.unusedVariables false

theorem eq_tok (k1 k2 n1 n2 p1 p2 : Int) (t1 t2 : ByteArray) (o1 o2 : Bool) (w : World) :
    (Op.equalIn 10000 30 (.agg #[.int .i64 k1, .string t1, .int .i64 n1, .bool o1, .int .i64 p1]) (.agg #[.int .i64 k2, .string t2, .int .i64 n2, .bool o2, .int .i64 p2])).run Tryd.prog w = .ok ((k1 == k2) && ((t1.toList == t2.toList) && ((n1 == n2) && ((o1 == o2) && (p1 == p2))))) w := by
  have u3 := Tryd.underlying3
  have a3 := Tryd.isAgg3
  have z3 := Tryd.sizeOf3
  have u9 := Tryd.underlying9
  have a9 := Tryd.isAgg9
  have z9 := Tryd.sizeOf9
  have u2 := Tryd.underlying2
  have a2 := Tryd.isAgg2
  have z2 := Tryd.sizeOf2
  have u4 := Tryd.underlying4
  have a4 := Tryd.isAgg4
  have z4 := Tryd.sizeOf4
  have hS : Tryd.prog.underlying 30 = some (.struct (Tryd.prog.fieldsOf 30)) := by kernel_rfl
  have hp : Tryd.prog.stoodInHeld 30 = false := by kernel_rfl
  rw [show (10000 : Nat) = 9999 + 1 from rfl, run_equalIn_agg w 9999 30 _ _ hS hp]
  simp only [Program.fieldsOf, Tryd.underlying30]
  go_simp
  by_cases h1 : k1 = k2 <;> by_cases h2 : t1.toList = t2.toList <;> by_cases h3 : n1 = n2 <;> by_cases h4 : o1 = o2 <;> by_cases h5 : p1 = p2 <;> simp [h1, h2, h3, h4, h5]
def awL : List (TokB × Nat) := [(⟨1, [97], 0, 1, true⟩, 0), (⟨5, [40], 0, 1, false⟩, 1), (⟨3, [88], 0, 1, false⟩, 2), (⟨5, [41], 0, 1, false⟩, 3), (⟨6, [], 0, 1, false⟩, 4)]
theorem aw_cut : cutB (bl ⟨#[97, 40, 88, 41, 46]⟩) = .ok awL := by kernel_rfl
theorem aw_plain : plainB (bl ⟨#[97]⟩) = true := by kernel_rfl
set_option maxHeartbeats 2000000 in
theorem awake_at {w : World} (he : Err w) : Calls Tryd.prog 8 #[] w fun e w' => e = .returned (.bool true) ∧ Below w.heap.size w w' := by
  have C := fun w h => @cut_ok ⟨#[97, 40, 88, 41, 46]⟩ awL w h (by decide) aw_cut
  have P := fun w h => plain_any ⟨#[97]⟩ w h (by decide)
  rw [aw_plain] at P
  have C' : ∀ w, Err w → Calls Tryd.prog 9 #[.string ⟨#[97, 40, 88, 41, 46]⟩] w fun e w' => ∃ (ao : Option Addr) (cv : Nat), e = .returned (.tuple #[.slice ao 5 cv, .int .i64 5, .int .i64 0]) ∧ Toks w' (.slice ao 5 cv) awL ∧ Below w.heap.size w w' := C
  have heq : ∀ wq, (Op.equalIn 10000 30 (.agg #[.int .i64 1, .string ⟨#[97]⟩, .int .i64 0, .bool true, .int .i64 0]) (.agg #[.int .i64 1, .string ⟨#[97]⟩, .int .i64 0, .bool true, .int .i64 0])).run Tryd.prog wq = .ok true wq := fun wq => by rw [eq_tok]; simp
  clear C
  go_enter Tryd.func8, Tryd.ntmps8
  (go_wp2_with fail; go_fit (C' _ he); rintro e w1 ⟨ao, cv, rfl, ht1, b1⟩)
  have he1 := he.ext b1
  obtain ⟨b, off, rfl, hb, c0, c1, c2, c3, c4⟩ := ht1.cells (k := 0) (x := (⟨1, [97], 0, 1, true⟩, 0)) rfl
  obtain ⟨b', off', e', _, d0, _, _, _, _⟩ := ht1.cells (k := 4) (x := (⟨6, [], 0, 1, false⟩, 4)) rfl
  cases e'
  replace c0 : w1.cell? ⟨b, off, none⟩ = some (.int .i64 1) := c0
  replace c1 : w1.cell? ⟨b, off + 1, none⟩ = some (.string ⟨#[97]⟩) := c1
  replace c2 : w1.cell? ⟨b, off + 2, none⟩ = some (.int .i64 0) := c2
  replace c3 : w1.cell? ⟨b, off + 3, none⟩ = some (.bool true) := c3
  replace c4 : w1.cell? ⟨b, off + 4, none⟩ = some (.int .i64 0) := c4
  replace d0 : w1.cell? ⟨b, off + 20, none⟩ = some (.int .i64 6) := d0
  have B1 := Lib.hid b1
  clear ht1 b1
  go_wp2_with (go_at_call 11; go_fit (P _ he1); rintro e w2 ⟨rfl, b2⟩)
  go_ret
  exact ⟨rfl, Ext.trans' B1.out (by assumption)⟩
end Go.Proofs.YtdjdkhbaemjnnaaDoor
