/- The document's own answers for labels (sizarref1): letters, bits, good names. -/
import Derived.Test.YtpmjpnapokhkaaaLabL
import Derived.Test.YtpmjpnapokhkaaaSaysQ
import Derived.Deep.DeepCutAuto
import Derived.Deep.QuietTactic
import Derived.BigQuiet
namespace Go.Proofs.Ytpmjpnapokhkaaa
open Go.RowKit
set_option linter.unusedVariables false
theorem rsmall (c : UInt8) (w : World) : Calls Try.prog 21 #[.int .u8 (c.toNat : Int)] w fun e w' => e = .returned (.bool (isSmall c)) ∧ w = w' := by
  unfold isSmall
  by_cases h1 : 97 ≤ (c.toNat : Int) <;> by_cases h2 : (c.toNat : Int) ≤ 122
  all_goals
    go_enter Try.func21, Try.ntmps21
    go_wp2
    go_ret
    exact ⟨ret_bool (by simp [h1, h2]), rfl⟩
theorem rdigit (c : UInt8) (w : World) : Calls Try.prog 22 #[.int .u8 (c.toNat : Int)] w fun e w' => e = .returned (.bool (isDigit c)) ∧ w = w' := by
  unfold isDigit
  by_cases h1 : 48 ≤ (c.toNat : Int) <;> by_cases h2 : (c.toNat : Int) ≤ 57
  all_goals
    go_enter Try.func22, Try.ntmps22
    go_wp2
    go_ret
    exact ⟨ret_bool (by simp [h1, h2]), rfl⟩
theorem rhas (l i : Nat) (w : World) (hl : l < 18446744073709551616) (hi : i ≤ 1000) : Calls Try.prog 26 #[.int .u64 l, .int .i64 i] w fun e w' => e = .returned (.bool (l.testBit i)) ∧ w = w' := by
  generalize hr : l.testBit i = r
  have HR := Lib.hid hr; clear hr
  go_enter Try.func26, Try.ntmps26
  go_wp2
  go_loop [0, 1] (fun x y => ∃ (z : Int) (j : Nat), x = .int .u64 z ∧ y = .int .i64 j ∧ j ≤ 1000 ∧ Hid (∃ q : Nat, z = q ∧ q < 18446744073709551616 ∧ q.testBit j = r)) (fun _ y => (intOf y).toNat)
  case atStart => exact ⟨l, i, rfl, rfl, hi, Lib.hid ⟨l, rfl, hl, HR.out⟩⟩
  case round =>
    obtain ⟨z, j, rfl, rfl, hj, HQ⟩ := hrel
    by_cases h0 : j = 0
    · subst h0
      have e : (z.tmod 2 == 1) = r := by
        obtain ⟨q, rfl, hq, hb⟩ := HQ.out
        rw [← hb, Nat.testBit_zero, show (q : Int).tmod 2 = ((q % 2 : Nat) : Int) from rfl]
        by_cases h : q % 2 = 1
        · rw [h]; rfl
        · rw [decide_eq_false h]; exact beq_false_of_ne (by omega)
      go_wp2
      go_ret
      exact ⟨ret_bool (by first | exact e | rw [← e]), rfl⟩
    · have hj0 : (0 : Int) < j := by omega
      obtain ⟨y, hy, hy2, HN⟩ : ∃ y : Int, z.tdiv 2 = y ∧ IntKind.u64.wrap y = y ∧ Hid (∃ q : Nat, y = q ∧ q < 18446744073709551616 ∧ q.testBit (j - 1) = r) := by
        obtain ⟨q, rfl, hq, hb⟩ := HQ.out
        refine ⟨((q / 2 : Nat) : Int), rfl, by rw [IntKind.wrap_u64]; omega, Lib.hid ⟨q / 2, rfl, by omega, ?_⟩⟩
        rw [← Nat.testBit_succ, show (j - 1).succ = j by omega]; exact hb
      clear HQ
      go_wp2
      go_round
      case rel => exact ⟨y, j - 1, by go_num, by go_num, by omega, HN⟩
      case measure => simp [intOf]; omega
end Go.Proofs.Ytpmjpnapokhkaaa
