/- The laws' own helpers: names, awake. -/
import Derived.Test.YtpmjpnapokhkaaaLabC
import Derived.Test.YtpmjpnapokhkaaaOpen
namespace Go.Proofs.Ytpmjpnapokhkaaa
open Go.RowKit

def abc : List ByteArray := [⟨#[97]⟩, ⟨#[98]⟩, ⟨#[99]⟩]
def NewStrs (W : World) (ss : List ByteArray) (e : Ending) (w' : World) : Prop := ∃ v, e = .returned v ∧ Strs w' v ss ∧ Below W.heap.size W w'
/-- A slice that the text itself has just laid. -/
theorem strs_laid (w : World) (t : TypeId) (ss : List ByteArray) (n : Nat) (hn : ss.length = n) (h : n ≤ 100000) (hs : ∀ s ∈ ss, s.size ≤ 100000) : Strs (w.alloc (.cells (ss.map Value.string).toArray t)) (.slice (some ⟨w.heap.size, 0, none⟩) n n) ss := by
  subst hn
  refine ⟨_, _, rfl, Nat.le_refl _, by unfold maxLen; omega, by omega, fun s hm => by have := hs s hm; omega, Or.inr ⟨_, _, rfl, by simp, fun i x hx => ?_⟩⟩
  rw [World.cell?_alloc_at _ _ _ _ rfl]
  simp [hx]
theorem names_any (w : World) : Calls Try.prog 17 #[] w (NewStrs w abc) := by
  go_enter Try.func17, Try.ntmps17
  go_wp2
  go_ret
  exact ⟨_, rfl, strs_laid w 9 abc 3 rfl (by decide) (by decide), (Below.refl _ _).alloc (Nat.le_refl _) _⟩

theorem abc_parse : parse (abc.map bl) (bl ⟨#[123, 97, 44, 99, 125]⟩) = (5, true) := by decide +kernel
theorem abc_text : text (abc.map bl) 5 = [123, 97, 44, 99, 125] := by decide +kernel
theorem abc_good : goodNames (abc.map bl) = true := by decide +kernel

theorem parse_at {v : Value} {ss : List ByteArray} {w : World} (s : ByteArray) (l : Nat) (b : Bool) (h : Strs w v ss) (hs : s.size ≤ 100000) (he : parse (ss.map bl) (bl s) = (l, b)) :
    Calls Try.prog 5 #[v, .string s] w fun e w' => e = .returned (.tuple #[.int .u64 l, .bool b]) ∧ w = w' :=
  (parse_any s (by omega) h).mono fun e w' ⟨h1, h2⟩ => ⟨by rw [h1, he], h2⟩
theorem text_at {v : Value} {ss : List ByteArray} {w : World} (l : Nat) (t : ByteArray) (h : Strs w v ss) (hl : l < 18446744073709551616) (he : text (ss.map bl) l = bl t) :
    Calls Try.prog 11 #[v, .int .u64 l] w fun e w' => e = .returned (.string t) ∧ Below w.heap.size w w' :=
  (text_any l hl h).mono fun e w' ⟨h1, h2⟩ => ⟨by rw [h1, he], h2⟩

set_option maxHeartbeats 400000 in
theorem awake_any (w : World) : Calls Try.prog 4 #[] w (IsBool w true) := by
  go_enter Try.func4, Try.ntmps4
  go_wp2_with fail
  refine (names_any _).mono ?_; rintro e w1 ⟨v1, rfl, h1, b1⟩
  go_wp2_with fail
  refine (parse_at _ 5 true h1 (by decide) abc_parse).mono ?_; rintro e w1' ⟨rfl, rfl⟩
  go_wp2_with fail
  refine (names_any _).mono ?_; rintro e w2 ⟨v2, rfl, h2, b2⟩
  go_wp2_with fail
  refine (text_at 5 ⟨#[123, 97, 44, 99, 125]⟩ h2 (by decide) abc_text).mono ?_; rintro e w3 ⟨rfl, b3⟩
  go_wp2_with fail
  refine (names_any _).mono ?_; rintro e w4 ⟨v4, rfl, h4, b4⟩
  go_wp2_with fail
  refine (good_any h4).mono ?_; rintro e w4' ⟨rfl, rfl⟩
  rw [abc_good]
  go_wp2
  go_ret
  exact ⟨rfl, Ext.trans' b1 (Ext.trans' b2 (Ext.trans' b3 b4))⟩
end Go.Proofs.Ytpmjpnapokhkaaa
