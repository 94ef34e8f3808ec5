/- What LexKnown's closed texts are: by reckoning alone. -/
import Derived.Test.YtdjdkhbaemjnnaaDoorLexX
namespace Go.Proofs.YtdjdkhbaemjnnaaDoor
open Go.RowKit
set_option linter.unusedVariables false
theorem qt0 {w : World} (he : Err w) : Calls Tryd.prog 10 #[.string ⟨#[97, 32, 98]⟩] w fun e w' => e = .returned (.string ⟨#[39, 97, 32, 98, 39]⟩) ∧ Below w.heap.size w w' := by
  have h := quote_any ⟨#[97, 32, 98]⟩ w he (by decide)
  rw [show quoteB (bl ⟨#[97, 32, 98]⟩) = [39, 97, 32, 98, 39] from by kernel_rfl] at h
  exact h
theorem qt1 {w : World} (he : Err w) : Calls Tryd.prog 10 #[.string ⟨#[105, 116, 39, 115]⟩] w fun e w' => e = .returned (.string ⟨#[39, 105, 116, 92, 39, 115, 39]⟩) ∧ Below w.heap.size w w' := by
  have h := quote_any ⟨#[105, 116, 39, 115]⟩ w he (by decide)
  rw [show quoteB (bl ⟨#[105, 116, 39, 115]⟩) = [39, 105, 116, 92, 39, 115, 39] from by kernel_rfl] at h
  exact h
theorem qt2 {w : World} (he : Err w) : Calls Tryd.prog 10 #[.string ⟨#[]⟩] w fun e w' => e = .returned (.string ⟨#[39, 39]⟩) ∧ Below w.heap.size w w' := by
  have h := quote_any ⟨#[]⟩ w he (by decide)
  rw [show quoteB (bl ⟨#[]⟩) = [39, 39] from by kernel_rfl] at h
  exact h
theorem qt3 {w : World} (he : Err w) : Calls Tryd.prog 10 #[.string ⟨#[10]⟩] w fun e w' => e = .returned (.string ⟨#[39, 92, 110, 39]⟩) ∧ Below w.heap.size w w' := by
  have h := quote_any ⟨#[10]⟩ w he (by decide)
  rw [show quoteB (bl ⟨#[10]⟩) = [39, 92, 110, 39] from by kernel_rfl] at h
  exact h
theorem qt4 {w : World} (he : Err w) : Calls Tryd.prog 10 #[.string ⟨#[1]⟩] w fun e w' => e = .returned (.string ⟨#[]⟩) ∧ Below w.heap.size w w' := by
  have h := quote_any ⟨#[1]⟩ w he (by decide)
  rw [show quoteB (bl ⟨#[1]⟩) = [] from by kernel_rfl] at h
  exact h
theorem qt5 {w : World} (he : Err w) : Calls Tryd.prog 10 #[.string ⟨#[91, 93]⟩] w fun e w' => e = .returned (.string ⟨#[91, 93]⟩) ∧ Below w.heap.size w w' := by
  have h := quote_any ⟨#[91, 93]⟩ w he (by decide)
  rw [show quoteB (bl ⟨#[91, 93]⟩) = [91, 93] from by kernel_rfl] at h
  exact h
theorem qt6 {w : World} (he : Err w) : Calls Tryd.prog 10 #[.string ⟨#[46]⟩] w fun e w' => e = .returned (.string ⟨#[39, 46, 39]⟩) ∧ Below w.heap.size w w' := by
  have h := quote_any ⟨#[46]⟩ w he (by decide)
  rw [show quoteB (bl ⟨#[46]⟩) = [39, 46, 39] from by kernel_rfl] at h
  exact h
theorem qt7 {w : World} (he : Err w) : Calls Tryd.prog 10 #[.string ⟨#[61, 46, 46]⟩] w fun e w' => e = .returned (.string ⟨#[39, 61, 46, 46, 39]⟩) ∧ Below w.heap.size w w' := by
  have h := quote_any ⟨#[61, 46, 46]⟩ w he (by decide)
  rw [show quoteB (bl ⟨#[61, 46, 46]⟩) = [39, 61, 46, 46, 39] from by kernel_rfl] at h
  exact h
theorem qt8 {w : World} (he : Err w) : Calls Tryd.prog 10 #[.string ⟨#[59]⟩] w fun e w' => e = .returned (.string ⟨#[59]⟩) ∧ Below w.heap.size w w' := by
  have h := quote_any ⟨#[59]⟩ w he (by decide)
  rw [show quoteB (bl ⟨#[59]⟩) = [59] from by kernel_rfl] at h
  exact h
theorem qt9 {w : World} (he : Err w) : Calls Tryd.prog 10 #[.string ⟨#[88]⟩] w fun e w' => e = .returned (.string ⟨#[39, 88, 39]⟩) ∧ Below w.heap.size w w' := by
  have h := quote_any ⟨#[88]⟩ w he (by decide)
  rw [show quoteB (bl ⟨#[88]⟩) = [39, 88, 39] from by kernel_rfl] at h
  exact h
theorem pl37 {w : World} (he : Err w) : Calls Tryd.prog 11 #[.string ⟨#[37]⟩] w fun e w' => e = .returned (.bool false) ∧ Below w.heap.size w w' := by
  have h := plain_any ⟨#[37]⟩ w he (by decide)
  rw [show plainB (bl ⟨#[37]⟩) = false from by kernel_rfl] at h
  exact h
theorem bd0 {w : World} (he : Err w) : Calls Tryd.prog 9 #[.string ⟨#[97, 32, 34]⟩] w fun e w' => e = .returned (.tuple #[.slice none 0 0, .int .i64 2, .int .i64 2]) ∧ Below w.heap.size w w' :=
  cut_bad (p := 2) (o := false) he (by decide) (by kernel_rfl)
theorem bd1 {w : World} (he : Err w) : Calls Tryd.prog 9 #[.string ⟨#[39, 97]⟩] w fun e w' => e = .returned (.tuple #[.slice none 0 0, .int .i64 0, .int .i64 2]) ∧ Below w.heap.size w w' :=
  cut_bad (p := 0) (o := false) he (by decide) (by kernel_rfl)
theorem bd2 {w : World} (he : Err w) : Calls Tryd.prog 9 #[.string ⟨#[39, 92, 120, 39]⟩] w fun e w' => e = .returned (.tuple #[.slice none 0 0, .int .i64 0, .int .i64 2]) ∧ Below w.heap.size w w' :=
  cut_bad (p := 0) (o := false) he (by decide) (by kernel_rfl)
theorem bd3 {w : World} (he : Err w) : Calls Tryd.prog 9 #[.string ⟨#[39, 10, 39]⟩] w fun e w' => e = .returned (.tuple #[.slice none 0 0, .int .i64 0, .int .i64 2]) ∧ Below w.heap.size w w' :=
  cut_bad (p := 0) (o := false) he (by decide) (by kernel_rfl)
theorem bd4 {w : World} (he : Err w) : Calls Tryd.prog 9 #[.string ⟨#[97, 32, 1]⟩] w fun e w' => e = .returned (.tuple #[.slice none 0 0, .int .i64 2, .int .i64 2]) ∧ Below w.heap.size w w' :=
  cut_bad (p := 2) (o := false) he (by decide) (by kernel_rfl)
theorem bd5 {w : World} (he : Err w) : Calls Tryd.prog 9 #[.string ⟨#[57, 50, 50, 51, 51, 55, 50, 48, 51, 54, 56, 53, 52, 55, 55, 53, 56, 48, 56]⟩] w fun e w' => e = .returned (.tuple #[.slice none 0 0, .int .i64 0, .int .i64 3]) ∧ Below w.heap.size w w' :=
  cut_bad (p := 0) (o := true) he (by decide) (by kernel_rfl)
theorem bd6 {w : World} (he : Err w) : Calls Tryd.prog 9 #[.string ⟨#[39, 92]⟩] w fun e w' => e = .returned (.tuple #[.slice none 0 0, .int .i64 0, .int .i64 2]) ∧ Below w.heap.size w w' :=
  cut_bad (p := 0) (o := false) he (by decide) (by kernel_rfl)
def bigL : List (TokB × Nat) := [(⟨2, [105, 116, 39, 115, 10, 92], 0, 11, false⟩, 0), (⟨1, [91, 93], 0, 2, false⟩, 12), (⟨1, [123, 125], 0, 2, false⟩, 15), (⟨5, [91], 0, 1, false⟩, 18), (⟨5, [93], 0, 1, false⟩, 20), (⟨1, [61, 46], 0, 2, false⟩, 22), (⟨6, [], 0, 1, false⟩, 24), (⟨1, [97], 0, 1, false⟩, 26), (⟨1, [46], 0, 1, false⟩, 27), (⟨1, [98], 0, 1, false⟩, 28), (⟨3, [88, 95, 49], 0, 3, false⟩, 30), (⟨4, [], 12, 2, false⟩, 39), (⟨6, [], 0, 1, false⟩, 41)]
theorem big_cut : cutB (bl ⟨#[39, 105, 116, 39, 39, 115, 92, 110, 92, 92, 39, 32, 91, 93, 32, 123, 125, 32, 91, 32, 93, 32, 61, 46, 46, 32, 97, 46, 98, 32, 88, 95, 49, 32, 37, 32, 110, 111, 10, 49, 50, 46]⟩) = .ok bigL := by kernel_rfl
theorem bg {w : World} (he : Err w) : Calls Tryd.prog 9 #[.string ⟨#[39, 105, 116, 39, 39, 115, 92, 110, 92, 92, 39, 32, 91, 93, 32, 123, 125, 32, 91, 32, 93, 32, 61, 46, 46, 32, 97, 46, 98, 32, 88, 95, 49, 32, 37, 32, 110, 111, 10, 49, 50, 46]⟩] w fun e w' => ∃ (ao : Option Addr) (cv : Nat), e = .returned (.tuple #[.slice ao 13 cv, .int .i64 42, .int .i64 0]) ∧ Toks w' (.slice ao 13 cv) bigL ∧ Below w.heap.size w w' :=
  cut_ok (l := bigL) he (by decide) big_cut
theorem long_a : cutB (List.replicate 65 97) = .bad 0 true := by kernel_rfl
theorem long_q : quoteB (List.replicate 65 97) = [] := quote_long (by simp)
theorem long_b : cutB (List.replicate 4097 32) = .bad 4096 true := by
  unfold cutB
  rw [if_pos (by rw [List.length_replicate]; decide)]
def badL : List ByteArray := [⟨#[97, 32, 34]⟩, ⟨#[39, 97]⟩, ⟨#[39, 92, 120, 39]⟩, ⟨#[39, 10, 39]⟩, ⟨#[97, 32, 1]⟩, ⟨#[57, 50, 50, 51, 51, 55, 50, 48, 51, 54, 56, 53, 52, 55, 55, 53, 56, 48, 56]⟩, ⟨#[39, 92]⟩]
def atL : List Int := [2, 0, 0, 0, 2, 0, 0]
def BadAt (w w' : World) (g : Nat) : Prop := (∀ (k : Nat) (x : ByteArray), badL[k]? = some x → w'.cell? ⟨g, k, none⟩ = some (.string x)) ∧ (∀ (k : Nat) (x : Int), atL[k]? = some x → w'.cell? ⟨g + 1, k, none⟩ = some (.int .i64 x)) ∧ Below w.heap.size w w'
theorem BadAt.ext {w w1 w' : World} {g : Nat} (h : BadAt w w1 g) (hb : Below w1.heap.size w1 w') : BadAt w w' g :=
  ⟨fun k x hx => cell_later hb (h.1 k x hx), fun k x hx => cell_later hb (h.2.1 k x hx), Ext.trans' h.2.2 hb⟩
theorem BadAt.start {w w1 : World} (h : Below w.heap.size w w1) : BadAt w ((w1.alloc (.cells #[.string ⟨#[97, 32, 34]⟩, .string ⟨#[39, 97]⟩, .string ⟨#[39, 92, 120, 39]⟩, .string ⟨#[39, 10, 39]⟩, .string ⟨#[97, 32, 1]⟩, .string ⟨#[57, 50, 50, 51, 51, 55, 50, 48, 51, 54, 56, 53, 52, 55, 55, 53, 56, 48, 56]⟩, .string ⟨#[39, 92]⟩] 9)).alloc (.cells #[.int .i64 2, .int .i64 0, .int .i64 0, .int .i64 0, .int .i64 2, .int .i64 0, .int .i64 0] 3)) w1.heap.size := by
  refine ⟨fun k x hx => ?_, fun k x hx => ?_, (h.alloc h.size _).alloc (by have := h.size; simp; omega) _⟩
  · refine cell_later (bel1' _ _) ?_
    have := cell_new w1 #[.string ⟨#[97, 32, 34]⟩, .string ⟨#[39, 97]⟩, .string ⟨#[39, 92, 120, 39]⟩, .string ⟨#[39, 10, 39]⟩, .string ⟨#[97, 32, 1]⟩, .string ⟨#[57, 50, 50, 51, 51, 55, 50, 48, 51, 54, 56, 53, 52, 55, 55, 53, 56, 48, 56]⟩, .string ⟨#[39, 92]⟩] 9 k (.string x) (by
      have : (badL.map Value.string)[k]? = some (.string x) := by simp [hx]
      exact this)
    rw [add_plain, Nat.zero_add] at this
    exact this
  · have := cell_two w1 (.cells #[.string ⟨#[97, 32, 34]⟩, .string ⟨#[39, 97]⟩, .string ⟨#[39, 92, 120, 39]⟩, .string ⟨#[39, 10, 39]⟩, .string ⟨#[97, 32, 1]⟩, .string ⟨#[57, 50, 50, 51, 51, 55, 50, 48, 51, 54, 56, 53, 52, 55, 55, 53, 56, 48, 56]⟩, .string ⟨#[39, 92]⟩] 9) #[.int .i64 2, .int .i64 0, .int .i64 0, .int .i64 0, .int .i64 2, .int .i64 0, .int .i64 0] 3 k (.int .i64 x) (by
      have : (atL.map (Value.int .i64))[k]? = some (.int .i64 x) := by simp [hx]
      exact this)
    rw [add_plain, Nat.zero_add] at this
    exact this
theorem cat_rep (q : ByteArray) (c : UInt8) (k : Nat) (h : bl q = List.replicate k c) : bl (q ++ ⟨#[c]⟩) = List.replicate (k + 1) c := by
  rw [List.replicate_succ', ← h]; simp [bl]
end Go.Proofs.YtdjdkhbaemjnnaaDoor
