/- Package lex: its small functions on bytes. -/
import Derived.Test.YtdjdkhbaemjnnaaDoorLexS
import Derived.Test.YtdjdkhbaemjnnaaDoorStr
import Derived.Test.YtdjdkhbaemjnnaaDoorShelf
import Derived.Test.YtdjdkhbaemjnnaaDoorRows
namespace Go.Proofs.YtdjdkhbaemjnnaaDoor
open Go.RowKit

theorem u8_all {f g : UInt8 → Bool} (h : ((List.range 256).all fun n => f (UInt8.ofNat n) == g (UInt8.ofNat n)) = true) (c : UInt8) : f c = g c := by
  have h1 := List.all_eq_true.1 h c.toNat (List.mem_range.2 c.toNat_lt)
  have e : UInt8.ofNat c.toNat = c := by simp
  rw [e] at h1
  exact eq_of_beq h1
theorem small_eq : ∀ c, smallB c = (decide (97 ≤ (c.toNat : Int)) && decide ((c.toNat : Int) ≤ 122)) := u8_all (by decide +kernel)
theorem great_eq : ∀ c, greatB c = ((decide (65 ≤ (c.toNat : Int)) && decide ((c.toNat : Int) ≤ 90)) || ((c.toNat : Int) == 95)) := u8_all (by decide +kernel)
theorem digit_eq : ∀ c, digitB c = (decide (48 ≤ (c.toNat : Int)) && decide ((c.toNat : Int) ≤ 57)) := u8_all (by decide +kernel)
def shownB (c : UInt8) : Bool := decide (32 ≤ c) && decide (c ≤ 126)
theorem shown_eq : ∀ c, shownB c = (decide (32 ≤ (c.toNat : Int)) && decide ((c.toNat : Int) ≤ 126)) := u8_all (by decide +kernel)
def lineB (c : UInt8) : Bool := c != 10
theorem line_eq : ∀ c, lineB c = ((c.toNat : Int) != 10) := u8_all (by decide +kernel)
def soloB (c : UInt8) : Bool := c == 59 || c == 33
def markB (c : UInt8) : Bool := [40, 41, 91, 93, 123, 125, 44, 124].contains c
def amongB (l : List UInt8) (c : UInt8) : Bool := decide (0 ≤ Lib.indexByte l c)
theorem among_blank : ∀ c, amongB [32, 9, 10, 13] c = blankB c := u8_all (by decide +kernel)
theorem among_sym : ∀ c, amongB [43, 45, 42, 47, 92, 94, 60, 62, 61, 126, 58, 46, 63, 64, 35, 38, 36] c = symB c := u8_all (by decide +kernel)
theorem among_solo : ∀ c, amongB [59, 33] c = soloB c := u8_all (by decide +kernel)
theorem among_mark : ∀ c, amongB [40, 41, 91, 93, 123, 125, 44, 124] c = markB c := u8_all (by decide +kernel)

theorem small_any (c : UInt8) (w : World) : Calls Tryd.prog 23 #[.int .u8 c.toNat] w fun e w' => e = .returned (.bool (smallB c)) ∧ w = w' := by
  go_enter Tryd.func23, Tryd.ntmps23
  go_wp2
  all_goals go_ret
  all_goals exact ⟨ret_bool (by rw [small_eq]; simp_all; try omega), rfl⟩
theorem great_any (c : UInt8) (w : World) : Calls Tryd.prog 25 #[.int .u8 c.toNat] w fun e w' => e = .returned (.bool (greatB c)) ∧ w = w' := by
  have hg := great_eq c
  cases h1 : decide (65 ≤ (c.toNat : Int)) <;> cases h2 : decide ((c.toNat : Int) ≤ 90) <;> cases h3 : ((c.toNat : Int) == 95)
  all_goals
    rw [h1, h2, h3] at hg
    have HG := Lib.hid hg
    clear hg
    simp only [decide_eq_true_eq, decide_eq_false_iff_not] at h1 h2
    go_enter Tryd.func25, Tryd.ntmps25
    go_wp2
    go_ret
    exact ⟨ret_bool (by rw [HG.out]; rfl), rfl⟩
theorem digit_any (c : UInt8) (w : World) : Calls Tryd.prog 26 #[.int .u8 c.toNat] w fun e w' => e = .returned (.bool (digitB c)) ∧ w = w' := by
  go_enter Tryd.func26, Tryd.ntmps26
  go_wp2
  all_goals go_ret
  all_goals exact ⟨ret_bool (by rw [digit_eq]; simp_all; try omega), rfl⟩
theorem shown_any (c : UInt8) (w : World) : Calls Tryd.prog 15 #[.int .u8 c.toNat] w fun e w' => e = .returned (.bool (shownB c)) ∧ w = w' := by
  go_enter Tryd.func15, Tryd.ntmps15
  go_wp2
  all_goals go_ret
  all_goals exact ⟨ret_bool (by rw [shown_eq]; simp_all; try omega), rfl⟩
theorem line_any (c : UInt8) (w : World) : Calls Tryd.prog 18 #[.int .u8 c.toNat] w fun e w' => e = .returned (.bool (lineB c)) ∧ w = w' := by
  go_enter Tryd.func18, Tryd.ntmps18
  go_wp2
  all_goals go_ret
  all_goals exact ⟨ret_bool (by rw [line_eq]), rfl⟩
theorem word_any (c : UInt8) (w : World) : Calls Tryd.prog 24 #[.int .u8 c.toNat] w fun e w' => e = .returned (.bool (wordB c)) ∧ w = w' := by
  have hw : wordB c = (smallB c || greatB c || digitB c) := rfl
  have HW := Lib.hid hw
  clear hw
  have A := fun w => small_any c w
  have B := fun w => great_any c w
  have D := fun w => digit_any c w
  generalize smallB c = x at A HW
  generalize greatB c = y at B HW
  generalize digitB c = z at D HW
  cases x
  · cases y
    · go_enter Tryd.func24, Tryd.ntmps24
      go_wp2_with (first | (go_at_call 23; go_fit (A _); rintro e w' ⟨rfl, rfl⟩) | (go_at_call 25; go_fit (B _); rintro e w' ⟨rfl, rfl⟩) | (go_at_call 26; go_fit (D _); rintro e w' ⟨rfl, rfl⟩))
      go_ret
      exact ⟨ret_bool (by rw [HW.out]; rfl), rfl⟩
    · go_enter Tryd.func24, Tryd.ntmps24
      go_wp2_with (first | (go_at_call 23; go_fit (A _); rintro e w' ⟨rfl, rfl⟩) | (go_at_call 25; go_fit (B _); rintro e w' ⟨rfl, rfl⟩) | (go_at_call 26; go_fit (D _); rintro e w' ⟨rfl, rfl⟩))
      go_ret
      exact ⟨ret_bool (by rw [HW.out]; rfl), rfl⟩
  · go_enter Tryd.func24, Tryd.ntmps24
    go_wp2_with (first | (go_at_call 23; go_fit (A _); rintro e w' ⟨rfl, rfl⟩) | (go_at_call 25; go_fit (B _); rintro e w' ⟨rfl, rfl⟩) | (go_at_call 26; go_fit (D _); rintro e w' ⟨rfl, rfl⟩))
    go_ret
    exact ⟨ret_bool (by rw [HW.out]; rfl), rfl⟩
theorem among_any (t : ByteArray) (c : UInt8) (w : World) : Calls Tryd.prog 16 #[.string t, .int .u8 c.toNat] w fun e w' => e = .returned (.bool (amongB (bl t) c)) ∧ w = w' := by
  have I := fun w => (Tryd.strings_IndexByte t c.toNat w)
  have e : (Int.toNat (c.toNat : Int)).toUInt8 = c := by simp
  simp only [e] at I
  have hi : amongB (bl t) c = decide (0 ≤ Lib.indexByte t.data.toList c) := rfl
  have HI := Lib.hid hi
  clear hi
  generalize Lib.indexByte t.data.toList c = z at I HI
  by_cases hz : 0 ≤ z
  all_goals
    go_enter Tryd.func16, Tryd.ntmps16
    go_wp2_with (go_at_call 22; go_fit (I _); rintro e w' ⟨rfl, rfl⟩)
    go_ret
    exact ⟨ret_bool (by rw [HI.out] <;> simp [hz]), rfl⟩
theorem blank_any (c : UInt8) (w : World) : Calls Tryd.prog 16 #[.string ⟨#[32, 9, 10, 13]⟩, .int .u8 c.toNat] w fun e w' => e = .returned (.bool (blankB c)) ∧ w = w' := by
  rw [← among_blank]; exact among_any ⟨#[32, 9, 10, 13]⟩ c w
theorem sym_any (c : UInt8) (w : World) : Calls Tryd.prog 16 #[.string ⟨#[43, 45, 42, 47, 92, 94, 60, 62, 61, 126, 58, 46, 63, 64, 35, 38, 36]⟩, .int .u8 c.toNat] w fun e w' => e = .returned (.bool (symB c)) ∧ w = w' := by
  rw [← among_sym]; exact among_any ⟨#[43, 45, 42, 47, 92, 94, 60, 62, 61, 126, 58, 46, 63, 64, 35, 38, 36]⟩ c w
theorem solo_any (c : UInt8) (w : World) : Calls Tryd.prog 16 #[.string ⟨#[59, 33]⟩, .int .u8 c.toNat] w fun e w' => e = .returned (.bool (soloB c)) ∧ w = w' := by
  rw [← among_solo]; exact among_any ⟨#[59, 33]⟩ c w
theorem mark_any (c : UInt8) (w : World) : Calls Tryd.prog 16 #[.string ⟨#[40, 41, 91, 93, 123, 125, 44, 124]⟩, .int .u8 c.toNat] w fun e w' => e = .returned (.bool (markB c)) ∧ w = w' := by
  rw [← among_mark]; exact among_any ⟨#[40, 41, 91, 93, 123, 125, 44, 124]⟩ c w
theorem prefix_any (s p : ByteArray) (w : World) : Calls Tryd.prog 29 #[.string s, .string p] w fun e w' => e = .returned (.bool (Lib.hasPrefix (bl s) (bl p))) ∧ w = w' :=
  (Tryd.strings_HasPrefix s p w).mono fun _ _ h => ⟨h.1, h.2.symm⟩

/-- How many bytes of a kind stand from a place on. -/
def twK (p : UInt8 → Bool) (l : List UInt8) (k : Nat) : Nat := ((l.drop k).takeWhile p).length
theorem tw_in {p : UInt8 → Bool} {l : List UInt8} {k : Nat} (h : k < l.length) (hp : p l[k] = true) : twK p l k = twK p l (k + 1) + 1 := by
  unfold twK
  rw [List.drop_eq_getElem_cons h, List.takeWhile_cons, if_pos hp]
  rfl
theorem tw_out {p : UInt8 → Bool} {l : List UInt8} {k : Nat} (h : k < l.length) (hp : p l[k] = false) : twK p l k = 0 := by
  unfold twK
  rw [List.drop_eq_getElem_cons h, List.takeWhile_cons, if_neg (by simp [hp])]
  rfl
theorem tw_end {p : UInt8 → Bool} {l : List UInt8} {k : Nat} (h : l.length ≤ k) : twK p l k = 0 := by
  unfold twK
  rw [List.drop_eq_nil_of_le h]; rfl
end Go.Proofs.YtdjdkhbaemjnnaaDoor
