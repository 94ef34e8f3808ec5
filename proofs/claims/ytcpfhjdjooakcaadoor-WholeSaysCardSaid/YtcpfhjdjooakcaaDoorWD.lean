/- Package whole's Text, over the table that strconv reads; what the document tells of minus seven. -/
import Derived.Test.YtcpfhjdjooakcaaDoorWC
import Derived.Test.YtcpfhjdjooakcaaDoorShelf
import Derived.Lib.SmallJoins
import Derived.Lib.AppendIntMem
namespace Go.Proofs.YtcpfhjdjooakcaaDoor
open Go.RowKit

theorem gTab : Tryd.prog.globalNamed "internal/strconv.uint64pow10" = some 2 := by kernel_rfl
/-- The table of powers of ten lies as the program's text lays it. -/
def Tab (w : World) : Prop := Lib.TabIs Tryd.prog w "internal/strconv.uint64pow10" .u64 Lib.pow10Tab
theorem Tab.ext {w w' : World} (h : Tab w) (hb : Below w.heap.size w w') : Tab w' := Joins.tab_stays gTab h hb (Nat.le_refl _)
def numText (n : Int) : ByteArray := ⟨(Lib.itoa n).toArray⟩
theorem format_at {n : Int} {w : World} (ht : Tab w) (hn : R n) : Calls Tryd.prog 35 #[.int .i64 n, .int .i64 10] w fun e w' => e = .returned (.string (numText n)) ∧ Below w.heap.size w w' :=
  (Tryd.strconv_FormatInt_10 n hn.1 hn.2 w ht).mono fun e w' h => ⟨h.1, by obtain ⟨k, os, rfl⟩ := h.2; exact Lib.below_grow _ _ (Nat.le_refl _) _ _⟩
theorem text_at {n : Int} {w : World} (ht : Tab w) (hn : R n) : Calls Tryd.prog 16 #[.int .i64 n] w fun e w' => e = .returned (.string (numText n)) ∧ Below w.heap.size w w' := by
  have H := fun w (h : Tab w) => @format_at n w h hn
  generalize numText n = s at H
  go_enter Tryd.func16, Tryd.ntmps16
  (go_wp2_with fail; go_fit (H _ ht); rintro e w' ⟨rfl, b1⟩)
  go_wp2
  go_ret
  exact ⟨rfl, b1⟩
theorem text_m7 : numText (-7) = ⟨#[45, 55]⟩ := by
  simp [numText, Lib.itoa, Lib.decDigits]
theorem awake_at {w : World} (ht : Tab w) : Calls Tryd.prog 10 #[] w fun e w' => e = .returned (.bool true) ∧ Below w.heap.size w w' := by
  have H1 := fun w => @two_mod (-7) 3 w (by unfold R; omega) (by unfold R; omega)
  have H2 := fun w => @two_rem (-7) 3 w (by unfold R; omega) (by unfold R; omega)
  have H3 := fun w h => @text_at (-7) w h (by unfold R; omega)
  rw [show mdl (-7) 3 = (2, 0) from by decide +kernel] at H1
  rw [show rmd (-7) 3 = (-1, 0) from by decide +kernel] at H2
  rw [text_m7] at H3
  go_enter Tryd.func10, Tryd.ntmps10
  (go_wp2_with fail; go_fit (H1 _); rintro e w' ⟨rfl, rfl⟩)
  (go_wp2_with fail; go_fit (H2 _); rintro e w' ⟨rfl, rfl⟩)
  (go_wp2_with fail; go_fit (H3 _ ht); rintro e w' ⟨rfl, b1⟩)
  go_wp2
  go_ret
  exact ⟨rfl, b1⟩
end Go.Proofs.YtcpfhjdjooakcaaDoor
