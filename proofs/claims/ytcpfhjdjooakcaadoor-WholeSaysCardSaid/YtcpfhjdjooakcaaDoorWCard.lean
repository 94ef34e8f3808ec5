/- What the cards of this seat share: a whole number of 64 bits, the table that strconv reads. -/
import Derived.Test.YtcpfhjdjooakcaaDoorWD
import Derived.Test.YtcpfhjdjooakcaaDoorOpen
import Derived.Test.YtcpfhjdjooakcaaDoorCards
import Derived.Test.YtcpfhjdjooakcaaDoorTie
import Derived.LaidLaws
import Derived.Lay
import Derived.LaidSub
import Derived.SevenTiedAt
import Derived.Lib.LaidTab
namespace Go.Proofs.YtcpfhjdjooakcaaDoor
open Go.RowKit
theorem R_of {a : Int} (h : (Lit.int .i64 a).wf = true) : R a := by
  have h1 : -9223372036854775808 ≤ a ∧ a ≤ 9223372036854775807 := by simpa [Lit.wf, IntKind.min, IntKind.max, IntKind.signed, IntKind.bits] using h
  exact h1
/-- The list's one table that is read. -/
theorem tab_of {l : List (String × DataW Unit)} {w : World} (hl : (l.all fun x => x.2.handleName?.isNone) = true) (hf : l.filter (fun x => x.1 == "internal/strconv.uint64pow10") = [("internal/strconv.uint64pow10", Lib.tabData .u64 Lib.pow10Tab)]) (h : laidMetH Tryd.prog l w) : Tab w := by
  rw [MakeChecks.laidMetH_plain _ _ _ hl] at h
  have h1 := h.filter (fun x => x.1 == "internal/strconv.uint64pow10")
  rw [hf] at h1
  exact Lib.tabIs_of_head gTab (by kernel_rfl) (t := 71) (e := 52) (n := 20) Tryd.underlying71 Tryd.underlying52 (by kernel_rfl) (by kernel_rfl) h1
end Go.Proofs.YtcpfhjdjooakcaaDoor
