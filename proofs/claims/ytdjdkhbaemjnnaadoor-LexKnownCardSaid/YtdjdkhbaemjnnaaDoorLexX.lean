/- What the cards of this seat share: strconv's ErrRange is an error where the program's text lays it. -/
import Derived.Test.YtdjdkhbaemjnnaaDoorLexU
import Derived.Test.YtdjdkhbaemjnnaaDoorCards
import Derived.Test.YtdjdkhbaemjnnaaDoorTie
import Derived.LaidLaws
import Derived.Lay
import Derived.LaidSub
import Derived.SevenTiedAt
import Derived.Lib.LaidTab
import Derived.Stop.LaidErr
namespace Go.Proofs.YtdjdkhbaemjnnaaDoor
open Go.RowKit
theorem star : "*" ++ "errors.errorString" = "*errors.errorString" := by decide
theorem row_err (u : TypeId) (h : Tryd.prog.typeName? 3 u = some "*errors.errorString") : u = 71 :=
  typeName_ptr_named (nm := "errors.errorString") (by rw [star]; kernel_rfl) (by kernel_rfl) (by decide) u (by rw [star]; exact h)
theorem err_of {l : List (String × DataW Unit)} {w : World} (hl : (l.all fun x => x.2.handleName?.isNone) = true) {nm : String} {text : List UInt8}
    (hf : l.filter (fun x => x.1 == "strconv.ErrRange") = [("strconv.ErrRange", .iface nm (.ptr (.agg [.lit (.string text)])))]) (hn : nm = "*errors.errorString") (h : laidMetH Tryd.prog l w) : Err w := by
  subst hn
  rw [MakeChecks.laidMetH_plain _ _ _ hl] at h
  have h1 := h.filter (fun x => x.1 == "strconv.ErrRange")
  rw [hf] at h1
  obtain ⟨a, s, hv, _⟩ := laid_sentinel h1 gRange (ti := 53) (by kernel_rfl) Tryd.underlying53 (tp := 71) row_err Tryd.underlying71 Tryd.underlying73 rfl rfl Tryd.underlying9 (by kernel_rfl) (by kernel_rfl)
  exact ⟨_, _, hv⟩
end Go.Proofs.YtdjdkhbaemjnnaaDoor
