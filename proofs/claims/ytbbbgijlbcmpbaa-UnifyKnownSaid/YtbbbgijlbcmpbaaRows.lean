/-
  NARROWER THAN 'FOR EVERY INPUT', by the rows' own cells (each row's printed sentence says how): BindPlays: loops · BindWhole: loops · UnifyPlays: loops · UnifyMakes: loops · AliasSays: loops · AliasMore: loops · AliasFrom: loops · AliasSelf: loops · AliasLess: loops.
  DERIVED. THE GIVEN ROWS OF THIS SEAT. 12 by the template 'for every input the law returns true; each argument reads behind the call as it read before'; 0 by the template 'total and deterministic' (their statements: YtbbbgijlbcmpbaaTotals.lean).
  GIVEN WITH THE SEED: the statements are not yours to turn. If you find one false, say at which input.
  Laid BY PROGRAM, IN A SANDBOX (cutbox-rows.mjs): the forced cells as the released guide's own fill.sh prints them over the translation 50eac0fdd0c13665… (all of the seat's roots in one cut). By AI agents, Wed Nov 11 2026. No macro, syntax, notation, axiom, sorry.
-/
import Derived.Test.YtbbbgijlbcmpbaaChecked
import GoSem.Claim
import GoSem.ClaimJoined
import GoSem.ClaimMapViews
import Derived.JoinedTies
import Derived.KernelRfl
namespace Go.Proofs.Ytbbbgijlbcmpbaa
/- THE CELL 'sum', in the pinned program and in every row, IS THE sha256 OF THE DUMP (.gsa) THAT YtbbbgijlbcmpbaaProg.lean LOADS. Nothing in Lean hashes anything: it is a label: what it is worth is what the hold of that sum in a sandbox is worth. -/
noncomputable def Try.pinned : Pinned := { name := "ytbbbgijlbcmpbaa", sum := "50eac0fdd0c13665cc2fa5597ad3efe015e352d54416d10a9b96270c5607850b", checked := Try.checked }
namespace Rows
def none {H : Type} : Left H := { results := [], args := [] }

/-- 'sizarlaw11.BindKnown': WHATEVER THE INPUT: true; the input reads as it did. -/
def bindKnownSpec : ChangeSpec := { name := "bindKnown", fn := fun _ => fun
  | [] => { results := [.lit (.bool true)], args := [] }
  | _ => none }
def bindKnownRow : OpenClaim := { program := "ytbbbgijlbcmpbaa", sum := "50eac0fdd0c13665cc2fa5597ad3efe015e352d54416d10a9b96270c5607850b", func := "sizar/sizarlaw11.BindKnown", spec := "bindKnown", unfollowed := true, recurses := true, apart := false }
def BindKnownSaid : Prop := bindKnownRow.holds Try.pinned (OpenSpec.ofChange bindKnownSpec)

/-- ITS FALSE NEIGHBOUR: 'it returns false'. Refute it at one input. -/
def bindKnownWrong : ChangeSpec := { name := "bindKnown", fn := fun _ => fun
  | [] => { results := [.lit (.bool false)], args := [] }
  | _ => none }
def BindKnownWrongFalsely : Prop := bindKnownRow.holds Try.pinned (OpenSpec.ofChange bindKnownWrong)

/-- 'sizarlaw11.BindPlays': WHATEVER THE INPUT: true; the input reads as it did. -/
def bindPlaysSpec : ChangeSpec := { name := "bindPlays", fn := fun _ => fun
  | [d1, d2, d3, d4] => { results := [.lit (.bool true)], args := [d1, d2, d3, d4] }
  | _ => none }
def bindPlaysRow : OpenClaim := { program := "ytbbbgijlbcmpbaa", sum := "50eac0fdd0c13665cc2fa5597ad3efe015e352d54416d10a9b96270c5607850b", func := "sizar/sizarlaw11.BindPlays", spec := "bindPlays", unfollowed := true, recurses := true, loops := true, apart := false }
def BindPlaysSaid : Prop := bindPlaysRow.holds Try.pinned (OpenSpec.ofChange bindPlaysSpec)

/-- ITS FALSE NEIGHBOUR: 'it returns false'. Refute it at one input. -/
def bindPlaysWrong : ChangeSpec := { name := "bindPlays", fn := fun _ => fun
  | [d1, d2, d3, d4] => { results := [.lit (.bool false)], args := [d1, d2, d3, d4] }
  | _ => none }
def BindPlaysWrongFalsely : Prop := bindPlaysRow.holds Try.pinned (OpenSpec.ofChange bindPlaysWrong)

/-- 'sizarlaw11.BindWhole': WHATEVER THE INPUT: true; the input reads as it did. -/
def bindWholeSpec : ChangeSpec := { name := "bindWhole", fn := fun _ => fun
  | [d1, d2] => { results := [.lit (.bool true)], args := [d1, d2] }
  | _ => none }
def bindWholeRow : OpenClaim := { program := "ytbbbgijlbcmpbaa", sum := "50eac0fdd0c13665cc2fa5597ad3efe015e352d54416d10a9b96270c5607850b", func := "sizar/sizarlaw11.BindWhole", spec := "bindWhole", unfollowed := true, recurses := true, loops := true, apart := false }
def BindWholeSaid : Prop := bindWholeRow.holds Try.pinned (OpenSpec.ofChange bindWholeSpec)

/-- ITS FALSE NEIGHBOUR: 'it returns false'. Refute it at one input. -/
def bindWholeWrong : ChangeSpec := { name := "bindWhole", fn := fun _ => fun
  | [d1, d2] => { results := [.lit (.bool false)], args := [d1, d2] }
  | _ => none }
def BindWholeWrongFalsely : Prop := bindWholeRow.holds Try.pinned (OpenSpec.ofChange bindWholeWrong)

/-- 'sizarlaw12.UnifyKnown': WHATEVER THE INPUT: true; the input reads as it did. -/
def unifyKnownSpec : ChangeSpec := { name := "unifyKnown", fn := fun _ => fun
  | [] => { results := [.lit (.bool true)], args := [] }
  | _ => none }
def unifyKnownRow : OpenClaim := { program := "ytbbbgijlbcmpbaa", sum := "50eac0fdd0c13665cc2fa5597ad3efe015e352d54416d10a9b96270c5607850b", func := "sizar/sizarlaw12.UnifyKnown", spec := "unifyKnown", unfollowed := true, recurses := true, apart := false }
def UnifyKnownSaid : Prop := unifyKnownRow.holds Try.pinned (OpenSpec.ofChange unifyKnownSpec)

/-- ITS FALSE NEIGHBOUR: 'it returns false'. Refute it at one input. -/
def unifyKnownWrong : ChangeSpec := { name := "unifyKnown", fn := fun _ => fun
  | [] => { results := [.lit (.bool false)], args := [] }
  | _ => none }
def UnifyKnownWrongFalsely : Prop := unifyKnownRow.holds Try.pinned (OpenSpec.ofChange unifyKnownWrong)

/-- 'sizarlaw12.UnifyPlays': WHATEVER THE INPUT: true; the input reads as it did. -/
def unifyPlaysSpec : ChangeSpec := { name := "unifyPlays", fn := fun _ => fun
  | [d] => { results := [.lit (.bool true)], args := [d] }
  | _ => none }
def unifyPlaysRow : OpenClaim := { program := "ytbbbgijlbcmpbaa", sum := "50eac0fdd0c13665cc2fa5597ad3efe015e352d54416d10a9b96270c5607850b", func := "sizar/sizarlaw12.UnifyPlays", spec := "unifyPlays", unfollowed := true, recurses := true, loops := true, apart := false }
def UnifyPlaysSaid : Prop := unifyPlaysRow.holds Try.pinned (OpenSpec.ofChange unifyPlaysSpec)

/-- ITS FALSE NEIGHBOUR: 'it returns false'. Refute it at one input. -/
def unifyPlaysWrong : ChangeSpec := { name := "unifyPlays", fn := fun _ => fun
  | [d] => { results := [.lit (.bool false)], args := [d] }
  | _ => none }
def UnifyPlaysWrongFalsely : Prop := unifyPlaysRow.holds Try.pinned (OpenSpec.ofChange unifyPlaysWrong)

/-- 'sizarlaw12.UnifyMakes': WHATEVER THE INPUT: true; the input reads as it did. -/
def unifyMakesSpec : ChangeSpec := { name := "unifyMakes", fn := fun _ => fun
  | [d1, d2] => { results := [.lit (.bool true)], args := [d1, d2] }
  | _ => none }
def unifyMakesRow : OpenClaim := { program := "ytbbbgijlbcmpbaa", sum := "50eac0fdd0c13665cc2fa5597ad3efe015e352d54416d10a9b96270c5607850b", func := "sizar/sizarlaw12.UnifyMakes", spec := "unifyMakes", unfollowed := true, recurses := true, loops := true, apart := false }
def UnifyMakesSaid : Prop := unifyMakesRow.holds Try.pinned (OpenSpec.ofChange unifyMakesSpec)

/-- ITS FALSE NEIGHBOUR: 'it returns false'. Refute it at one input. -/
def unifyMakesWrong : ChangeSpec := { name := "unifyMakes", fn := fun _ => fun
  | [d1, d2] => { results := [.lit (.bool false)], args := [d1, d2] }
  | _ => none }
def UnifyMakesWrongFalsely : Prop := unifyMakesRow.holds Try.pinned (OpenSpec.ofChange unifyMakesWrong)

/-- 'sizarlaw13.AliasKnown': WHATEVER THE INPUT: true; the input reads as it did. -/
def aliasKnownSpec : ChangeSpec := { name := "aliasKnown", fn := fun _ => fun
  | [] => { results := [.lit (.bool true)], args := [] }
  | _ => none }
def aliasKnownRow : OpenClaim := { program := "ytbbbgijlbcmpbaa", sum := "50eac0fdd0c13665cc2fa5597ad3efe015e352d54416d10a9b96270c5607850b", func := "sizar/sizarlaw13.AliasKnown", spec := "aliasKnown", unfollowed := true, recurses := true, apart := false }
def AliasKnownSaid : Prop := aliasKnownRow.holds Try.pinned (OpenSpec.ofChange aliasKnownSpec)

/-- ITS FALSE NEIGHBOUR: 'it returns false'. Refute it at one input. -/
def aliasKnownWrong : ChangeSpec := { name := "aliasKnown", fn := fun _ => fun
  | [] => { results := [.lit (.bool false)], args := [] }
  | _ => none }
def AliasKnownWrongFalsely : Prop := aliasKnownRow.holds Try.pinned (OpenSpec.ofChange aliasKnownWrong)

/-- 'sizarlaw13.AliasSays': WHATEVER THE INPUT: true; the input reads as it did. -/
def aliasSaysSpec : ChangeSpec := { name := "aliasSays", fn := fun _ => fun
  | [d1, d2, d3] => { results := [.lit (.bool true)], args := [d1, d2, d3] }
  | _ => none }
def aliasSaysRow : OpenClaim := { program := "ytbbbgijlbcmpbaa", sum := "50eac0fdd0c13665cc2fa5597ad3efe015e352d54416d10a9b96270c5607850b", func := "sizar/sizarlaw13.AliasSays", spec := "aliasSays", unfollowed := true, recurses := true, loops := true, apart := false }
def AliasSaysSaid : Prop := aliasSaysRow.holds Try.pinned (OpenSpec.ofChange aliasSaysSpec)

/-- ITS FALSE NEIGHBOUR: 'it returns false'. Refute it at one input. -/
def aliasSaysWrong : ChangeSpec := { name := "aliasSays", fn := fun _ => fun
  | [d1, d2, d3] => { results := [.lit (.bool false)], args := [d1, d2, d3] }
  | _ => none }
def AliasSaysWrongFalsely : Prop := aliasSaysRow.holds Try.pinned (OpenSpec.ofChange aliasSaysWrong)

/-- 'sizarlaw13.AliasMore': WHATEVER THE INPUT: true; the input reads as it did. -/
def aliasMoreSpec : ChangeSpec := { name := "aliasMore", fn := fun _ => fun
  | [d1, d2, d3] => { results := [.lit (.bool true)], args := [d1, d2, d3] }
  | _ => none }
def aliasMoreRow : OpenClaim := { program := "ytbbbgijlbcmpbaa", sum := "50eac0fdd0c13665cc2fa5597ad3efe015e352d54416d10a9b96270c5607850b", func := "sizar/sizarlaw13.AliasMore", spec := "aliasMore", unfollowed := true, recurses := true, loops := true, apart := false }
def AliasMoreSaid : Prop := aliasMoreRow.holds Try.pinned (OpenSpec.ofChange aliasMoreSpec)

/-- ITS FALSE NEIGHBOUR: 'it returns false'. Refute it at one input. -/
def aliasMoreWrong : ChangeSpec := { name := "aliasMore", fn := fun _ => fun
  | [d1, d2, d3] => { results := [.lit (.bool false)], args := [d1, d2, d3] }
  | _ => none }
def AliasMoreWrongFalsely : Prop := aliasMoreRow.holds Try.pinned (OpenSpec.ofChange aliasMoreWrong)

/-- 'sizarlaw13.AliasFrom': WHATEVER THE INPUT: true; the input reads as it did. -/
def aliasFromSpec : ChangeSpec := { name := "aliasFrom", fn := fun _ => fun
  | [d1, d2] => { results := [.lit (.bool true)], args := [d1, d2] }
  | _ => none }
def aliasFromRow : OpenClaim := { program := "ytbbbgijlbcmpbaa", sum := "50eac0fdd0c13665cc2fa5597ad3efe015e352d54416d10a9b96270c5607850b", func := "sizar/sizarlaw13.AliasFrom", spec := "aliasFrom", unfollowed := true, recurses := true, loops := true, apart := false }
def AliasFromSaid : Prop := aliasFromRow.holds Try.pinned (OpenSpec.ofChange aliasFromSpec)

/-- ITS FALSE NEIGHBOUR: 'it returns false'. Refute it at one input. -/
def aliasFromWrong : ChangeSpec := { name := "aliasFrom", fn := fun _ => fun
  | [d1, d2] => { results := [.lit (.bool false)], args := [d1, d2] }
  | _ => none }
def AliasFromWrongFalsely : Prop := aliasFromRow.holds Try.pinned (OpenSpec.ofChange aliasFromWrong)

/-- 'sizarlaw13.AliasSelf': WHATEVER THE INPUT: true; the input reads as it did. -/
def aliasSelfSpec : ChangeSpec := { name := "aliasSelf", fn := fun _ => fun
  | [d] => { results := [.lit (.bool true)], args := [d] }
  | _ => none }
def aliasSelfRow : OpenClaim := { program := "ytbbbgijlbcmpbaa", sum := "50eac0fdd0c13665cc2fa5597ad3efe015e352d54416d10a9b96270c5607850b", func := "sizar/sizarlaw13.AliasSelf", spec := "aliasSelf", unfollowed := true, recurses := true, loops := true, apart := false }
def AliasSelfSaid : Prop := aliasSelfRow.holds Try.pinned (OpenSpec.ofChange aliasSelfSpec)

/-- ITS FALSE NEIGHBOUR: 'it returns false'. Refute it at one input. -/
def aliasSelfWrong : ChangeSpec := { name := "aliasSelf", fn := fun _ => fun
  | [d] => { results := [.lit (.bool false)], args := [d] }
  | _ => none }
def AliasSelfWrongFalsely : Prop := aliasSelfRow.holds Try.pinned (OpenSpec.ofChange aliasSelfWrong)

/-- 'sizarlaw13.AliasLess': WHATEVER THE INPUT: true; the input reads as it did. -/
def aliasLessSpec : ChangeSpec := { name := "aliasLess", fn := fun _ => fun
  | [d1, d2] => { results := [.lit (.bool true)], args := [d1, d2] }
  | _ => none }
def aliasLessRow : OpenClaim := { program := "ytbbbgijlbcmpbaa", sum := "50eac0fdd0c13665cc2fa5597ad3efe015e352d54416d10a9b96270c5607850b", func := "sizar/sizarlaw13.AliasLess", spec := "aliasLess", unfollowed := true, recurses := true, loops := true, apart := false }
def AliasLessSaid : Prop := aliasLessRow.holds Try.pinned (OpenSpec.ofChange aliasLessSpec)

/-- ITS FALSE NEIGHBOUR: 'it returns false'. Refute it at one input. -/
def aliasLessWrong : ChangeSpec := { name := "aliasLess", fn := fun _ => fun
  | [d1, d2] => { results := [.lit (.bool false)], args := [d1, d2] }
  | _ => none }
def AliasLessWrongFalsely : Prop := aliasLessRow.holds Try.pinned (OpenSpec.ofChange aliasLessWrong)

/- THE SECOND FORM. 'bulk': how many values and letters a reading holds, each counted each time it is reached (what is shared counts as often as it is met; a slice's spare places count too). A statement '..UptoSaid' is the law's where the arguments, and the package variables that the reading takes, are together of bulk at most 1048576: NARROWER than '..Said'. Prove '..Said' where nothing that the law and all that it calls make is longer than what came in: it says more and counts as full. Else prove '..UptoSaid'. A law counts once. -/
mutual
def uptoBulk {H : Type} : DataW H → Nat
  | .lit (.string bytes) => bytes.length + 1
  | .lit _ => 1
  | .nil => 1
  | .ptr d => uptoBulk d + 1
  | .slice elems spare => uptoBulkAll elems + uptoBulkAll spare + 1
  | .agg parts => uptoBulkAll parts + 1
  | .iface _ d => uptoBulk d + 1
  | .map entries => uptoBulkEntries entries + 1
  | .held _ => 1
def uptoBulkAll {H : Type} : List (DataW H) → Nat
  | [] => 0
  | d :: r => uptoBulk d + uptoBulkAll r
def uptoBulkEntries {H : Type} : List (Lit × DataW H) → Nat
  | [] => 0
  | x :: r => uptoBulkEntry x + uptoBulkEntries r
def uptoBulkEntry {H : Type} : Lit × DataW H → Nat
  | (.string bytes, d) => bytes.length + uptoBulk d + 1
  | (_, d) => uptoBulk d + 1
 end
def uptoSmall : (H : Type) → List (DataW H) → Bool := fun _ ds => decide (uptoBulkAll ds ≤ 1048576)
def OpenSpec.upto (s : _root_.Go.ChangeSpec) : _root_.Go.OpenSpec := { _root_.Go.OpenSpec.ofChange s with cond := some uptoSmall }

/-- 'sizarlaw11.BindKnown', WHERE WHAT IT READS IS OF BULK AT MOST 1048576: true; the input reads as it did. -/
def bindKnownUptoRow : OpenClaim := { program := "ytbbbgijlbcmpbaa", sum := "50eac0fdd0c13665cc2fa5597ad3efe015e352d54416d10a9b96270c5607850b", func := "sizar/sizarlaw11.BindKnown", spec := "bindKnown", unfollowed := true, recurses := true, apart := false, narrowed := true }
def BindKnownUptoSaid : Prop := bindKnownUptoRow.holds Try.pinned (OpenSpec.upto bindKnownSpec)

/-- 'sizarlaw11.BindPlays', WHERE WHAT IT READS IS OF BULK AT MOST 1048576: true; the input reads as it did. -/
def bindPlaysUptoRow : OpenClaim := { program := "ytbbbgijlbcmpbaa", sum := "50eac0fdd0c13665cc2fa5597ad3efe015e352d54416d10a9b96270c5607850b", func := "sizar/sizarlaw11.BindPlays", spec := "bindPlays", unfollowed := true, recurses := true, loops := true, apart := false, narrowed := true }
def BindPlaysUptoSaid : Prop := bindPlaysUptoRow.holds Try.pinned (OpenSpec.upto bindPlaysSpec)

/-- 'sizarlaw11.BindWhole', WHERE WHAT IT READS IS OF BULK AT MOST 1048576: true; the input reads as it did. -/
def bindWholeUptoRow : OpenClaim := { program := "ytbbbgijlbcmpbaa", sum := "50eac0fdd0c13665cc2fa5597ad3efe015e352d54416d10a9b96270c5607850b", func := "sizar/sizarlaw11.BindWhole", spec := "bindWhole", unfollowed := true, recurses := true, loops := true, apart := false, narrowed := true }
def BindWholeUptoSaid : Prop := bindWholeUptoRow.holds Try.pinned (OpenSpec.upto bindWholeSpec)

/-- 'sizarlaw12.UnifyKnown', WHERE WHAT IT READS IS OF BULK AT MOST 1048576: true; the input reads as it did. -/
def unifyKnownUptoRow : OpenClaim := { program := "ytbbbgijlbcmpbaa", sum := "50eac0fdd0c13665cc2fa5597ad3efe015e352d54416d10a9b96270c5607850b", func := "sizar/sizarlaw12.UnifyKnown", spec := "unifyKnown", unfollowed := true, recurses := true, apart := false, narrowed := true }
def UnifyKnownUptoSaid : Prop := unifyKnownUptoRow.holds Try.pinned (OpenSpec.upto unifyKnownSpec)

/-- 'sizarlaw12.UnifyPlays', WHERE WHAT IT READS IS OF BULK AT MOST 1048576: true; the input reads as it did. -/
def unifyPlaysUptoRow : OpenClaim := { program := "ytbbbgijlbcmpbaa", sum := "50eac0fdd0c13665cc2fa5597ad3efe015e352d54416d10a9b96270c5607850b", func := "sizar/sizarlaw12.UnifyPlays", spec := "unifyPlays", unfollowed := true, recurses := true, loops := true, apart := false, narrowed := true }
def UnifyPlaysUptoSaid : Prop := unifyPlaysUptoRow.holds Try.pinned (OpenSpec.upto unifyPlaysSpec)

/-- 'sizarlaw12.UnifyMakes', WHERE WHAT IT READS IS OF BULK AT MOST 1048576: true; the input reads as it did. -/
def unifyMakesUptoRow : OpenClaim := { program := "ytbbbgijlbcmpbaa", sum := "50eac0fdd0c13665cc2fa5597ad3efe015e352d54416d10a9b96270c5607850b", func := "sizar/sizarlaw12.UnifyMakes", spec := "unifyMakes", unfollowed := true, recurses := true, loops := true, apart := false, narrowed := true }
def UnifyMakesUptoSaid : Prop := unifyMakesUptoRow.holds Try.pinned (OpenSpec.upto unifyMakesSpec)

/-- 'sizarlaw13.AliasKnown', WHERE WHAT IT READS IS OF BULK AT MOST 1048576: true; the input reads as it did. -/
def aliasKnownUptoRow : OpenClaim := { program := "ytbbbgijlbcmpbaa", sum := "50eac0fdd0c13665cc2fa5597ad3efe015e352d54416d10a9b96270c5607850b", func := "sizar/sizarlaw13.AliasKnown", spec := "aliasKnown", unfollowed := true, recurses := true, apart := false, narrowed := true }
def AliasKnownUptoSaid : Prop := aliasKnownUptoRow.holds Try.pinned (OpenSpec.upto aliasKnownSpec)

/-- 'sizarlaw13.AliasSays', WHERE WHAT IT READS IS OF BULK AT MOST 1048576: true; the input reads as it did. -/
def aliasSaysUptoRow : OpenClaim := { program := "ytbbbgijlbcmpbaa", sum := "50eac0fdd0c13665cc2fa5597ad3efe015e352d54416d10a9b96270c5607850b", func := "sizar/sizarlaw13.AliasSays", spec := "aliasSays", unfollowed := true, recurses := true, loops := true, apart := false, narrowed := true }
def AliasSaysUptoSaid : Prop := aliasSaysUptoRow.holds Try.pinned (OpenSpec.upto aliasSaysSpec)

/-- 'sizarlaw13.AliasMore', WHERE WHAT IT READS IS OF BULK AT MOST 1048576: true; the input reads as it did. -/
def aliasMoreUptoRow : OpenClaim := { program := "ytbbbgijlbcmpbaa", sum := "50eac0fdd0c13665cc2fa5597ad3efe015e352d54416d10a9b96270c5607850b", func := "sizar/sizarlaw13.AliasMore", spec := "aliasMore", unfollowed := true, recurses := true, loops := true, apart := false, narrowed := true }
def AliasMoreUptoSaid : Prop := aliasMoreUptoRow.holds Try.pinned (OpenSpec.upto aliasMoreSpec)

/-- 'sizarlaw13.AliasFrom', WHERE WHAT IT READS IS OF BULK AT MOST 1048576: true; the input reads as it did. -/
def aliasFromUptoRow : OpenClaim := { program := "ytbbbgijlbcmpbaa", sum := "50eac0fdd0c13665cc2fa5597ad3efe015e352d54416d10a9b96270c5607850b", func := "sizar/sizarlaw13.AliasFrom", spec := "aliasFrom", unfollowed := true, recurses := true, loops := true, apart := false, narrowed := true }
def AliasFromUptoSaid : Prop := aliasFromUptoRow.holds Try.pinned (OpenSpec.upto aliasFromSpec)

/-- 'sizarlaw13.AliasSelf', WHERE WHAT IT READS IS OF BULK AT MOST 1048576: true; the input reads as it did. -/
def aliasSelfUptoRow : OpenClaim := { program := "ytbbbgijlbcmpbaa", sum := "50eac0fdd0c13665cc2fa5597ad3efe015e352d54416d10a9b96270c5607850b", func := "sizar/sizarlaw13.AliasSelf", spec := "aliasSelf", unfollowed := true, recurses := true, loops := true, apart := false, narrowed := true }
def AliasSelfUptoSaid : Prop := aliasSelfUptoRow.holds Try.pinned (OpenSpec.upto aliasSelfSpec)

/-- 'sizarlaw13.AliasLess', WHERE WHAT IT READS IS OF BULK AT MOST 1048576: true; the input reads as it did. -/
def aliasLessUptoRow : OpenClaim := { program := "ytbbbgijlbcmpbaa", sum := "50eac0fdd0c13665cc2fa5597ad3efe015e352d54416d10a9b96270c5607850b", func := "sizar/sizarlaw13.AliasLess", spec := "aliasLess", unfollowed := true, recurses := true, loops := true, apart := false, narrowed := true }
def AliasLessUptoSaid : Prop := aliasLessUptoRow.holds Try.pinned (OpenSpec.upto aliasLessSpec)

end Rows
end Go.Proofs.Ytbbbgijlbcmpbaa
