/-
  NARROWER THAN 'FOR EVERY INPUT', by the rows' own cells (each row's printed sentence says how): CodeBack: loops · CodeMatch: loops · CodeSelf: loops · IndexSafe: loops · IndexKeys: loops.
  DERIVED. THE GIVEN ROWS OF THIS SEAT. 9 by the template 'for every input the law returns true; each argument reads behind the call as it read before'; 0 by the template 'total and deterministic' (their statements: YtchbbaehdcmcfaaTotals.lean).
  GIVEN WITH THE SEED: the statements are not yours to turn. If you find one false, say at which input.
  Laid BY PROGRAM, IN A SANDBOX (cutbox-rows.mjs): the forced cells as the released guide's own fill.sh prints them over the translation c5eedebad74cbc6b… (all of the seat's roots in one cut). By AI agents, Wed Nov 11 2026. No macro, syntax, notation, axiom, sorry.
-/
import Derived.Test.YtchbbaehdcmcfaaChecked
import GoSem.Claim
import GoSem.ClaimJoined
import GoSem.ClaimMapViews
import Derived.JoinedTies
import Derived.KernelRfl
namespace Go.Proofs.Ytchbbaehdcmcfaa
/- THE CELL 'sum', in the pinned program and in every row, IS THE sha256 OF THE DUMP (.gsa) THAT YtchbbaehdcmcfaaProg.lean LOADS. Nothing in Lean hashes anything: it is a label: what it is worth is what the hold of that sum in a sandbox is worth. -/
noncomputable def Try.pinned : Pinned := { name := "ytchbbaehdcmcfaa", sum := "c5eedebad74cbc6b97cd01c9870374524eed348aa9042f205cf3e006f911f0ff", checked := Try.checked }
namespace Rows
def none {H : Type} : Left H := { results := [], args := [] }

/-- 'sizarlaw15.CodeKnown': WHATEVER THE INPUT: true; the input reads as it did. -/
def codeKnownSpec : ChangeSpec := { name := "codeKnown", fn := fun _ => fun
  | [] => { results := [.lit (.bool true)], args := [] }
  | _ => none }
def codeKnownRow : OpenClaim := { program := "ytchbbaehdcmcfaa", sum := "c5eedebad74cbc6b97cd01c9870374524eed348aa9042f205cf3e006f911f0ff", func := "sizar/sizarlaw15.CodeKnown", spec := "codeKnown", unfollowed := true, recurses := true, plainKeys := false, apart := false }
def CodeKnownSaid : Prop := codeKnownRow.holds Try.pinned (OpenSpec.ofChange codeKnownSpec)

/-- ITS FALSE NEIGHBOUR: 'it returns false'. Refute it at one input. -/
def codeKnownWrong : ChangeSpec := { name := "codeKnown", fn := fun _ => fun
  | [] => { results := [.lit (.bool false)], args := [] }
  | _ => none }
def CodeKnownWrongFalsely : Prop := codeKnownRow.holds Try.pinned (OpenSpec.ofChange codeKnownWrong)

/-- 'sizarlaw15.CodeBack': WHATEVER THE INPUT: true; the input reads as it did. -/
def codeBackSpec : ChangeSpec := { name := "codeBack", fn := fun _ => fun
  | [d] => { results := [.lit (.bool true)], args := [d] }
  | _ => none }
def codeBackRow : OpenClaim := { program := "ytchbbaehdcmcfaa", sum := "c5eedebad74cbc6b97cd01c9870374524eed348aa9042f205cf3e006f911f0ff", func := "sizar/sizarlaw15.CodeBack", spec := "codeBack", recurses := true, loops := true, plainKeys := false, apart := false }
def CodeBackSaid : Prop := codeBackRow.holds Try.pinned (OpenSpec.ofChange codeBackSpec)

/-- ITS FALSE NEIGHBOUR: 'it returns false'. Refute it at one input. -/
def codeBackWrong : ChangeSpec := { name := "codeBack", fn := fun _ => fun
  | [d] => { results := [.lit (.bool false)], args := [d] }
  | _ => none }
def CodeBackWrongFalsely : Prop := codeBackRow.holds Try.pinned (OpenSpec.ofChange codeBackWrong)

/-- 'sizarlaw15.CodeMatch': WHATEVER THE INPUT: true; the input reads as it did. -/
def codeMatchSpec : ChangeSpec := { name := "codeMatch", fn := fun _ => fun
  | [d1, d2] => { results := [.lit (.bool true)], args := [d1, d2] }
  | _ => none }
def codeMatchRow : OpenClaim := { program := "ytchbbaehdcmcfaa", sum := "c5eedebad74cbc6b97cd01c9870374524eed348aa9042f205cf3e006f911f0ff", func := "sizar/sizarlaw15.CodeMatch", spec := "codeMatch", recurses := true, loops := true, plainKeys := false, apart := false }
def CodeMatchSaid : Prop := codeMatchRow.holds Try.pinned (OpenSpec.ofChange codeMatchSpec)

/-- ITS FALSE NEIGHBOUR: 'it returns false'. Refute it at one input. -/
def codeMatchWrong : ChangeSpec := { name := "codeMatch", fn := fun _ => fun
  | [d1, d2] => { results := [.lit (.bool false)], args := [d1, d2] }
  | _ => none }
def CodeMatchWrongFalsely : Prop := codeMatchRow.holds Try.pinned (OpenSpec.ofChange codeMatchWrong)

/-- 'sizarlaw15.CodeSelf': WHATEVER THE INPUT: true; the input reads as it did. -/
def codeSelfSpec : ChangeSpec := { name := "codeSelf", fn := fun _ => fun
  | [d] => { results := [.lit (.bool true)], args := [d] }
  | _ => none }
def codeSelfRow : OpenClaim := { program := "ytchbbaehdcmcfaa", sum := "c5eedebad74cbc6b97cd01c9870374524eed348aa9042f205cf3e006f911f0ff", func := "sizar/sizarlaw15.CodeSelf", spec := "codeSelf", unfollowed := true, recurses := true, loops := true, plainKeys := false, apart := false }
def CodeSelfSaid : Prop := codeSelfRow.holds Try.pinned (OpenSpec.ofChange codeSelfSpec)

/-- ITS FALSE NEIGHBOUR: 'it returns false'. Refute it at one input. -/
def codeSelfWrong : ChangeSpec := { name := "codeSelf", fn := fun _ => fun
  | [d] => { results := [.lit (.bool false)], args := [d] }
  | _ => none }
def CodeSelfWrongFalsely : Prop := codeSelfRow.holds Try.pinned (OpenSpec.ofChange codeSelfWrong)

/-- 'sizarlaw16.IndexKnown': WHATEVER THE INPUT: true; the input reads as it did. -/
def indexKnownSpec : ChangeSpec := { name := "indexKnown", fn := fun _ => fun
  | [] => { results := [.lit (.bool true)], args := [] }
  | _ => none }
def indexKnownRow : OpenClaim := { program := "ytchbbaehdcmcfaa", sum := "c5eedebad74cbc6b97cd01c9870374524eed348aa9042f205cf3e006f911f0ff", func := "sizar/sizarlaw16.IndexKnown", spec := "indexKnown", unfollowed := true, recurses := true, plainKeys := false, apart := false }
def IndexKnownSaid : Prop := indexKnownRow.holds Try.pinned (OpenSpec.ofChange indexKnownSpec)

/-- ITS FALSE NEIGHBOUR: 'it returns false'. Refute it at one input. -/
def indexKnownWrong : ChangeSpec := { name := "indexKnown", fn := fun _ => fun
  | [] => { results := [.lit (.bool false)], args := [] }
  | _ => none }
def IndexKnownWrongFalsely : Prop := indexKnownRow.holds Try.pinned (OpenSpec.ofChange indexKnownWrong)

/-- 'sizarlaw16.IndexPlays': WHATEVER THE INPUT: true; the input reads as it did. -/
def indexPlaysSpec : ChangeSpec := { name := "indexPlays", fn := fun _ => fun
  | [d] => { results := [.lit (.bool true)], args := [d] }
  | _ => none }
def indexPlaysRow : OpenClaim := { program := "ytchbbaehdcmcfaa", sum := "c5eedebad74cbc6b97cd01c9870374524eed348aa9042f205cf3e006f911f0ff", func := "sizar/sizarlaw16.IndexPlays", spec := "indexPlays", unfollowed := true, recurses := true, plainKeys := false, apart := false }
def IndexPlaysSaid : Prop := indexPlaysRow.holds Try.pinned (OpenSpec.ofChange indexPlaysSpec)

/-- ITS FALSE NEIGHBOUR: 'it returns false'. Refute it at one input. -/
def indexPlaysWrong : ChangeSpec := { name := "indexPlays", fn := fun _ => fun
  | [d] => { results := [.lit (.bool false)], args := [d] }
  | _ => none }
def IndexPlaysWrongFalsely : Prop := indexPlaysRow.holds Try.pinned (OpenSpec.ofChange indexPlaysWrong)

/-- 'sizarlaw16.IndexSafe': WHATEVER THE INPUT: true; the input reads as it did. -/
def indexSafeSpec : ChangeSpec := { name := "indexSafe", fn := fun _ => fun
  | [d1, d2] => { results := [.lit (.bool true)], args := [d1, d2] }
  | _ => none }
def indexSafeRow : OpenClaim := { program := "ytchbbaehdcmcfaa", sum := "c5eedebad74cbc6b97cd01c9870374524eed348aa9042f205cf3e006f911f0ff", func := "sizar/sizarlaw16.IndexSafe", spec := "indexSafe", recurses := true, loops := true, plainKeys := false, apart := false }
def IndexSafeSaid : Prop := indexSafeRow.holds Try.pinned (OpenSpec.ofChange indexSafeSpec)

/-- ITS FALSE NEIGHBOUR: 'it returns false'. Refute it at one input. -/
def indexSafeWrong : ChangeSpec := { name := "indexSafe", fn := fun _ => fun
  | [d1, d2] => { results := [.lit (.bool false)], args := [d1, d2] }
  | _ => none }
def IndexSafeWrongFalsely : Prop := indexSafeRow.holds Try.pinned (OpenSpec.ofChange indexSafeWrong)

/-- 'sizarlaw16.IndexAll': WHATEVER THE INPUT: true; the input reads as it did. -/
def indexAllSpec : ChangeSpec := { name := "indexAll", fn := fun _ => fun
  | [d1, d2] => { results := [.lit (.bool true)], args := [d1, d2] }
  | _ => none }
def indexAllRow : OpenClaim := { program := "ytchbbaehdcmcfaa", sum := "c5eedebad74cbc6b97cd01c9870374524eed348aa9042f205cf3e006f911f0ff", func := "sizar/sizarlaw16.IndexAll", spec := "indexAll", unfollowed := true, recurses := true, plainKeys := false, apart := false }
def IndexAllSaid : Prop := indexAllRow.holds Try.pinned (OpenSpec.ofChange indexAllSpec)

/-- ITS FALSE NEIGHBOUR: 'it returns false'. Refute it at one input. -/
def indexAllWrong : ChangeSpec := { name := "indexAll", fn := fun _ => fun
  | [d1, d2] => { results := [.lit (.bool false)], args := [d1, d2] }
  | _ => none }
def IndexAllWrongFalsely : Prop := indexAllRow.holds Try.pinned (OpenSpec.ofChange indexAllWrong)

/-- 'sizarlaw16.IndexKeys': WHATEVER THE INPUT: true; the input reads as it did. -/
def indexKeysSpec : ChangeSpec := { name := "indexKeys", fn := fun _ => fun
  | [d1, d2, d3] => { results := [.lit (.bool true)], args := [d1, d2, d3] }
  | _ => none }
def indexKeysRow : OpenClaim := { program := "ytchbbaehdcmcfaa", sum := "c5eedebad74cbc6b97cd01c9870374524eed348aa9042f205cf3e006f911f0ff", func := "sizar/sizarlaw16.IndexKeys", spec := "indexKeys", recurses := true, loops := true, plainKeys := false, apart := false }
def IndexKeysSaid : Prop := indexKeysRow.holds Try.pinned (OpenSpec.ofChange indexKeysSpec)

/-- ITS FALSE NEIGHBOUR: 'it returns false'. Refute it at one input. -/
def indexKeysWrong : ChangeSpec := { name := "indexKeys", fn := fun _ => fun
  | [d1, d2, d3] => { results := [.lit (.bool false)], args := [d1, d2, d3] }
  | _ => none }
def IndexKeysWrongFalsely : Prop := indexKeysRow.holds Try.pinned (OpenSpec.ofChange indexKeysWrong)

/- THE SECOND FORM. 'bulk': how many values and letters a reading holds, each counted each time it is reached (what is shared counts as often as it is met; a slice's spare places count too). A statement '..UptoSaid' is the law's where the arguments, and the package variables that the reading takes, are together of bulk at most 1048576: NARROWER than '..Said'. Prove '..Said' where nothing that the law and all that it calls make is longer than what came in: it says more and counts as full. Else prove '..UptoSaid'. A law counts once. -/
mutual
def uptoBulk {H : Type} : DataW H → Nat
  | .lit (.string bytes) => bytes.length + 1
  | .lit _ => 1
  | .nil => 1
  | .ptr d => uptoBulk d + 1
  | .slice elems spare => uptoBulkAll elems + uptoBulkAll spare + 1
  | .agg parts => uptoBulkAll parts + 1
  | .iface _ d => uptoBulk d + 1
  | .map entries => uptoBulkEntries entries + 1
  | .held _ => 1
def uptoBulkAll {H : Type} : List (DataW H) → Nat
  | [] => 0
  | d :: r => uptoBulk d + uptoBulkAll r
def uptoBulkEntries {H : Type} : List (Lit × DataW H) → Nat
  | [] => 0
  | x :: r => uptoBulkEntry x + uptoBulkEntries r
def uptoBulkEntry {H : Type} : Lit × DataW H → Nat
  | (.string bytes, d) => bytes.length + uptoBulk d + 1
  | (_, d) => uptoBulk d + 1
 end
def uptoSmall : (H : Type) → List (DataW H) → Bool := fun _ ds => decide (uptoBulkAll ds ≤ 1048576)
def OpenSpec.upto (s : _root_.Go.ChangeSpec) : _root_.Go.OpenSpec := { _root_.Go.OpenSpec.ofChange s with cond := some uptoSmall }

/-- 'sizarlaw15.CodeKnown', WHERE WHAT IT READS IS OF BULK AT MOST 1048576: true; the input reads as it did. -/
def codeKnownUptoRow : OpenClaim := { program := "ytchbbaehdcmcfaa", sum := "c5eedebad74cbc6b97cd01c9870374524eed348aa9042f205cf3e006f911f0ff", func := "sizar/sizarlaw15.CodeKnown", spec := "codeKnown", unfollowed := true, recurses := true, plainKeys := false, apart := false, narrowed := true }
def CodeKnownUptoSaid : Prop := codeKnownUptoRow.holds Try.pinned (OpenSpec.upto codeKnownSpec)

/-- 'sizarlaw15.CodeBack', WHERE WHAT IT READS IS OF BULK AT MOST 1048576: true; the input reads as it did. -/
def codeBackUptoRow : OpenClaim := { program := "ytchbbaehdcmcfaa", sum := "c5eedebad74cbc6b97cd01c9870374524eed348aa9042f205cf3e006f911f0ff", func := "sizar/sizarlaw15.CodeBack", spec := "codeBack", recurses := true, loops := true, plainKeys := false, apart := false, narrowed := true }
def CodeBackUptoSaid : Prop := codeBackUptoRow.holds Try.pinned (OpenSpec.upto codeBackSpec)

/-- 'sizarlaw15.CodeMatch', WHERE WHAT IT READS IS OF BULK AT MOST 1048576: true; the input reads as it did. -/
def codeMatchUptoRow : OpenClaim := { program := "ytchbbaehdcmcfaa", sum := "c5eedebad74cbc6b97cd01c9870374524eed348aa9042f205cf3e006f911f0ff", func := "sizar/sizarlaw15.CodeMatch", spec := "codeMatch", recurses := true, loops := true, plainKeys := false, apart := false, narrowed := true }
def CodeMatchUptoSaid : Prop := codeMatchUptoRow.holds Try.pinned (OpenSpec.upto codeMatchSpec)

/-- 'sizarlaw15.CodeSelf', WHERE WHAT IT READS IS OF BULK AT MOST 1048576: true; the input reads as it did. -/
def codeSelfUptoRow : OpenClaim := { program := "ytchbbaehdcmcfaa", sum := "c5eedebad74cbc6b97cd01c9870374524eed348aa9042f205cf3e006f911f0ff", func := "sizar/sizarlaw15.CodeSelf", spec := "codeSelf", unfollowed := true, recurses := true, loops := true, plainKeys := false, apart := false, narrowed := true }
def CodeSelfUptoSaid : Prop := codeSelfUptoRow.holds Try.pinned (OpenSpec.upto codeSelfSpec)

/-- 'sizarlaw16.IndexKnown', WHERE WHAT IT READS IS OF BULK AT MOST 1048576: true; the input reads as it did. -/
def indexKnownUptoRow : OpenClaim := { program := "ytchbbaehdcmcfaa", sum := "c5eedebad74cbc6b97cd01c9870374524eed348aa9042f205cf3e006f911f0ff", func := "sizar/sizarlaw16.IndexKnown", spec := "indexKnown", unfollowed := true, recurses := true, plainKeys := false, apart := false, narrowed := true }
def IndexKnownUptoSaid : Prop := indexKnownUptoRow.holds Try.pinned (OpenSpec.upto indexKnownSpec)

/-- 'sizarlaw16.IndexPlays', WHERE WHAT IT READS IS OF BULK AT MOST 1048576: true; the input reads as it did. -/
def indexPlaysUptoRow : OpenClaim := { program := "ytchbbaehdcmcfaa", sum := "c5eedebad74cbc6b97cd01c9870374524eed348aa9042f205cf3e006f911f0ff", func := "sizar/sizarlaw16.IndexPlays", spec := "indexPlays", unfollowed := true, recurses := true, plainKeys := false, apart := false, narrowed := true }
def IndexPlaysUptoSaid : Prop := indexPlaysUptoRow.holds Try.pinned (OpenSpec.upto indexPlaysSpec)

/-- 'sizarlaw16.IndexSafe', WHERE WHAT IT READS IS OF BULK AT MOST 1048576: true; the input reads as it did. -/
def indexSafeUptoRow : OpenClaim := { program := "ytchbbaehdcmcfaa", sum := "c5eedebad74cbc6b97cd01c9870374524eed348aa9042f205cf3e006f911f0ff", func := "sizar/sizarlaw16.IndexSafe", spec := "indexSafe", recurses := true, loops := true, plainKeys := false, apart := false, narrowed := true }
def IndexSafeUptoSaid : Prop := indexSafeUptoRow.holds Try.pinned (OpenSpec.upto indexSafeSpec)

/-- 'sizarlaw16.IndexAll', WHERE WHAT IT READS IS OF BULK AT MOST 1048576: true; the input reads as it did. -/
def indexAllUptoRow : OpenClaim := { program := "ytchbbaehdcmcfaa", sum := "c5eedebad74cbc6b97cd01c9870374524eed348aa9042f205cf3e006f911f0ff", func := "sizar/sizarlaw16.IndexAll", spec := "indexAll", unfollowed := true, recurses := true, plainKeys := false, apart := false, narrowed := true }
def IndexAllUptoSaid : Prop := indexAllUptoRow.holds Try.pinned (OpenSpec.upto indexAllSpec)

/-- 'sizarlaw16.IndexKeys', WHERE WHAT IT READS IS OF BULK AT MOST 1048576: true; the input reads as it did. -/
def indexKeysUptoRow : OpenClaim := { program := "ytchbbaehdcmcfaa", sum := "c5eedebad74cbc6b97cd01c9870374524eed348aa9042f205cf3e006f911f0ff", func := "sizar/sizarlaw16.IndexKeys", spec := "indexKeys", recurses := true, loops := true, plainKeys := false, apart := false, narrowed := true }
def IndexKeysUptoSaid : Prop := indexKeysUptoRow.holds Try.pinned (OpenSpec.upto indexKeysSpec)

end Rows
end Go.Proofs.Ytchbbaehdcmcfaa
