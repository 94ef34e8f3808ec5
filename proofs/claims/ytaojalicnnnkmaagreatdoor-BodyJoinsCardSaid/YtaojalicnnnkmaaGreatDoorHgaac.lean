import Derived.Test.YtaojalicnnnkmaaGreatDoorHgaaa
import Derived.LoopTactic
import Derived.Lib.Strings
import Derived.Lib.Hide
import Derived.Deep.QuietTactic
import Derived.BigQuiet
import Derived.Test.YtaojalicnnnkmaaGreatDoorRows
import Derived.Test.YtaojalicnnnkmaaGreatDoorHgaab
import Derived.Deep.RegionHeld3
import Derived.RangeFuncNested
import Derived.RangeFuncBound
import Derived.RangeFuncCalls
import Derived.RangeFuncLeaves
import Derived.Shelf.Abstract
import Derived.Shelf.RegionOpen
import Derived.WalkKit
import Derived.OwnWalkIn
import Derived.TacticsInMore
import Derived.LoopNIn
import Derived.LoopIn
set_option linter.unusedVariables false
set_option linter.unusedSimpArgs false
/- Operators: what they are, and the calls that only read one of them: side, may, mayAdd, Sides. -/
namespace Go.Proofs.YtaojalicnnnkmaaGreatDoor
open Go.RowKit

structure O where
  n : ByteArray
  k : ByteArray
  l : Int
instance : Inhabited O := ⟨⟨⟨#[]⟩, ⟨#[]⟩, 0⟩⟩
def oCells (o : O) : List Value := [.string o.n, .string o.k, .int .i64 o.l]
abbrev oVal (o : O) : Value := .agg #[.string o.n, .string o.k, .int .i64 o.l]
theorem oCells_len (o : O) : (oCells o).length = 3 := rfl

/-- 2 between, 1 ahead, 0 none. -/
def sideB (k : List UInt8) : Int :=
  if k == [120, 102, 120] then 2 else if k == [120, 102, 121] then 2 else if k == [121, 102, 120] then 2 else if k == [102, 121] then 1 else if k == [102, 120] then 1 else 0
def mayB (n k : List UInt8) (l : Int) : Bool :=
  if n == [44] then k == [120, 102, 121] && l == 1000
  else if n == [] then false else if n == [124] then false else if n == [91, 93] then false else if n == [123, 125] then false
  else decide ((n.length : Int) ≤ 64) && (sideB k != 0) && decide (1 ≤ l) && decide (l ≤ 1200)
def sidesB (k : List UInt8) (l : Int) : Int × Int :=
  if k == [120, 102, 120] then (wrap64 (l - 1), wrap64 (l - 1)) else if k == [120, 102, 121] then (wrap64 (l - 1), l) else if k == [121, 102, 120] then (l, wrap64 (l - 1)) else if k == [102, 121] then (0, l) else if k == [102, 120] then (0, wrap64 (l - 1)) else (0, 0)

theorem side_walk (k : ByteArray) (w : World) : Calls Tryz.prog 76 #[.string k] w fun e w' => e = .returned (.int .i64 (sideB (bl k))) ∧ w = w' := by
  cases h1 : (k.toList == [120, 102, 120])
  · cases h2 : (k.toList == [120, 102, 121])
    · cases h3 : (k.toList == [121, 102, 120])
      · cases h4 : (k.toList == [102, 121])
        · cases h5 : (k.toList == [102, 120])
          · go_enter Tryz.func76, Tryz.ntmps76
            go_wp2
            go_ret
            refine ⟨ret_int ?_, rfl⟩
            rw [Lib.toList_data] at h1 h2 h3 h4 h5
            simp [sideB, bl, h1, h2, h3, h4, h5]
          · go_enter Tryz.func76, Tryz.ntmps76
            go_wp2
            go_ret
            refine ⟨ret_int ?_, rfl⟩
            rw [Lib.toList_data] at h1 h2 h3 h4 h5
            simp [sideB, bl, h1, h2, h3, h4, h5]
        · go_enter Tryz.func76, Tryz.ntmps76
          go_wp2
          go_ret
          refine ⟨ret_int ?_, rfl⟩
          rw [Lib.toList_data] at h1 h2 h3 h4
          simp [sideB, bl, h1, h2, h3, h4]
      · go_enter Tryz.func76, Tryz.ntmps76
        go_wp2
        go_ret
        refine ⟨ret_int ?_, rfl⟩
        rw [Lib.toList_data] at h1 h2 h3
        simp [sideB, bl, h1, h2, h3]
    · go_enter Tryz.func76, Tryz.ntmps76
      go_wp2
      go_ret
      refine ⟨ret_int ?_, rfl⟩
      rw [Lib.toList_data] at h1 h2
      simp [sideB, bl, h1, h2]
  · go_enter Tryz.func76, Tryz.ntmps76
    go_wp2
    go_ret
    refine ⟨ret_int ?_, rfl⟩
    rw [Lib.toList_data] at h1
    simp [sideB, bl, h1]

theorem tests_bl {n : ByteArray} {l : List UInt8} {b : Bool} (h : (n.toList == l) = b) : (bl n == l) = b := by rw [Lib.toList_data] at h; exact h
set_option maxRecDepth 100000
set_option maxHeartbeats 1000000 in
/-- May an operator be. -/
theorem may_walk (n k : ByteArray) (l : Int) (w : World) :
    Calls Tryz.prog 74 #[.agg #[.string n, .string k, .int .i64 l]] w fun e w' => e = .returned (.bool (mayB (bl n) (bl k) l)) ∧ Below w.heap.size w w' := by
  cases h0 : (n.toList == [44])
  · cases h1 : (n.toList == [])
    · cases h2 : (n.toList == [124])
      · cases h3 : (n.toList == [91, 93])
        · cases h4 : (n.toList == [123, 125])
          · have hE : mayB (bl n) (bl k) l = (decide ((n.size : Int) ≤ 64) && (sideB (bl k) != 0) && decide (1 ≤ l) && decide (l ≤ 1200)) := by
              unfold mayB; rw [tests_bl h0, tests_bl h1, tests_bl h2, tests_bl h3, tests_bl h4]; rfl
            rw [hE]; clear hE
            have hS := side_walk k
            obtain ⟨z, hz⟩ : ∃ z, sideB (bl k) = z := ⟨_, rfl⟩
            rw [hz]; rw [hz] at hS; clear hz
            have HS := Lib.hid hS; clear hS
            cases h5 : decide ((n.size : Int) ≤ 64)
            · go_enter Tryz.func74, Tryz.ntmps74
              go_wp2
              go_ret
              exact ⟨rfl, bel1' _ _⟩
            · cases h6 : (z != 0)
              · go_enter Tryz.func74, Tryz.ntmps74
                (go_wp2_with fail; go_fit (HS.out _); rintro e w' ⟨rfl, rfl⟩)
                go_wp2
                go_ret
                exact ⟨rfl, bel1' _ _⟩
              · cases h7 : decide (1 ≤ l)
                · go_enter Tryz.func74, Tryz.ntmps74
                  (go_wp2_with fail; go_fit (HS.out _); rintro e w' ⟨rfl, rfl⟩)
                  go_wp2
                  go_ret
                  exact ⟨rfl, bel1' _ _⟩
                · cases h8 : decide (l ≤ 1200)
                  · go_enter Tryz.func74, Tryz.ntmps74
                    (go_wp2_with fail; go_fit (HS.out _); rintro e w' ⟨rfl, rfl⟩)
                    go_wp2
                    go_ret
                    exact ⟨rfl, bel1' _ _⟩
                  · go_enter Tryz.func74, Tryz.ntmps74
                    (go_wp2_with fail; go_fit (HS.out _); rintro e w' ⟨rfl, rfl⟩)
                    go_wp2
                    go_ret
                    exact ⟨rfl, bel1' _ _⟩
          · have hE : mayB (bl n) (bl k) l = false := by unfold mayB; simp only [tests_bl h0, tests_bl h1, tests_bl h2, tests_bl h3, tests_bl h4, if_true]; rfl
            rw [hE]; clear hE
            go_enter Tryz.func74, Tryz.ntmps74
            go_wp2
            go_ret
            exact ⟨rfl, bel1' _ _⟩
        · have hE : mayB (bl n) (bl k) l = false := by unfold mayB; simp only [tests_bl h0, tests_bl h1, tests_bl h2, tests_bl h3, if_true]; rfl
          rw [hE]; clear hE
          go_enter Tryz.func74, Tryz.ntmps74
          go_wp2
          go_ret
          exact ⟨rfl, bel1' _ _⟩
      · have hE : mayB (bl n) (bl k) l = false := by unfold mayB; simp only [tests_bl h0, tests_bl h1, tests_bl h2, if_true]; rfl
        rw [hE]; clear hE
        go_enter Tryz.func74, Tryz.ntmps74
        go_wp2
        go_ret
        exact ⟨rfl, bel1' _ _⟩
    · have hE : mayB (bl n) (bl k) l = false := by unfold mayB; simp only [tests_bl h0, tests_bl h1, if_true]; rfl
      rw [hE]; clear hE
      go_enter Tryz.func74, Tryz.ntmps74
      go_wp2
      go_ret
      exact ⟨rfl, bel1' _ _⟩
  · have hE : mayB (bl n) (bl k) l = ((k.toList == [120, 102, 121]) && (l == 1000)) := by unfold mayB; rw [if_pos (tests_bl h0)]; rw [Lib.toList_data]
    rw [hE]; clear hE
    cases h1 : (k.toList == [120, 102, 121])
    · go_enter Tryz.func74, Tryz.ntmps74
      go_wp2
      go_ret
      exact ⟨rfl, bel1' _ _⟩
    · cases h2 : (l == 1000)
      · go_enter Tryz.func74, Tryz.ntmps74
        go_wp2
        go_ret
        exact ⟨rfl, bel1' _ _⟩
      · go_enter Tryz.func74, Tryz.ntmps74
        go_wp2
        go_ret
        exact ⟨rfl, bel1' _ _⟩

theorem sides_walk (n k : ByteArray) (l : Int) (w : World) :
    Calls Tryz.prog 81 #[.agg #[.string n, .string k, .int .i64 l]] w fun e w' => e = .returned (.tuple #[.int .i64 (sidesB (bl k) l).1, .int .i64 (sidesB (bl k) l).2]) ∧ Below w.heap.size w w' := by
  cases h1 : (k.toList == [120, 102, 120])
  · cases h2 : (k.toList == [120, 102, 121])
    · cases h3 : (k.toList == [121, 102, 120])
      · cases h4 : (k.toList == [102, 121])
        · cases h5 : (k.toList == [102, 120])
          · have hE : sidesB (bl k) l = (0, 0) := by unfold sidesB; simp only [tests_bl h1, tests_bl h2, tests_bl h3, tests_bl h4, tests_bl h5, if_true]; try rfl
            rw [hE]; clear hE
            go_enter Tryz.func81, Tryz.ntmps81
            go_wp2
            go_ret2
            exact ⟨rfl, by first | exact bel1' _ _ | exact bel_drewN (bel1' _ _) _⟩
          · have hE : sidesB (bl k) l = (0, wrap64 (l - 1)) := by unfold sidesB; simp only [tests_bl h1, tests_bl h2, tests_bl h3, tests_bl h4, tests_bl h5, if_true]; try rfl
            rw [hE]; clear hE
            go_enter Tryz.func81, Tryz.ntmps81
            go_wp2_with fail
            go_quiet (fail)
            go_wp2
            go_ret2
            exact ⟨rfl, by first | exact bel1' _ _ | exact bel_drewN (bel1' _ _) _⟩
        · have hE : sidesB (bl k) l = (0, l) := by unfold sidesB; simp only [tests_bl h1, tests_bl h2, tests_bl h3, tests_bl h4, if_true]; try rfl
          rw [hE]; clear hE
          go_enter Tryz.func81, Tryz.ntmps81
          go_wp2_with fail
          go_quiet (fail)
          go_wp2
          go_ret2
          exact ⟨rfl, by first | exact bel1' _ _ | exact bel_drewN (bel1' _ _) _⟩
      · have hE : sidesB (bl k) l = (l, wrap64 (l - 1)) := by unfold sidesB; simp only [tests_bl h1, tests_bl h2, tests_bl h3, if_true]; try rfl
        rw [hE]; clear hE
        go_enter Tryz.func81, Tryz.ntmps81
        go_wp2_with fail
        go_quiet (fail)
        go_wp2
        go_ret2
        exact ⟨rfl, by first | exact bel1' _ _ | exact bel_drewN (bel1' _ _) _⟩
    · have hE : sidesB (bl k) l = (wrap64 (l - 1), l) := by unfold sidesB; simp only [tests_bl h1, tests_bl h2, if_true]; try rfl
      rw [hE]; clear hE
      go_enter Tryz.func81, Tryz.ntmps81
      go_wp2_with fail
      go_quiet (fail)
      go_wp2
      go_ret2
      exact ⟨rfl, by first | exact bel1' _ _ | exact bel_drewN (bel1' _ _) _⟩
  · have hE : sidesB (bl k) l = (wrap64 (l - 1), wrap64 (l - 1)) := by unfold sidesB; simp only [tests_bl h1, if_true]; try rfl
    rw [hE]; clear hE
    go_enter Tryz.func81, Tryz.ntmps81
    go_wp2_with fail
    go_quiet (fail)
    go_wp2
    go_ret2
    exact ⟨rfl, by first | exact bel1' _ _ | exact bel_drewN (bel1' _ _) _⟩
end Go.Proofs.YtaojalicnnnkmaaGreatDoor
/- Letter by letter, as chapter 6 says it, over lists of bytes: what stands next. Nothing here is walked. -/
namespace Go.Proofs.YtaojalicnnnkmaaGreatDoor

def smallB (c : UInt8) : Bool := decide (97 ≤ c) && decide (c ≤ 122)
def greatB (c : UInt8) : Bool := (decide (65 ≤ c) && decide (c ≤ 90)) || c == 95
def digitB (c : UInt8) : Bool := decide (48 ≤ c) && decide (c ≤ 57)
def wordB (c : UInt8) : Bool := smallB c || greatB c || digitB c
def blankB (c : UInt8) : Bool := c == 32 || c == 9 || c == 10 || c == 13
def symB (c : UInt8) : Bool := [43, 45, 42, 47, 92, 94, 60, 62, 61, 126, 58, 46, 63, 64, 35, 38, 36].contains c
/-- What stands behind a full stop that is an end. -/
def endB (r : List UInt8) : Bool := match r with | [] => true | c :: _ => blankB c || c == 37
def openB (r : List UInt8) : Bool := match r with | [] => false | c :: _ => c == 40
/-- As many symbols as follow. -/
def symRun : List UInt8 → Nat
  | [] => 0
  | c :: r => if symB c && !(c == 46 && endB r) then symRun r + 1 else 0
/-- What a letter behind a '\' stands for. -/
def escB (c : UInt8) : Option UInt8 := if c == 110 then some 10 else if c == 116 then some 9 else if c == 92 then some 92 else if c == 39 then some 39 else none
/-- Behind the first quote: what it stands for, how many bytes to behind the last quote. -/
def quoB : List UInt8 → Option (List UInt8 × Nat)
  | [] => none
  | [c] => if c == 39 then some ([], 1) else none
  | c :: d :: r =>
    if c == 39 then (if d == 39 then (quoB r).map fun p => (39 :: p.1, p.2 + 2) else some ([], 1))
    else if c == 92 then (match escB d with | none => none | some e => (quoB r).map fun p => (e :: p.1, p.2 + 2))
    else if decide (32 ≤ c) && decide (c ≤ 126) then (quoB (d :: r)).map fun p => (c :: p.1, p.2 + 1) else none
def numB (l : List UInt8) : Nat := l.foldl (fun n c => n * 10 + (c.toNat - 48)) 0

structure TokB where
  kind : Nat
  text : List UInt8
  n : Nat
  len : Nat
  opens : Bool
/-- What stands next: so many bytes are passed over; a token; nothing that may be. -/
inductive NextB where
  | skip (k : Nat)
  | tok (t : TokB)
  | bad (over : Bool)

def tokB (kind : Nat) (text : List UInt8) (n k : Nat) (s : List UInt8) : NextB := .tok ⟨kind, text, n, k, openB (s.drop k)⟩
def nameB (k : Nat) (s : List UInt8) : NextB := if decide (k ≤ 64) then tokB 1 (s.take k) 0 k s else .bad true
def nextC (c : UInt8) (r : List UInt8) : NextB :=
    if blankB c then .skip 1
    else if c == 37 then .skip ((r.takeWhile fun x => x != 10).length + 1)
    else if smallB c then nameB ((r.takeWhile wordB).length + 1) (c :: r)
    else if greatB c then tokB 3 ((c :: r).take ((r.takeWhile wordB).length + 1)) 0 ((r.takeWhile wordB).length + 1) (c :: r)
    else if digitB c then
      if decide (numB ((c :: r).take ((r.takeWhile digitB).length + 1)) ≤ 9223372036854775807) then tokB 4 [] (numB ((c :: r).take ((r.takeWhile digitB).length + 1))) ((r.takeWhile digitB).length + 1) (c :: r) else .bad true
    else if c == 39 then
      match quoB r with
      | none => .bad false
      | some p => if decide (p.1.length ≤ 64) then tokB 2 p.1 0 (p.2 + 1) (c :: r) else .bad true
    else if c == 46 && endB r then tokB 6 [] 0 1 (c :: r)
    else if symB c then nameB (symRun (c :: r)) (c :: r)
    else if c == 59 || c == 33 then nameB 1 (c :: r)
    else if (c == 91 && r.head? == some 93) || (c == 123 && r.head? == some 125) then nameB 2 (c :: r)
    else if [40, 41, 91, 93, 123, 125, 44, 124].contains c then tokB 5 [c] 0 1 (c :: r)
    else .bad false
/-! A line's end behind the text changes nothing. -/
theorem tw_le (p : UInt8 → Bool) : ∀ r : List UInt8, (r.takeWhile p).length ≤ r.length
  | [] => by simp
  | c :: r => by
    rw [List.takeWhile_cons]
    split
    · have := tw_le p r
      simp
      omega
    · simp
theorem sym_le : ∀ r : List UInt8, symRun r ≤ r.length
  | [] => Nat.le_refl _
  | c :: r => by
    rw [symRun]
    split
    · have := sym_le r
      simp
      omega
    · simp
theorem quo_nl (b : List UInt8) : ∀ (n : Nat) (r : List UInt8), r.length ≤ n → ∀ p, quoB r = some p → quoB (r ++ 10 :: b) = some p ∧ p.2 ≤ r.length
  | 0, r, hn => fun p h => by
    obtain rfl : r = [] := List.length_eq_zero_iff.1 (by omega)
    simp [quoB] at h
  | n + 1, [], hn => fun p h => by simp [quoB] at h
  | n + 1, [c], hn => fun p h => by
    rw [quoB] at h
    split at h
    · rename_i hc
      cases h
      refine ⟨?_, by simp⟩
      show quoB (c :: 10 :: b) = _
      rw [quoB, if_pos hc]
      rfl
    · cases h
  | n + 1, c :: d :: r, hn => fun p h => by
    have hr : r.length ≤ n := by simp at hn; omega
    have hd : (d :: r).length ≤ n := by simp at hn ⊢; omega
    rw [quoB] at h
    show quoB (c :: d :: (r ++ 10 :: b)) = _ ∧ _
    rw [quoB]
    split at h
    · rename_i hc
      rw [if_pos hc]
      split at h
      · rename_i hd'
        rw [if_pos hd']
        obtain ⟨q, hq, rfl⟩ := Option.map_eq_some_iff.1 h
        obtain ⟨h1, h2⟩ := quo_nl b n r hr q hq
        rw [h1]
        exact ⟨rfl, by simp; omega⟩
      · rename_i hd'
        rw [if_neg hd']
        cases h
        exact ⟨rfl, by simp⟩
    · rename_i hc
      rw [if_neg hc]
      split at h
      · rename_i hc2
        rw [if_pos hc2]
        cases he : escB d with
        | none => rw [he] at h; cases h
        | some e =>
          rw [he] at h
          obtain ⟨q, hq, rfl⟩ := Option.map_eq_some_iff.1 h
          obtain ⟨h1, h2⟩ := quo_nl b n r hr q hq
          simp only [h1]
          exact ⟨rfl, by simp; omega⟩
      · rename_i hc2
        rw [if_neg hc2]
        split at h
        · rename_i hc3
          rw [if_pos hc3]
          obtain ⟨q, hq, rfl⟩ := Option.map_eq_some_iff.1 h
          obtain ⟨h1, h2⟩ := quo_nl b n (d :: r) hd q hq
          rw [List.cons_append] at h1
          rw [h1]
          exact ⟨rfl, by simp at h2 ⊢; omega⟩
        · cases h
end Go.Proofs.YtaojalicnnnkmaaGreatDoor
/- Reading, as chapter 8 says it, over a list of tokens: pure. Nothing here is walked. -/
namespace Go.Proofs.YtaojalicnnnkmaaGreatDoor
set_option linter.unusedVariables false

abbrev TokP := TokB × Nat
abbrev NmP := List UInt8 × Nat
def zTok : TokP := (⟨0, [], 0, 0, false⟩, 0)
/-- What is not read yet; how many variables there are; the names of those that have one. -/
structure RS where
  rest : List TokP
  next : Nat
  names : List NmP
abbrev Out (α : Type) := Option (α × RS)
abbrev TL := Tm × Int
abbrev TFun := Int → RS → Out TL
def ba (l : List UInt8) : ByteArray := ⟨l.toArray⟩
def vT (n : Int) : Tm := .mk 0 n ⟨#[]⟩ []
def iT (n : Int) : Tm := .mk 1 n ⟨#[]⟩ []
def aT (s : List UInt8) : Tm := .mk 2 0 (ba s) []
def headR (s : RS) : TokP := s.rest.head?.getD zTok
def dropR (s : RS) : RS := { s with rest := s.rest.tail }
def isMark (t : List UInt8) (q : TokP) : Bool := q.1.kind == 5 && q.1.text == t
def takesR (t : List UInt8) (s : RS) : Option RS := if isMark t (headR s) then some (dropR s) else none
/-- May it be an operator between, by its kind? -/
def opKind (q : TokP) : Bool := q.1.kind == 1 || (q.1.kind == 2 || isMark [44] q)
section
variable (pre bet : List UInt8 → O × Bool)
def betweenR (q : TokP) : O × Bool := if opKind q then bet q.1.text else (⟨⟨#[]⟩, ⟨#[]⟩, 0⟩, false)
def beginsR (q : TokP) : Bool :=
  if q.1.kind = 1 ∨ q.1.kind = 2 then q.1.opens || ((pre q.1.text).2 || !(betweenR bet q).2)
  else if q.1.kind = 3 ∨ q.1.kind = 4 then true
  else if q.1.kind = 5 then q.1.text == [40] || (q.1.text == [91] || q.1.text == [123])
  else false
def isMinusR (q x : TokP) : Bool := q.1.kind == 1 && (q.1.text == [45] && (x.1.kind == 4 && (x.2 : Int) == (q.2 : Int) + 1))
def varR (name : List UInt8) (s : RS) : Tm × RS :=
  match s.names.find? (fun p => p.1 == name) with
  | some p => (vT p.2, s)
  | none => (vT s.next, { s with names := if name = [95] then s.names else s.names ++ [(name, s.next)], next := s.next + 1 })
variable (T : TFun)
def itemsR : Nat → RS → Out (List Tm)
  | 0, _ => none
  | f + 1, s => match T 999 s with
    | none => none
    | some (p, s1) => match takesR [44] s1 with
      | none => some ([p.1], s1)
      | some s2 => match itemsR f s2 with
        | none => none
        | some (l, s3) => some (p.1 :: l, s3)
/-- As long as an operator between comes that may. -/
def loopR (most : Int) : Nat → TL → RS → Out TL
  | 0, _, _ => none
  | f + 1, p, s =>
    if (betweenR bet (headR s)).2 = false ∨ (betweenR bet (headR s)).1.l > most ∨ p.2 > (sidesB (bl (betweenR bet (headR s)).1.k) (betweenR bet (headR s)).1.l).1 then some (p, s)
    else match T (sidesB (bl (betweenR bet (headR s)).1.k) (betweenR bet (headR s)).1.l).2 (dropR s) with
      | none => none
      | some (q, s1) => loopR most f (.mk 2 0 (betweenR bet (headR s)).1.n [p.1, q.1], (betweenR bet (headR s)).1.l) s1
/-- A term of 1200 and the mark that closes it. -/
def closedR (t : List UInt8) (s : RS) : Out Tm := match T 1200 s with
  | none => none
  | some (p, s1) => match takesR t s1 with
    | none => none
    | some s2 => some (p.1, s2)
/-- What may stand behind the items. -/
def tailR (s : RS) : Out Tm := match takesR [124] s with
  | none => some (aT [91, 93], s)
  | some s1 => match T 999 s1 with
    | none => none
    | some (p, s2) => some (p.1, s2)
def rowR (s : RS) : Out Tm := match itemsR T (s.rest.length + 1) s with
  | none => none
  | some (l, s1) => match tailR T s1 with
    | none => none
    | some (t, s2) => match takesR [93] s2 with
      | none => none
      | some s3 => some (listT l t, s3)
def bracketR (b : List UInt8) (s : RS) : Out Tm :=
  if b = [40] then closedR T [41] s
  else if b = [123] then (match closedR T [125] s with
    | none => none
    | some (t, s1) => some (.mk 2 0 (ba [123, 125]) [t], s1))
  else if b = [91] then rowR T s
  else none
def argsR (name : List UInt8) (s : RS) : Out TL := match itemsR T (s.rest.length + 1) s with
  | none => none
  | some (l, s1) => match takesR [41] s1 with
    | none => none
    | some s2 => some ((.mk 2 0 (ba name) l, 0), s2)
def aheadR (name : List UInt8) (o : O) (s : RS) : Out TL := match T (sidesB (bl o.k) o.l).2 s with
  | none => none
  | some (p, s1) => some ((.mk 2 0 (ba name) [p.1], o.l), s1)
def isAheadR (q : TokP) (most : Int) (s : RS) : Bool := (pre q.1.text).2 && (decide ((pre q.1.text).1.l ≤ most) && beginsR pre bet (headR s))
def namedR (q : TokP) (most : Int) (s : RS) : Out TL :=
  if isMinusR q (headR s) then some ((iT (-((headR s).1.n : Int)), 0), dropR s)
  else if q.1.opens then argsR T q.1.text (dropR s)
  else if q.1.kind = 2 then some ((aT q.1.text, 0), s)
  else if isAheadR pre bet q most s then aheadR T q.1.text (pre q.1.text).1 s
  else if max (pre q.1.text).1.l (bet q.1.text).1.l ≤ most then some ((aT q.1.text, max (pre q.1.text).1.l (bet q.1.text).1.l), s)
  else none
def zeroR (o : Out Tm) : Out TL := match o with
  | none => none
  | some (t, s) => some ((t, 0), s)
def primR (most : Int) (s : RS) : Out TL :=
  if (headR s).1.kind = 1 ∨ (headR s).1.kind = 2 then namedR pre bet T (headR s) most (dropR s)
  else if (headR s).1.kind = 3 then some (((varR (headR s).1.text (dropR s)).1, 0), (varR (headR s).1.text (dropR s)).2)
  else if (headR s).1.kind = 4 then some ((iT ((headR s).1.n : Int), 0), dropR s)
  else if (headR s).1.kind = 5 then zeroR (bracketR T (headR s).1.text (dropR s))
  else none
def termB (most : Int) (s : RS) : Out TL := match primR pre bet T most s with
  | none => none
  | some (p, s1) => loopR bet T most (s1.rest.length + 1) p s1
end
def termF (pre bet : List UInt8 → O × Bool) : Nat → TFun
  | 0, _, _ => none
  | f + 1, most, s => termB pre bet (termF pre bet f) most s
/-- A term of at most that level, its own level, and what is not read. -/
def TERM (pre bet : List UInt8 → O × Bool) (most : Int) (s : RS) : Out TL := termF pre bet (s.rest.length + 1) most s

/-- What was read is gone. -/
def Shr (T : TFun) : Prop := ∀ most s p s', T most s = some (p, s') → s'.rest.length < s.rest.length
/-- They say the same of what has less than n tokens. -/
def Agree (n : Nat) (T T' : TFun) : Prop := ∀ most s, s.rest.length < n → T most s = T' most s
theorem dropS_le (s : RS) : (dropR s).rest.length ≤ s.rest.length := by unfold dropR; simp
theorem dropS_lt {s : RS} (h : s.rest ≠ []) : (dropR s).rest.length < s.rest.length := by
  unfold dropR
  cases hr : s.rest with
  | nil => exact absurd hr h
  | cons a r => simp
theorem head_ne {s : RS} (h : (headR s).1.kind ≠ 0) : s.rest ≠ [] := by
  intro e
  apply h
  unfold headR
  rw [e]
  rfl
theorem takes_lt {t : List UInt8} {s s' : RS} (h : takesR t s = some s') : s' = dropR s ∧ s'.rest.length < s.rest.length := by
  unfold takesR at h
  split at h
  · rename_i hm
    injection h with h
    subst h
    refine ⟨rfl, dropS_lt (head_ne ?_)⟩
    unfold isMark at hm
    simp only [Bool.and_eq_true, beq_iff_eq] at hm
    omega
  · cases h
theorem between_ne {bet : List UInt8 → O × Bool} {s : RS} (h : (betweenR bet (headR s)).2 = true) : s.rest ≠ [] := by
  apply head_ne
  intro e
  unfold betweenR opKind isMark at h
  rw [e] at h
  simp at h
theorem var_rest (name : List UInt8) (s : RS) : (varR name s).2.rest = s.rest := by
  unfold varR
  split <;> rfl
theorem items_shr {T : TFun} (hT : Shr T) : ∀ f s l s', itemsR T f s = some (l, s') → s'.rest.length < s.rest.length
  | 0, s, l, s', h => by cases h
  | f + 1, s, l, s', h => by
    rw [itemsR] at h
    cases h1 : T 999 s with
    | none => rw [h1] at h; cases h
    | some q =>
      obtain ⟨p, s1⟩ := q
      have := hT _ _ _ _ h1
      rw [h1] at h
      simp only at h
      cases h2 : takesR [44] s1 with
      | none => rw [h2] at h; cases h; exact this
      | some s2 =>
        have h3 := (takes_lt h2).2
        rw [h2] at h
        simp only at h
        cases h4 : itemsR T f s2 with
        | none => rw [h4] at h; cases h
        | some r =>
          obtain ⟨l', s3⟩ := r
          rw [h4] at h
          cases h
          have := items_shr hT f s2 l' s' h4
          omega
theorem loop_shr {bet : List UInt8 → O × Bool} {T : TFun} (hT : Shr T) (most : Int) : ∀ f p s q s', loopR bet T most f p s = some (q, s') → s'.rest.length ≤ s.rest.length
  | 0, p, s, q, s', h => by cases h
  | f + 1, p, s, q, s', h => by
    rw [loopR] at h
    split at h
    · cases h; exact Nat.le_refl _
    · split at h
      · cases h
      · rename_i r s1 h1
        have := hT _ _ _ _ h1
        have := loop_shr hT most f _ s1 q s' h
        have := dropS_le s
        omega
theorem closed_shr {T : TFun} (hT : Shr T) {t : List UInt8} {s s' : RS} {x : Tm} (h : closedR T t s = some (x, s')) : s'.rest.length < s.rest.length := by
  unfold closedR at h
  split at h
  · cases h
  · rename_i p s1 h1
    have := hT _ _ _ _ h1
    split at h
    · cases h
    · rename_i s2 h2
      cases h
      have := (takes_lt h2).2
      omega
theorem tail_shr {T : TFun} (hT : Shr T) {s s' : RS} {x : Tm} (h : tailR T s = some (x, s')) : s'.rest.length ≤ s.rest.length := by
  unfold tailR at h
  split at h
  · cases h; exact Nat.le_refl _
  · rename_i s1 h1
    have := (takes_lt h1).2
    split at h
    · cases h
    · rename_i p s2 h2
      cases h
      have := hT _ _ _ _ h2
      omega
theorem row_shr {T : TFun} (hT : Shr T) {s s' : RS} {x : Tm} (h : rowR T s = some (x, s')) : s'.rest.length < s.rest.length := by
  unfold rowR at h
  split at h
  · cases h
  · rename_i l s1 h1
    have := items_shr hT _ _ _ _ h1
    split at h
    · cases h
    · rename_i t s2 h2
      have := tail_shr hT h2
      split at h
      · cases h
      · rename_i s3 h3
        cases h
        have := (takes_lt h3).2
        omega
theorem bracket_shr {T : TFun} (hT : Shr T) {b : List UInt8} {s s' : RS} {x : Tm} (h : bracketR T b s = some (x, s')) : s'.rest.length < s.rest.length := by
  unfold bracketR at h
  split at h
  · exact closed_shr hT h
  · split at h
    · split at h
      · cases h
      · rename_i t s1 h1
        cases h
        exact closed_shr hT h1
    · split at h
      · exact row_shr hT h
      · cases h
theorem args_shr {T : TFun} (hT : Shr T) {n : List UInt8} {s s' : RS} {x : TL} (h : argsR T n s = some (x, s')) : s'.rest.length < s.rest.length := by
  unfold argsR at h
  split at h
  · cases h
  · rename_i l s1 h1
    have := items_shr hT _ _ _ _ h1
    split at h
    · cases h
    · rename_i s2 h2
      cases h
      have := (takes_lt h2).2
      omega
theorem ahead_shr {T : TFun} (hT : Shr T) {n : List UInt8} {o : O} {s s' : RS} {x : TL} (h : aheadR T n o s = some (x, s')) : s'.rest.length < s.rest.length := by
  unfold aheadR at h
  split at h
  · cases h
  · rename_i p s1 h1
    cases h
    exact hT _ _ _ _ h1
theorem named_shr {pre bet : List UInt8 → O × Bool} {T : TFun} (hT : Shr T) {q : TokP} {most : Int} {s s' : RS} {x : TL} (h : namedR pre bet T q most s = some (x, s')) : s'.rest.length ≤ s.rest.length := by
  have hd := dropS_le s
  unfold namedR at h
  split at h
  · cases h; exact hd
  · split at h
    · have := args_shr hT h
      omega
    · split at h
      · cases h; exact Nat.le_refl _
      · split at h
        · have := ahead_shr hT h
          omega
        · split at h
          · cases h; exact Nat.le_refl _
          · cases h
theorem zero_some {o : Out Tm} {x : TL} {s : RS} (h : zeroR o = some (x, s)) : o = some (x.1, s) ∧ x.2 = 0 := by
  cases o with
  | none => cases h
  | some p =>
    obtain ⟨t, s1⟩ := p
    cases h
    exact ⟨rfl, rfl⟩
theorem prim_shr {pre bet : List UInt8 → O × Bool} {T : TFun} (hT : Shr T) {most : Int} {s s' : RS} {x : TL} (h : primR pre bet T most s = some (x, s')) : s'.rest.length < s.rest.length := by
  unfold primR at h
  by_cases h0 : (headR s).1.kind = 0
  · simp [h0] at h
  have hd := dropS_lt (head_ne h0)
  split at h
  · have := named_shr hT h
    omega
  · split at h
    · cases h
      rw [var_rest]
      exact hd
    · split at h
      · cases h
        exact hd
      · split at h
        · have := bracket_shr hT (zero_some h).1
          omega
        · cases h
theorem term_shr {pre bet : List UInt8 → O × Bool} : ∀ f, Shr (termF pre bet f)
  | 0, most, s, p, s', h => by cases h
  | f + 1, most, s, p, s', h => by
    rw [termF] at h
    unfold termB at h
    split at h
    · cases h
    · rename_i q s1 h1
      have := prim_shr (term_shr f) h1
      have := loop_shr (term_shr f) most _ _ _ _ _ h
      omega
theorem TERM_shr {pre bet : List UInt8 → O × Bool} : Shr (TERM pre bet) := fun most s p s' h => term_shr _ most s p s' h

/-! Enough is enough. -/
theorem items_agree {T T' : TFun} (hT : Shr T) : ∀ f f' s, s.rest.length < f → s.rest.length < f' → Agree (s.rest.length + 1) T T' → itemsR T f s = itemsR T' f' s
  | 0, f', s, h, _, _ => by omega
  | f + 1, 0, s, _, h, _ => by omega
  | f + 1, f' + 1, s, h, h', hA => by
    rw [itemsR, itemsR, ← hA 999 s (by omega)]
    cases h1 : T 999 s with
    | none => rfl
    | some q =>
      obtain ⟨p, s1⟩ := q
      have := hT _ _ _ _ h1
      simp only
      cases h2 : takesR [44] s1 with
      | none => rfl
      | some s2 =>
        have h3 := (takes_lt h2).2
        simp only
        rw [items_agree hT f f' s2 (by omega) (by omega) (fun m s hs => hA m s (by omega))]
theorem loop_agree {bet : List UInt8 → O × Bool} {T T' : TFun} (hT : Shr T) (most : Int) : ∀ f f' p s, s.rest.length < f → s.rest.length < f' → Agree s.rest.length T T' → loopR bet T most f p s = loopR bet T' most f' p s
  | 0, f', p, s, h, _, _ => by omega
  | f + 1, 0, p, s, _, h, _ => by omega
  | f + 1, f' + 1, p, s, h, h', hA => by
    rw [loopR, loopR]
    split
    · rfl
    · rename_i hc
      have hb : (betweenR bet (headR s)).2 = true := by
        cases hb : (betweenR bet (headR s)).2 with
        | false => exact absurd (Or.inl hb) hc
        | true => rfl
      have hd := dropS_lt (between_ne hb)
      rw [← hA _ (dropR s) hd]
      cases h1 : T (sidesB (bl (betweenR bet (headR s)).1.k) (betweenR bet (headR s)).1.l).2 (dropR s) with
      | none => rfl
      | some q =>
        obtain ⟨q, s1⟩ := q
        have := hT _ _ _ _ h1
        simp only
        exact loop_agree hT most f f' _ s1 (by omega) (by omega) (fun m s hs => hA m s (by omega))
theorem closed_agree {T T' : TFun} {t : List UInt8} {s : RS} (hA : Agree (s.rest.length + 1) T T') : closedR T t s = closedR T' t s := by
  unfold closedR
  rw [hA 1200 s (by omega)]
theorem tail_agree {T T' : TFun} {s : RS} (hA : Agree s.rest.length T T') : tailR T s = tailR T' s := by
  unfold tailR
  cases h1 : takesR [124] s with
  | none => rfl
  | some s1 =>
    have := (takes_lt h1).2
    simp only
    rw [hA 999 s1 (by omega)]
theorem row_agree {T T' : TFun} (hT : Shr T) {s : RS} (hA : Agree (s.rest.length + 1) T T') : rowR T s = rowR T' s := by
  unfold rowR
  rw [← items_agree hT (s.rest.length + 1) (s.rest.length + 1) s (by omega) (by omega) hA]
  cases h1 : itemsR T (s.rest.length + 1) s with
  | none => rfl
  | some q =>
    obtain ⟨l, s1⟩ := q
    have := items_shr hT _ _ _ _ h1
    simp only
    rw [tail_agree (T' := T') (fun m s hs => hA m s (by omega))]
theorem bracket_agree {T T' : TFun} (hT : Shr T) {b : List UInt8} {s : RS} (hA : Agree (s.rest.length + 1) T T') : bracketR T b s = bracketR T' b s := by
  unfold bracketR
  rw [closed_agree hA, closed_agree hA, row_agree hT hA]
theorem args_agree {T T' : TFun} (hT : Shr T) {n : List UInt8} {s : RS} (hA : Agree (s.rest.length + 1) T T') : argsR T n s = argsR T' n s := by
  unfold argsR
  rw [items_agree hT (s.rest.length + 1) (s.rest.length + 1) s (by omega) (by omega) hA]
theorem named_agree {pre bet : List UInt8 → O × Bool} {T T' : TFun} (hT : Shr T) {q : TokP} {most : Int} {s : RS} (hA : Agree (s.rest.length + 1) T T') : namedR pre bet T q most s = namedR pre bet T' q most s := by
  have hd := dropS_le s
  unfold namedR aheadR
  rw [args_agree hT (fun m s hs => hA m s (by omega)), hA _ s (by omega)]
theorem prim_agree {pre bet : List UInt8 → O × Bool} {T T' : TFun} (hT : Shr T) {most : Int} {s : RS} (hA : Agree s.rest.length T T') : primR pre bet T most s = primR pre bet T' most s := by
  unfold primR
  by_cases h0 : (headR s).1.kind = 0
  · simp [h0]
  have hd := dropS_lt (head_ne h0)
  rw [named_agree hT (fun m s hs => hA m s (by omega)), bracket_agree hT (fun m s hs => hA m s (by omega))]
theorem termB_agree {pre bet : List UInt8 → O × Bool} {T T' : TFun} (hT : Shr T) {most : Int} {s : RS} (hA : Agree s.rest.length T T') : termB pre bet T most s = termB pre bet T' most s := by
  unfold termB
  rw [← prim_agree hT hA]
  cases h1 : primR pre bet T most s with
  | none => rfl
  | some q =>
    obtain ⟨p, s1⟩ := q
    have := prim_shr hT h1
    simp only
    exact loop_agree hT most _ _ p s1 (by omega) (by omega) (fun m s hs => hA m s (by omega))
theorem term_fuel {pre bet : List UInt8 → O × Bool} : ∀ n f f', n ≤ f → n ≤ f' → Agree n (termF pre bet f) (termF pre bet f')
  | 0, f, f', _, _, most, s, h => by omega
  | n + 1, 0, f', h, _, most, s, _ => by omega
  | n + 1, f + 1, 0, _, h, most, s, _ => by omega
  | n + 1, f + 1, f' + 1, h, h', most, s, hs => by
    rw [termF, termF]
    exact termB_agree (term_shr f) (fun m s' hs' => term_fuel n f f' (by omega) (by omega) m s' (by omega))
theorem TERM_agree {pre bet : List UInt8 → O × Bool} (f : Nat) : Agree f (termF pre bet f) (TERM pre bet) := fun most s hs => term_fuel (s.rest.length + 1) f _ (by omega) (by omega) most s (by omega)
theorem TERM_eq {pre bet : List UInt8 → O × Bool} (most : Int) (s : RS) : TERM pre bet most s = termB pre bet (TERM pre bet) most s := by
  show termF pre bet (s.rest.length + 1) most s = _
  rw [termF]
  exact termB_agree (term_shr _) (TERM_agree _)
/-! The loops, by themselves. -/
def LOOP (pre bet : List UInt8 → O × Bool) (most : Int) (p : TL) (s : RS) : Out TL := loopR bet (TERM pre bet) most (s.rest.length + 1) p s
def ITEMS (pre bet : List UInt8 → O × Bool) (s : RS) : Out (List Tm) := itemsR (TERM pre bet) (s.rest.length + 1) s
theorem TERM_none {pre bet : List UInt8 → O × Bool} {most : Int} {s : RS} (h : primR pre bet (TERM pre bet) most s = none) : TERM pre bet most s = none := by
  rw [TERM_eq]; unfold termB; rw [h]
theorem TERM_some {pre bet : List UInt8 → O × Bool} {most : Int} {s s1 : RS} {p : TL} (h : primR pre bet (TERM pre bet) most s = some (p, s1)) : TERM pre bet most s = LOOP pre bet most p s1 := by
  rw [TERM_eq]; unfold termB; rw [h]; rfl
def stopR (bet : List UInt8 → O × Bool) (most : Int) (p : TL) (s : RS) : Prop := (betweenR bet (headR s)).2 = false ∨ (betweenR bet (headR s)).1.l > most ∨ p.2 > (sidesB (bl (betweenR bet (headR s)).1.k) (betweenR bet (headR s)).1.l).1
theorem LOOP_stop {pre bet : List UInt8 → O × Bool} {most : Int} {p : TL} {s : RS} (h : stopR bet most p s) : LOOP pre bet most p s = some (p, s) := by
  unfold LOOP; rw [loopR]; exact if_pos h
theorem LOOP_none {pre bet : List UInt8 → O × Bool} {most : Int} {p : TL} {s : RS} (h : ¬ stopR bet most p s) (hT : TERM pre bet (sidesB (bl (betweenR bet (headR s)).1.k) (betweenR bet (headR s)).1.l).2 (dropR s) = none) : LOOP pre bet most p s = none := by
  unfold stopR at h
  unfold LOOP; rw [loopR]; rw [if_neg h, hT]
theorem LOOP_some {pre bet : List UInt8 → O × Bool} {most : Int} {p q : TL} {s s1 : RS} (h : ¬ stopR bet most p s) (hT : TERM pre bet (sidesB (bl (betweenR bet (headR s)).1.k) (betweenR bet (headR s)).1.l).2 (dropR s) = some (q, s1)) :
    LOOP pre bet most p s = LOOP pre bet most (.mk 2 0 (betweenR bet (headR s)).1.n [p.1, q.1], (betweenR bet (headR s)).1.l) s1 ∧ s1.rest.length < s.rest.length := by
  have h1 := TERM_shr _ _ _ _ hT
  have h2 := dropS_le s
  refine ⟨?_, by omega⟩
  unfold stopR at h
  unfold LOOP
  rw [loopR]
  rw [if_neg h, hT]
  exact loop_agree TERM_shr most _ _ _ s1 (by omega) (by omega) (fun _ _ _ => rfl)
theorem ITEMS_none {pre bet : List UInt8 → O × Bool} {s : RS} (h : TERM pre bet 999 s = none) : ITEMS pre bet s = none := by
  unfold ITEMS; rw [itemsR, h]
theorem ITEMS_last {pre bet : List UInt8 → O × Bool} {s s1 : RS} {p : TL} (h : TERM pre bet 999 s = some (p, s1)) (h2 : takesR [44] s1 = none) : ITEMS pre bet s = some ([p.1], s1) := by
  unfold ITEMS; rw [itemsR, h]; simp only [h2]
theorem ITEMS_more {pre bet : List UInt8 → O × Bool} {s s1 s2 : RS} {p : TL} (h : TERM pre bet 999 s = some (p, s1)) (h2 : takesR [44] s1 = some s2) : ITEMS pre bet s = (match ITEMS pre bet s2 with | none => none | some (l, s3) => some (p.1 :: l, s3)) ∧ s2.rest.length < s.rest.length := by
  have h3 := TERM_shr _ _ _ _ h
  have h4 := (takes_lt h2).2
  refine ⟨?_, by omega⟩
  unfold ITEMS
  rw [itemsR, h]
  simp only [h2]
  rw [items_agree TERM_shr s.rest.length (s2.rest.length + 1) s2 (by omega) (by omega) (fun _ _ _ => rfl)]
theorem rowR_eq {pre bet : List UInt8 → O × Bool} (s : RS) : rowR (TERM pre bet) s = (match ITEMS pre bet s with
  | none => none
  | some (l, s1) => match tailR (TERM pre bet) s1 with
    | none => none
    | some (t, s2) => match takesR [93] s2 with
      | none => none
      | some s3 => some (listT l t, s3)) := rfl
theorem argsR_eq {pre bet : List UInt8 → O × Bool} (name : List UInt8) (s : RS) : argsR (TERM pre bet) name s = (match ITEMS pre bet s with
  | none => none
  | some (l, s1) => match takesR [41] s1 with
    | none => none
    | some s2 => some ((.mk 2 0 (ba name) l, 0), s2)) := rfl

/-! Whole terms. -/
def anewR (l : List TokP) : RS := ⟨l, 0, []⟩
/-- A term and its end. -/
def wholeR (pre bet : List UInt8 → O × Bool) (l : List TokP) : Out Tm := match TERM pre bet 1200 (anewR l) with
  | none => none
  | some (p, s) => if (headR s).1.kind = 6 then some (p.1, dropR s) else none
inductive ReadR (α : Type) where
  | ok (x : α)
  | bad (e : Int)
def oneR (pre bet : List UInt8 → O × Bool) (l : List TokP) : ReadR (Tm × List NmP) := match wholeR pre bet l with
  | none => .bad 2
  | some (t, s) => if s.rest = [] then (if goodT t then .ok (t, s.names) else .bad 3) else .bad 2
end Go.Proofs.YtaojalicnnnkmaaGreatDoor
/- Package term: Comp, Items, of worlds of which some blocks are hidden. -/
namespace Go.Proofs.YtaojalicnnnkmaaGreatDoor
open Go.RowKit
set_option linter.unusedVariables false

theorem pairs_hide {D : Nat → Bool} {w : World} {a : Option Addr} {m c : Nat} {l : List Tm} (h : Tms (hide D w) (.slice a m c) l) : ∃ (ps : List TmP), ps.length = m ∧ m = l.length ∧ ps.map (·.1) = l ∧ (∀ p ∈ ps, TmV (hide D w) p.1 (pVal p)) ∧ m * 56 ≤ BIG ∧ (m = 0 ∨ ∃ ad, a = some ad ∧ ∀ j u, (ps.flatMap pCells)[j]? = some u → w.cell? (ad.add j) = some u) := by
  obtain ⟨ps, ao, c', e, hpl, hpm, hpa, hbig, hsrc⟩ := h.pairs
  cases e
  refine ⟨ps, hpl, rfl, hpm, hpa, hbig, ?_⟩
  rcases hsrc with h0 | ⟨ad, rfl, hc⟩
  · exact Or.inl h0
  · exact Or.inr ⟨ad, rfl, fun j u hu => (Stays.unhide D w).2 _ _ (hc j u hu)⟩
theorem comp_hide {D : Nat → Bool} {w : World} {v : Value} {l : List Tm} (s : ByteArray) (hs : s.size ≤ BIG) (hD : Old D w) (h : Tms (hide D w) v l) :
    Calls Tryz.prog 26 #[.string s, v] w fun e w' => ∃ a c, e = .returned (.agg #[.int .i64 2, .int .i64 0, .string s, .slice a l.length c]) ∧ TmV (hide D w') (.mk 2 0 s l) (.agg #[.int .i64 2, .int .i64 0, .string s, .slice a l.length c]) ∧ Below w.heap.size w w' := by
  obtain ⟨ao, c, rfl, _⟩ := h.len
  obtain ⟨ps, hpl, _, hpm, hpa, hbig, hsrc⟩ := pairs_hide h
  refine (comp_ps (c := c) ps s hpl hbig (pCells_one ps hpa) hsrc).mono ?_
  rintro e w' ⟨a, c', rfl, hR, hB⟩
  refine ⟨a, c', rfl, ?_, hB⟩
  have hT := (hR.hide (D := D) (fun k hk _ => hD k (by omega))).terms (fun p hp => TmV.later hB (hpa p hp)) (by rw [hpl]; exact hbig)
  rw [hpm] at hT
  exact tmV_iff.2 ⟨_, rfl, hs, i64_2, i64_0, hT⟩
end Go.Proofs.YtaojalicnnnkmaaGreatDoor
/- slices.Backward at terms: from the last item to the first. -/
namespace Go.Proofs.YtaojalicnnnkmaaGreatDoor
open Go.RowKit Go.Shelf
attribute [local go_sem] Oper.semAt_some
set_option linter.unusedVariables false

/-- What lies below n, and block b, are kept. -/
def Kq (n b : Nat) (A B : World) : Prop := A.heap.size ≤ B.heap.size ∧ ∀ k, (k < n ∨ k = b) → B.heap[k]? = A.heap[k]?
theorem Kq.refl (n b : Nat) (A : World) : Kq n b A A := ⟨Nat.le_refl _, fun _ _ => rfl⟩
theorem Kq.trans {n b : Nat} {A B C : World} (h : Kq n b A B) (k : Kq n b B C) : Kq n b A C := ⟨Nat.le_trans h.1 k.1, fun i hi => (k.2 i hi).trans (h.2 i hi)⟩
theorem Kq.cell {n b : Nat} {A B : World} (h : Kq n b A B) {p : Addr} (hp : p.block < n ∨ p.block = b) : B.cell? p = A.cell? p := World.cell?_of_block (h.2 p.block hp)
theorem Kq.put {n b : Nat} {w : World} (hn : n ≤ w.heap.size) (hb : b < w.heap.size) (W : World) (l : Nat) (o o' : Obj) (hl : w.heap.size ≤ l) (h : W.heap[l]? = some o) (_ : o.isCells = false) (_ : o.isWalk = false) : Kq n b W (W.putObj l o') := by
  have hlt := (Array.getElem?_eq_some_iff.1 h).1
  exact ⟨(grownBy_putObj' W l o').size, fun k hk => (grownBy_putObj' W l o').block k (by omega) (fun e => by cases e; omega)⟩
theorem Kq.below {n b : Nat} {A B : World} (h : Below A.heap.size A B) (hn : n ≤ A.heap.size) (hb : b < A.heap.size) : Kq n b A B := ⟨h.size, fun k hk => h.block k (by omega)⟩
/-- An item: a term, the value of its Args, in that world. -/
abbrev Item (D : Nat → Bool) (w : World) := { p : TmP // TmV (hide D w) p.1 (pVal p) }
/-- What a round is handed: the index, the item. -/
def back {D : Nat → Bool} {w : World} (xs : List (Item D w)) : List (Nat × Item D w) := xs.reverse.mapIdx fun j x => (xs.length - 1 - j, x)
theorem back_len {D : Nat → Bool} {w : World} (xs : List (Item D w)) : (back xs).length = xs.length := by simp [back]
theorem back_get {D : Nat → Bool} {w : World} {xs : List (Item D w)} {k : Nat} (hk : k < xs.length) : ∃ x : Item D w, xs[xs.length - 1 - k]? = some x ∧ (back xs)[k]? = some (xs.length - 1 - k, x) ∧ (back xs).take (k + 1) = (back xs).take k ++ [(xs.length - 1 - k, x)] := by
  have h1 : xs.length - 1 - k < xs.length := by omega
  have h2 : (back xs)[k]? = some (xs.length - 1 - k, xs[xs.length - 1 - k]) := by
    unfold back
    rw [List.getElem?_mapIdx, List.getElem?_reverse hk, List.getElem?_eq_getElem h1]
    rfl
  exact ⟨xs[xs.length - 1 - k], List.getElem?_eq_getElem h1, h2, by rw [List.take_add_one, h2]; rfl⟩
abbrev encB {D : Nat → Bool} {w : World} (x : Nat × Item D w) : Array Value := #[.int .i64 (x.1 : Int), .agg #[.int .i64 x.2.1.1.k, .int .i64 x.2.1.1.n, .string x.2.1.1.s, x.2.1.2]]
/-- The cells of these items lie there, from this address on. -/
def Rowed {D : Nat → Bool} {w : World} (W : World) (b off : Nat) (xs : List (Item D w)) : Prop := ∀ (i : Nat) (x : Item D w), xs[i]? = some x → ∀ j u, (pCells x.1)[j]? = some u → W.cell? ⟨b, off + i * 4 + j, none⟩ = some u
set_option maxRecDepth 100000 in
set_option maxHeartbeats 4000000 in
theorem back1_in {D : Nat → Bool} {w : World} (F : Fence) (n : Nat) (hf : F.fn 143) (hro : F.round = none) (hn : 1 ≤ n) (l Bs n₀ b off c m : Nat) (xs : List (Item D w)) (hm : xs.length = m) (hreach : m * 56 ≤ 140737488351232) (hb : b < n₀) (J Jx : List (Nat × Item D w) → World → Prop)
    (hY : ∀ pre x W, J pre W → pre.length < m → YieldAt F (n - 1) Tryz.prog l (encB x) W fun e W' =>
      (e = .returned (.bool true) ∧ J (pre ++ [x]) W' ∧ Kq n₀ Bs W W') ∨ (e = .returned (.bool false) ∧ Jx (pre ++ [x]) W'))
    (W : World) (hBs : W.cell? ⟨Bs, 0, none⟩ = some (.slice (some ⟨b, off, none⟩) m c)) (hmc : m ≤ c) (hcm : c ≤ maxLen) (hc : Rowed W b off xs) (h0 : J [] W) :
    CallsIn F n Tryz.prog 143 #[.func (.yield l) #[] #[], .pointer (some ⟨Bs, 0, none⟩)] W fun e W' => (∃ v, e = .returned v) ∧
      ((∃ ys, ys = back xs ∧ J ys W') ∨ (∃ pre, (∃ k, k ≤ m ∧ pre = (back xs).take k) ∧ Jx pre W')) := by
  refine callsIn_of_wp Tryz.func143 rfl hf ?_ hro
  simp only [Tryz.ntmps143, List.size_toArray, List.length_cons, List.length_nil, Nat.reduceAdd, Nat.reduceSub, Array.replicate_succ, Array.replicate_zero, List.push_toArray, List.append_toArray, List.nil_append, List.cons_append]
  have HM := Lib.hid hm
  have HC := Lib.hid hc
  clear hm hc
  gi_wp2
  gi_loopw [3] (fun i wr => ∃ (k : Nat) (z : Int), k ≤ m ∧ i = .int .i64 z ∧ z = (m : Int) - 1 - k ∧ J ((back xs).take k) wr ∧ Kq n₀ Bs W wr)
    (fun i _ => (intOf i + 1).toNat)
  case atStart => exact ⟨0, (m : Int) - 1, Nat.zero_le _, by go_num, by omega, by simpa using h0, Kq.refl _ _ _⟩
  case round =>
    obtain ⟨k, z, hk, rfl, hz, hJs, hnx⟩ := hrel
    have hbw : wr.cell? ⟨Bs, 0, none⟩ = some (.slice (some ⟨b, off, none⟩) m c) := (hnx.cell (p := ⟨Bs, 0, none⟩) (Or.inr rfl)).trans hBs
    by_cases hlt : k < m
    · obtain ⟨⟨⟨t, u⟩, htv⟩, hx1, hx2, hx3⟩ := back_get (xs := xs) (k := k) (by rw [HM.out]; exact hlt)
      rw [HM.out] at hx1 hx2 hx3
      obtain ⟨fn, tmps, assign, body, hy, hR⟩ := hY _ (m - 1 - k, ⟨(t, u), htv⟩) wr hJs (by rw [List.length_take, back_len, HM.out]; omega)
      (try dsimp only at hy)
      obtain ⟨i, hi⟩ : ∃ i, m - 1 - k = i := ⟨_, rfl⟩
      have hzi : z = i := by omega
      have him : i < m := by omega
      rw [hi] at hx1 hx2 hx3 hy hR
      have cc := fun j u' hu => (hnx.cell (p := ⟨b, off + i * 4 + j, none⟩) (Or.inl hb)).trans (HC.out i _ hx1 j u' hu)
      have c0 := cc 0 _ rfl
      have c1 := cc 1 _ rfl
      have c2 := cc 2 _ rfl
      have c3 := cc 3 _ rfl
      rw [Nat.add_zero] at c0
      clear cc
      subst hzi
      have HI := Lib.hid hi
      clear hz hi hx1 hx2
      have HX := Lib.hid hx3
      clear hx3
      gi_wp2
      refine hR.mono ?_
      rintro e W3 (⟨rfl, hJ3, hk3⟩ | ⟨rfl, hJx3⟩)
      · gi_wp2
        go_roundw
        case rel => exact ⟨k + 1, (i : Int) - 1, by omega, by go_num, by have := HI.out; omega, by rw [HX.out]; exact hJ3, hnx.trans hk3⟩
        case measure => simp [intOf] <;> omega
      · gi_wp2
        refine bodyPost_ret (results_none rfl _ _ _) rfl ?_
        exact ⟨⟨_, rfl⟩, .inr ⟨_, ⟨k + 1, by omega, HX.out.symm⟩, hJx3⟩⟩
    · have hzn : z < 0 := by omega
      have hkm : k = m := by omega
      have HJ := Lib.hid hJs
      subst hkm
      clear hz hJs hY
      gi_wp2
      go_end0
      have h := HJ.out
      rw [List.take_of_length_le (by rw [back_len, HM.out]; exact Nat.le_refl _)] at h
      exact ⟨⟨_, rfl⟩, .inl ⟨_, rfl, h⟩⟩
set_option maxRecDepth 100000 in
set_option maxHeartbeats 1000000 in
theorem back1_nil_in {D : Nat → Bool} {w : World} (F : Fence) (n : Nat) (hf : F.fn 143) (hro : F.round = none) (l Bs c : Nat) (ao : Option Addr) (J : List (Nat × Item D w) → World → Prop)
    (W : World) (hBs : W.cell? ⟨Bs, 0, none⟩ = some (.slice ao 0 c)) (h0 : J [] W) :
    CallsIn F n Tryz.prog 143 #[.func (.yield l) #[] #[], .pointer (some ⟨Bs, 0, none⟩)] W fun e W' => (∃ v, e = .returned v) ∧ J [] W' := by
  refine callsIn_of_wp Tryz.func143 rfl hf ?_ hro
  simp only [Tryz.ntmps143, List.size_toArray, List.length_cons, List.length_nil, Nat.reduceAdd, Nat.reduceSub, Array.replicate_succ, Array.replicate_zero, List.push_toArray, List.append_toArray, List.nil_append, List.cons_append]
  gi_wp2
  gi_loopw [3] (fun i wr => ∃ z : Int, i = .int .i64 z ∧ z = -1 ∧ J [] wr) (fun _ _ => 0)
  case atStart => exact ⟨-1, rfl, rfl, h0⟩
  case round =>
    obtain ⟨z, rfl, hz, hJs⟩ := hrel
    have hzn : z < 0 := by omega
    clear hz
    gi_wp2
    go_end0
    exact ⟨⟨_, rfl⟩, hJs⟩
set_option maxHeartbeats 1000000 in
theorem back_in (F : Fence) (n : Nat) (hf : F.fn 137) (hro : F.round = none) (a : Option Addr) (len cap : Nat) (w : World) :
    CallsIn F n Tryz.prog 137 #[.slice a len cap] w fun e w' => e = .returned (.func (.func 143) #[] #[.pointer (some ⟨w.heap.size, 0, none⟩)]) ∧ w' = w.alloc (.cells #[.slice a len cap] 29) := by
  refine callsIn_of_wp Tryz.func137 rfl hf ?_ hro
  simp only [Tryz.ntmps137, List.size_toArray, List.length_cons, List.length_nil, Nat.reduceAdd, Nat.reduceSub, Array.replicate_succ, Array.replicate_zero, List.push_toArray, List.append_toArray, List.nil_append, List.cons_append]
  gi_wp2
  go_ret
  exact ⟨rfl, rfl⟩
/-- These items are what the slice holds. -/
def HasItems {D : Nat → Bool} {w : World} (W : World) (ao : Option Addr) (m c : Nat) (xs : List (Item D w)) : Prop :=
  xs.length = m ∧ m ≤ c ∧ c ≤ maxLen ∧ m * 56 ≤ 140737488351232 ∧ (m = 0 ∨ ∃ b off, ao = some ⟨b, off, none⟩ ∧ b < w.heap.size ∧ Rowed W b off xs)
theorem items_of {D : Nat → Bool} {w : World} {v : Value} {l : List Tm} (h : Tms (hide D w) v l) : ∃ (ao : Option Addr) (c : Nat) (xs : List (Item D w)), v = .slice ao l.length c ∧ xs.map (fun x => x.1.1) = l ∧ HasItems w ao l.length c xs := by
  obtain ⟨a, c, h1, h2, h3, h4, h5⟩ := h
  unfold BIG at h4
  rcases h5 with rfl | ⟨b, off, rfl, hb, hr⟩
  · exact ⟨a, c, [], h1, rfl, rfl, h2, h3, h4, Or.inl rfl⟩
  · obtain ⟨ps, e1, e2, e3⟩ := hr.pairs
    have hlen : ps.length = l.length := by rw [← e1, List.length_map]
    refine ⟨_, c, ps.pmap (fun p hp => (⟨p, hp⟩ : Item D w)) e2, h1, ?_, ?_, h2, h3, h4, Or.inr ⟨b, off, rfl, by rwa [hide_size] at hb, fun i x hx j u hu => ?_⟩⟩
    · rw [List.map_pmap]
      simpa using e1
    · simp [hlen]
    · rw [List.getElem?_pmap] at hx
      simp only [Option.pmap_eq_some_iff] at hx
      obtain ⟨p, hp, hpi, rfl⟩ := hx
      have hj : j < 4 := (List.getElem?_eq_some_iff.1 hu).1
      have := e3 (i * 4 + j) u (by rw [flat_get pCells_len ps i p hpi j hj]; exact hu)
      rw [Nat.add_assoc]
      exact (Stays.unhide D w).2 _ _ this
theorem back_stops {D : Nat → Bool} {w : World} (F : Fence) (n : Nat) (hf : F.fn 143) (hro : F.round = none) (hn : 1 ≤ n) (Bs n₀ : Nat) (ao : Option Addr) (m c : Nat) (xs : List (Item D w)) (W0 : World) (hW0 : Below w.heap.size w W0) (hn₀ : w.heap.size ≤ n₀) (hBs : Bs < W0.heap.size)
    (hc : W0.cell? ⟨Bs, 0, none⟩ = some (.slice ao m c)) (hI : HasItems w ao m c xs) :
    SeqStopsK F n Tryz.prog 143 #[.pointer (some ⟨Bs, 0, none⟩)] (encB (D := D) (w := w)) (Kq n₀ Bs) (fun ys => ys = back xs)
      (fun pre => ∃ k, k ≤ m ∧ pre = (back xs).take k) m W0 := fun l J Jx W hW _ _ hY h0 => by
  have hc' := (hW.cell (p := ⟨Bs, 0, none⟩) (by show Bs < _; exact hBs)).trans hc
  obtain ⟨h1, h2, h3, h4, h5⟩ := hI
  by_cases hm0 : m = 0
  · subst hm0
    obtain rfl : xs = [] := List.length_eq_zero_iff.1 h1
    exact (back1_nil_in F n hf hro l Bs c ao J W hc' h0).mono fun e W' ⟨he, hj⟩ => ⟨he, .inl ⟨_, rfl, hj⟩⟩
  · obtain ⟨b, off, rfl, hb, hr⟩ := h5.resolve_left hm0
    refine back1_in F n hf hro hn l Bs n₀ b off c m xs h1 h4 (by omega) J Jx hY W hc' h2 h3 (fun i x hx j u hu => ?_) h0
    have hbw : Below w.heap.size w W := hW0.trans (hW.mono hW0.size)
    exact cell_later hbw (hr i x hx j u hu)
end Go.Proofs.YtaojalicnnnkmaaGreatDoor
