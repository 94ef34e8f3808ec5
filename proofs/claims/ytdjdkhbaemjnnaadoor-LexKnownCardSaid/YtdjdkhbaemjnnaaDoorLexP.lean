/- Letter by letter, as chapter 6 says it, over lists of bytes: what stands next. Nothing here is walked. -/
import Derived.Lib.Hide
namespace Go.Proofs.YtdjdkhbaemjnnaaDoor

def smallB (c : UInt8) : Bool := decide (97 ≤ c) && decide (c ≤ 122)
def greatB (c : UInt8) : Bool := (decide (65 ≤ c) && decide (c ≤ 90)) || c == 95
def digitB (c : UInt8) : Bool := decide (48 ≤ c) && decide (c ≤ 57)
def wordB (c : UInt8) : Bool := smallB c || greatB c || digitB c
def blankB (c : UInt8) : Bool := c == 32 || c == 9 || c == 10 || c == 13
def symB (c : UInt8) : Bool := [43, 45, 42, 47, 92, 94, 60, 62, 61, 126, 58, 46, 63, 64, 35, 38, 36].contains c
/-- What stands behind a full stop that is an end. -/
def endB (r : List UInt8) : Bool := match r with | [] => true | c :: _ => blankB c || c == 37
def openB (r : List UInt8) : Bool := match r with | [] => false | c :: _ => c == 40
/-- As many symbols as follow. -/
def symRun : List UInt8 → Nat
  | [] => 0
  | c :: r => if symB c && !(c == 46 && endB r) then symRun r + 1 else 0
/-- What a letter behind a '\' stands for. -/
def escB (c : UInt8) : Option UInt8 := if c == 110 then some 10 else if c == 116 then some 9 else if c == 92 then some 92 else if c == 39 then some 39 else none
/-- Behind the first quote: what it stands for, how many bytes to behind the last quote. -/
def quoB : List UInt8 → Option (List UInt8 × Nat)
  | [] => none
  | [c] => if c == 39 then some ([], 1) else none
  | c :: d :: r =>
    if c == 39 then (if d == 39 then (quoB r).map fun p => (39 :: p.1, p.2 + 2) else some ([], 1))
    else if c == 92 then (match escB d with | none => none | some e => (quoB r).map fun p => (e :: p.1, p.2 + 2))
    else if decide (32 ≤ c) && decide (c ≤ 126) then (quoB (d :: r)).map fun p => (c :: p.1, p.2 + 1) else none
def numB (l : List UInt8) : Nat := l.foldl (fun n c => n * 10 + (c.toNat - 48)) 0

structure TokB where
  kind : Nat
  text : List UInt8
  n : Nat
  len : Nat
  opens : Bool
/-- What stands next: so many bytes are passed over; a token; nothing that may be. -/
inductive NextB where
  | skip (k : Nat)
  | tok (t : TokB)
  | bad (over : Bool)

def tokB (kind : Nat) (text : List UInt8) (n k : Nat) (s : List UInt8) : NextB := .tok ⟨kind, text, n, k, openB (s.drop k)⟩
def nameB (k : Nat) (s : List UInt8) : NextB := if decide (k ≤ 64) then tokB 1 (s.take k) 0 k s else .bad true
def nextC (c : UInt8) (r : List UInt8) : NextB :=
    if blankB c then .skip 1
    else if c == 37 then .skip ((r.takeWhile fun x => x != 10).length + 1)
    else if smallB c then nameB ((r.takeWhile wordB).length + 1) (c :: r)
    else if greatB c then tokB 3 ((c :: r).take ((r.takeWhile wordB).length + 1)) 0 ((r.takeWhile wordB).length + 1) (c :: r)
    else if digitB c then
      if decide (numB ((c :: r).take ((r.takeWhile digitB).length + 1)) ≤ 9223372036854775807) then tokB 4 [] (numB ((c :: r).take ((r.takeWhile digitB).length + 1))) ((r.takeWhile digitB).length + 1) (c :: r) else .bad true
    else if c == 39 then
      match quoB r with
      | none => .bad false
      | some p => if decide (p.1.length ≤ 64) then tokB 2 p.1 0 (p.2 + 1) (c :: r) else .bad true
    else if c == 46 && endB r then tokB 6 [] 0 1 (c :: r)
    else if symB c then nameB (symRun (c :: r)) (c :: r)
    else if c == 59 || c == 33 then nameB 1 (c :: r)
    else if (c == 91 && r.head? == some 93) || (c == 123 && r.head? == some 125) then nameB 2 (c :: r)
    else if [40, 41, 91, 93, 123, 125, 44, 124].contains c then tokB 5 [c] 0 1 (c :: r)
    else .bad false
def nextB : List UInt8 → NextB
  | [] => .skip 0
  | c :: r => nextC c r

/-! A line's end behind the text changes nothing. -/
theorem tw_nl (p : UInt8 → Bool) (hp : p 10 = false) (b : List UInt8) : ∀ r : List UInt8, (r ++ 10 :: b).takeWhile p = r.takeWhile p
  | [] => by simp [hp]
  | c :: r => by
    simp only [List.cons_append, List.takeWhile_cons]
    rw [tw_nl p hp b r]
theorem tw_le (p : UInt8 → Bool) : ∀ r : List UInt8, (r.takeWhile p).length ≤ r.length
  | [] => by simp
  | c :: r => by
    rw [List.takeWhile_cons]
    split
    · have := tw_le p r
      simp
      omega
    · simp
theorem end_nl (b : List UInt8) (r : List UInt8) : endB (r ++ 10 :: b) = endB r := by
  cases r <;> rfl
theorem open_nl (b : List UInt8) (r : List UInt8) : openB (r ++ 10 :: b) = openB r := by
  cases r <;> rfl
theorem sym_nl (b : List UInt8) : ∀ r : List UInt8, symRun (r ++ 10 :: b) = symRun r
  | [] => rfl
  | c :: r => by
    rw [List.cons_append, symRun, symRun, end_nl, sym_nl b r]
theorem sym_le : ∀ r : List UInt8, symRun r ≤ r.length
  | [] => Nat.le_refl _
  | c :: r => by
    rw [symRun]
    split
    · have := sym_le r
      simp
      omega
    · simp
theorem quo_nl (b : List UInt8) : ∀ (n : Nat) (r : List UInt8), r.length ≤ n → ∀ p, quoB r = some p → quoB (r ++ 10 :: b) = some p ∧ p.2 ≤ r.length
  | 0, r, hn => fun p h => by
    obtain rfl : r = [] := List.length_eq_zero_iff.1 (by omega)
    simp [quoB] at h
  | n + 1, [], hn => fun p h => by simp [quoB] at h
  | n + 1, [c], hn => fun p h => by
    rw [quoB] at h
    split at h
    · rename_i hc
      cases h
      refine ⟨?_, by simp⟩
      show quoB (c :: 10 :: b) = _
      rw [quoB, if_pos hc]
      rfl
    · cases h
  | n + 1, c :: d :: r, hn => fun p h => by
    have hr : r.length ≤ n := by simp at hn; omega
    have hd : (d :: r).length ≤ n := by simp at hn ⊢; omega
    rw [quoB] at h
    show quoB (c :: d :: (r ++ 10 :: b)) = _ ∧ _
    rw [quoB]
    split at h
    · rename_i hc
      rw [if_pos hc]
      split at h
      · rename_i hd'
        rw [if_pos hd']
        obtain ⟨q, hq, rfl⟩ := Option.map_eq_some_iff.1 h
        obtain ⟨h1, h2⟩ := quo_nl b n r hr q hq
        rw [h1]
        exact ⟨rfl, by simp; omega⟩
      · rename_i hd'
        rw [if_neg hd']
        cases h
        exact ⟨rfl, by simp⟩
    · rename_i hc
      rw [if_neg hc]
      split at h
      · rename_i hc2
        rw [if_pos hc2]
        cases he : escB d with
        | none => rw [he] at h; cases h
        | some e =>
          rw [he] at h
          obtain ⟨q, hq, rfl⟩ := Option.map_eq_some_iff.1 h
          obtain ⟨h1, h2⟩ := quo_nl b n r hr q hq
          simp only [h1]
          exact ⟨rfl, by simp; omega⟩
      · rename_i hc2
        rw [if_neg hc2]
        split at h
        · rename_i hc3
          rw [if_pos hc3]
          obtain ⟨q, hq, rfl⟩ := Option.map_eq_some_iff.1 h
          obtain ⟨h1, h2⟩ := quo_nl b n (d :: r) hd q hq
          rw [List.cons_append] at h1
          rw [h1]
          exact ⟨rfl, by simp at h2 ⊢; omega⟩
        · cases h
theorem take_nl (b : List UInt8) {r : List UInt8} {k : Nat} (hk : k ≤ r.length) : (r ++ 10 :: b).take k = r.take k := by
  rw [List.take_append_of_le_length hk]
theorem drop_open (b : List UInt8) {r : List UInt8} {k : Nat} (hk : k ≤ r.length) : openB ((r ++ 10 :: b).drop k) = openB (r.drop k) := by
  rw [List.drop_append_of_le_length hk, open_nl]
theorem tok_nl (b : List UInt8) (kind : Nat) (text : List UInt8) (n k : Nat) {s : List UInt8} (hk : k ≤ s.length) : tokB kind text n k (s ++ 10 :: b) = tokB kind text n k s := by
  unfold tokB
  rw [drop_open b hk]
theorem name_nl (b : List UInt8) (k : Nat) {s : List UInt8} (hk : k ≤ s.length) : nameB k (s ++ 10 :: b) = nameB k s := by
  unfold nameB
  rw [take_nl b hk, tok_nl b _ _ _ _ hk]
/-- What is right at a text's end is so at a line's end. -/
theorem next_nl (b : List UInt8) (c : UInt8) (r : List UInt8) (h : ∀ o, nextB (c :: r) ≠ .bad o) : nextB (c :: r ++ 10 :: b) = nextB (c :: r) := by
  have hw := tw_le wordB r
  have hg := tw_le digitB r
  have hsy := sym_le (c :: r)
  have e1 := tw_nl wordB (by decide) b r
  have e2 := tw_nl digitB (by decide) b r
  have e3 := tw_nl (fun x => x != 10) (by decide) b r
  have e4 := sym_nl b (c :: r)
  rw [List.cons_append] at e4
  rw [List.cons_append]
  show nextC c (r ++ 10 :: b) = nextC c r
  replace h : ∀ o, nextC c r ≠ .bad o := h
  unfold nextC at h ⊢
  rw [e1, e2, e3, e4, end_nl]
  rw [show c :: (r ++ 10 :: b) = (c :: r) ++ 10 :: b from rfl]
  have hl : (c :: r).length = r.length + 1 := rfl
  by_cases h1 : blankB c = true
  · rw [if_pos h1, if_pos h1]
  rw [if_neg h1] at h
  rw [if_neg h1, if_neg h1]
  by_cases h2 : (c == 37) = true
  · rw [if_pos h2, if_pos h2]
  rw [if_neg h2] at h
  rw [if_neg h2, if_neg h2]
  by_cases h3 : smallB c = true
  · rw [if_pos h3, if_pos h3]
    exact name_nl b _ (by omega)
  rw [if_neg h3] at h
  rw [if_neg h3, if_neg h3]
  by_cases h4 : greatB c = true
  · rw [if_pos h4, if_pos h4]
    rw [take_nl b (by omega), tok_nl b _ _ _ _ (by omega)]
  rw [if_neg h4] at h
  rw [if_neg h4, if_neg h4]
  by_cases h5 : digitB c = true
  · rw [if_pos h5, if_pos h5]
    rw [take_nl b (by omega), tok_nl b _ _ _ _ (by omega)]
  rw [if_neg h5] at h
  rw [if_neg h5, if_neg h5]
  by_cases h6 : (c == 39) = true
  · rw [if_pos h6, if_pos h6]
    rw [if_pos h6] at h
    cases hq : quoB r with
    | none => rw [hq] at h; exact absurd rfl (h false)
    | some p =>
      obtain ⟨g1, g2⟩ := quo_nl b r.length r (Nat.le_refl _) p hq
      simp only [g1]
      rw [tok_nl b _ _ _ _ (by omega)]
  rw [if_neg h6] at h
  rw [if_neg h6, if_neg h6]
  by_cases h7 : (c == 46 && endB r) = true
  · rw [if_pos h7, if_pos h7]
    exact tok_nl b _ _ _ _ (by simp)
  rw [if_neg h7] at h
  rw [if_neg h7, if_neg h7]
  by_cases h8 : symB c = true
  · rw [if_pos h8, if_pos h8]
    exact name_nl b _ hsy
  rw [if_neg h8] at h
  rw [if_neg h8, if_neg h8]
  by_cases h9 : (c == 59 || c == 33) = true
  · rw [if_pos h9, if_pos h9]
    exact name_nl b _ (by simp)
  rw [if_neg h9] at h
  rw [if_neg h9, if_neg h9]
  have hh : ((c == 91 && (r ++ 10 :: b).head? == some 93) || (c == 123 && (r ++ 10 :: b).head? == some 125)) = ((c == 91 && r.head? == some 93) || (c == 123 && r.head? == some 125)) := by
    cases r with
    | nil => cases (c == 91) <;> cases (c == 123) <;> rfl
    | cons d r => rfl
  rw [hh]
  by_cases h10 : ((c == 91 && r.head? == some 93) || (c == 123 && r.head? == some 125)) = true
  · rw [if_pos h10, if_pos h10]
    refine name_nl b _ ?_
    cases r with
    | nil => simp at h10
    | cons d r => simp
  rw [if_neg h10] at h
  rw [if_neg h10, if_neg h10]
  by_cases h11 : [40, 41, 91, 93, 123, 125, 44, 124].contains c = true
  · rw [if_pos h11, if_pos h11]
    exact tok_nl b _ _ _ _ (by simp)
  rw [if_neg h11, if_neg h11]
end Go.Proofs.YtdjdkhbaemjnnaaDoor
