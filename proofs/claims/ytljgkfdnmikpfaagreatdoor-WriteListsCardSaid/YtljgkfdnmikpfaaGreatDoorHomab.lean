import Derived.Test.YtljgkfdnmikpfaaGreatDoorHomaa
import Derived.Lib.ItoaMem
import Derived.Shelf.SlGeneric
import Derived.Shelf.SlicesQ.IndexFunc
import Derived.Shelf.Spec.SlicesGrow
import Derived.Ground.SlgfProg
import Derived.Ground.Names7Prog
import Derived.Test.YtljgkfdnmikpfaaGreatDoorProg
import Derived.Lib.SliceRun
set_option linter.unusedVariables false
set_option linter.unusedSimpArgs false
/- Letter by letter: plain names, quoted names. Nothing here is walked. -/
namespace Go.Proofs.YtljgkfdnmikpfaaGreatDoor

theorem name_kind {k : Nat} {s : List UInt8} {t : TokB} (h : nameB k s = .tok t) : t.kind = 1 ∧ t.text = s.take t.len ∧ t.n = 0 ∧ t.len = k ∧ k ≤ 64 := by
  unfold nameB at h
  split at h
  · rename_i hk
    unfold tokB at h
    cases h
    exact ⟨rfl, rfl, rfl, rfl, by simpa using hk⟩
  · cases h
/-- A name of Kind 1 is its letters. -/
theorem next_kind (c : UInt8) (r : List UInt8) (t : TokB) (h : nextC c r = .tok t) (hk : t.kind = 1) : t.text = (c :: r).take t.len := by
  unfold nextC at h
  have other : ∀ (kind : Nat) (text : List UInt8) (n k : Nat) (s : List UInt8), kind ≠ 1 → tokB kind text n k s = .tok t → t.text = (c :: r).take t.len := fun kind text n k s hne he => by
    unfold tokB at he
    cases he
    exact absurd hk hne
  by_cases h1 : blankB c = true
  · rw [if_pos h1] at h; cases h
  rw [if_neg h1] at h
  by_cases h2 : (c == 37) = true
  · rw [if_pos h2] at h; cases h
  rw [if_neg h2] at h
  by_cases h3 : smallB c = true
  · rw [if_pos h3] at h; exact (name_kind h).2.1
  rw [if_neg h3] at h
  by_cases h4 : greatB c = true
  · rw [if_pos h4] at h; exact other _ _ _ _ _ (by decide) h
  rw [if_neg h4] at h
  by_cases h5 : digitB c = true
  · rw [if_pos h5] at h
    split at h
    · exact other _ _ _ _ _ (by decide) h
    · cases h
  rw [if_neg h5] at h
  by_cases h6 : (c == 39) = true
  · rw [if_pos h6] at h
    cases hq : quoB r with
    | none => rw [hq] at h; cases h
    | some p =>
      rw [hq] at h
      simp only at h
      split at h
      · exact other _ _ _ _ _ (by decide) h
      · cases h
  rw [if_neg h6] at h
  by_cases h7 : (c == 46 && endB r) = true
  · rw [if_pos h7] at h; exact other _ _ _ _ _ (by decide) h
  rw [if_neg h7] at h
  by_cases h8 : symB c = true
  · rw [if_pos h8] at h; exact (name_kind h).2.1
  rw [if_neg h8] at h
  by_cases h9 : (c == 59 || c == 33) = true
  · rw [if_pos h9] at h; exact (name_kind h).2.1
  rw [if_neg h9] at h
  by_cases h10 : ((c == 91 && r.head? == some 93) || (c == 123 && r.head? == some 125)) = true
  · rw [if_pos h10] at h; exact (name_kind h).2.1
  rw [if_neg h10] at h
  by_cases h11 : [40, 41, 91, 93, 123, 125, 44, 124].contains c = true
  · rw [if_pos h11] at h; exact other _ _ _ _ _ (by decide) h
  rw [if_neg h11] at h
  cases h

/-- One name of Kind 1, and nothing else. -/
def plainB (name : List UInt8) : Bool :=
  match name with
  | [] => false
  | c :: r => match nextC c r with
    | .tok t => t.kind == 1 && t.len == (c :: r).length
    | _ => false
def quoteB (name : List UInt8) : List UInt8 :=
  if plainB name then name else if decide (name.length ≤ 64) && name.all mayQ then 39 :: (name.flatMap escQ ++ [39]) else []
theorem plain_lex {name : List UInt8} (h : plainB name = true) (n p : Nat) : ∃ t, lexL (n + 1) p name = some [(t, p)] ∧ t.kind = 1 ∧ t.text = name := by
  unfold plainB at h
  split at h
  · cases h
  · rename_i c r
    split at h
    · rename_i t ht
      simp only [Bool.and_eq_true, beq_iff_eq] at h
      refine ⟨t, ?_, h.1, by rw [next_kind c r t ht h.1, h.2, List.take_length]⟩
      rw [lexL, ht]
      simp only
      rw [h.2, List.drop_length, lex_nil]
      rfl
    · cases h
end Go.Proofs.YtljgkfdnmikpfaaGreatDoor
/- Letter by letter: a whole text, its tokens or where it is refused; what is passed over ahead of a token. Nothing here is walked. -/
namespace Go.Proofs.YtljgkfdnmikpfaaGreatDoor

inductive CutR where
  | ok (l : List (TokB × Nat))
  | bad (pl : Nat) (over : Bool)

def cutW : Nat → List (TokB × Nat) → Nat → List UInt8 → CutR
  | _, acc, _, [] => .ok acc
  | 0, _, p, _ :: _ => .bad p true
  | n + 1, acc, p, c :: r =>
    match nextC c r with
    | .skip k => cutW n acc (p + k) ((c :: r).drop k)
    | .tok t => if acc.length = 1024 then .bad p true else cutW n (acc ++ [(t, p)]) (p + t.len) ((c :: r).drop t.len)
    | .bad o => .bad p o
def cutF (acc : List (TokB × Nat)) (p : Nat) (s : List UInt8) : CutR := cutW s.length acc p s
def cutB (s : List UInt8) : CutR := if 4096 < s.length then .bad 4096 true else cutF [] 0 s

def passL : Nat → List UInt8 → Nat
  | _, [] => 0
  | 0, _ :: _ => 0
  | n + 1, c :: r => match nextC c r with
    | .skip k => k + passL n ((c :: r).drop k)
    | _ => 0
def passF (s : List UInt8) : Nat := passL s.length s

theorem sym_pos {c : UInt8} {r : List UInt8} (h : symB c = true) (he : ¬ (c == 46 && endB r) = true) : 1 ≤ symRun (c :: r) := by
  rw [symRun, h]
  simp only [Bool.not_eq_true] at he
  rw [he]
  simp
theorem name_pos {k : Nat} {s : List UInt8} (hk : 1 ≤ k) : (∃ t, nameB k s = .tok t ∧ 1 ≤ t.len) ∨ nameB k s = .bad true := by
  unfold nameB
  split
  · exact Or.inl ⟨_, rfl, hk⟩
  · exact Or.inr rfl
/-- What stands next takes at least one byte. -/
theorem next_pos (c : UInt8) (r : List UInt8) : (∃ k, nextC c r = .skip k ∧ 1 ≤ k) ∨ (∃ t, nextC c r = .tok t ∧ 1 ≤ t.len) ∨ ∃ o, nextC c r = .bad o := by
  have nm : ∀ (k : Nat), 1 ≤ k → (∃ j, nameB k (c :: r) = .skip j ∧ 1 ≤ j) ∨ (∃ t, nameB k (c :: r) = .tok t ∧ 1 ≤ t.len) ∨ ∃ o, nameB k (c :: r) = .bad o := fun k hk => by
    rcases name_pos (s := c :: r) hk with h | h
    · exact Or.inr (Or.inl h)
    · exact Or.inr (Or.inr ⟨_, h⟩)
  unfold nextC
  by_cases h1 : blankB c = true
  · rw [if_pos h1]; exact Or.inl ⟨_, rfl, Nat.le_refl _⟩
  rw [if_neg h1]
  by_cases h2 : (c == 37) = true
  · rw [if_pos h2]; exact Or.inl ⟨_, rfl, Nat.le_add_left _ _⟩
  rw [if_neg h2]
  by_cases h3 : smallB c = true
  · rw [if_pos h3]; exact nm _ (Nat.le_add_left _ _)
  rw [if_neg h3]
  by_cases h4 : greatB c = true
  · rw [if_pos h4]; exact Or.inr (Or.inl ⟨_, rfl, Nat.le_add_left _ _⟩)
  rw [if_neg h4]
  by_cases h5 : digitB c = true
  · rw [if_pos h5]
    split
    · exact Or.inr (Or.inl ⟨_, rfl, Nat.le_add_left _ _⟩)
    · exact Or.inr (Or.inr ⟨_, rfl⟩)
  rw [if_neg h5]
  by_cases h6 : (c == 39) = true
  · rw [if_pos h6]
    cases hq : quoB r with
    | none => exact Or.inr (Or.inr ⟨_, rfl⟩)
    | some p =>
      simp only
      split
      · exact Or.inr (Or.inl ⟨_, rfl, Nat.le_add_left _ _⟩)
      · exact Or.inr (Or.inr ⟨_, rfl⟩)
  rw [if_neg h6]
  by_cases h7 : (c == 46 && endB r) = true
  · rw [if_pos h7]; exact Or.inr (Or.inl ⟨_, rfl, Nat.le_refl _⟩)
  rw [if_neg h7]
  by_cases h8 : symB c = true
  · rw [if_pos h8]; exact nm _ (sym_pos h8 h7)
  rw [if_neg h8]
  by_cases h9 : (c == 59 || c == 33) = true
  · rw [if_pos h9]; exact nm _ (Nat.le_refl _)
  rw [if_neg h9]
  by_cases h10 : ((c == 91 && r.head? == some 93) || (c == 123 && r.head? == some 125)) = true
  · rw [if_pos h10]; exact nm _ (by omega)
  rw [if_neg h10]
  by_cases h11 : [40, 41, 91, 93, 123, 125, 44, 124].contains c = true
  · rw [if_pos h11]; exact Or.inr (Or.inl ⟨_, rfl, Nat.le_refl _⟩)
  rw [if_neg h11]
  exact Or.inr (Or.inr ⟨_, rfl⟩)
theorem drop_lt {c : UInt8} {r : List UInt8} {k n : Nat} (hk : 1 ≤ k) (hn : (c :: r).length ≤ n + 1) : ((c :: r).drop k).length ≤ n := by
  rw [List.length_drop]; omega
theorem cut_fuel : ∀ (n m : Nat) (acc : List (TokB × Nat)) (p : Nat) (s : List UInt8), s.length ≤ n → s.length ≤ m → cutW n acc p s = cutW m acc p s
  | n, m, acc, p, [], _, _ => by cases n <;> cases m <;> rfl
  | 0, m, acc, p, c :: r, hn, _ => by simp at hn
  | n + 1, 0, acc, p, c :: r, _, hm => by simp at hm
  | n + 1, m + 1, acc, p, c :: r, hn, hm => by
    rw [cutW, cutW]
    rcases next_pos c r with ⟨k, h, hk⟩ | ⟨t, h, hk⟩ | ⟨o, h⟩
    · rw [h]; exact cut_fuel n m _ _ _ (drop_lt hk hn) (drop_lt hk hm)
    · rw [h]; simp only; rw [cut_fuel n m _ _ _ (drop_lt hk hn) (drop_lt hk hm)]
    · rw [h]
theorem pass_fuel : ∀ (n m : Nat) (s : List UInt8), s.length ≤ n → s.length ≤ m → passL n s = passL m s
  | n, m, [], _, _ => by cases n <;> cases m <;> rfl
  | 0, m, c :: r, hn, _ => by simp at hn
  | n + 1, 0, c :: r, _, hm => by simp at hm
  | n + 1, m + 1, c :: r, hn, hm => by
    rw [passL, passL]
    rcases next_pos c r with ⟨k, h, hk⟩ | ⟨t, h, hk⟩ | ⟨o, h⟩
    · rw [h]; simp only; rw [pass_fuel n m _ (drop_lt hk hn) (drop_lt hk hm)]
    · rw [h]
    · rw [h]
theorem cutF_nil (acc : List (TokB × Nat)) (p : Nat) : cutF acc p [] = .ok acc := rfl
theorem cutF_skip {acc : List (TokB × Nat)} {p k : Nat} {c : UInt8} {r : List UInt8} (h : nextC c r = .skip k) (hk : 1 ≤ k) : cutF acc p (c :: r) = cutF acc (p + k) ((c :: r).drop k) := by
  unfold cutF
  rw [List.length_cons, cutW, h]
  exact cut_fuel _ _ _ _ _ (drop_lt hk (Nat.le_refl _)) (Nat.le_refl _)
theorem cutF_tok {acc : List (TokB × Nat)} {p : Nat} {c : UInt8} {r : List UInt8} {t : TokB} (h : nextC c r = .tok t) (hk : 1 ≤ t.len) (ha : acc.length ≠ 1024) : cutF acc p (c :: r) = cutF (acc ++ [(t, p)]) (p + t.len) ((c :: r).drop t.len) := by
  unfold cutF
  rw [List.length_cons, cutW, h]
  simp only
  rw [if_neg ha]
  exact cut_fuel _ _ _ _ _ (drop_lt hk (Nat.le_refl _)) (Nat.le_refl _)
theorem cutF_full {acc : List (TokB × Nat)} {p : Nat} {c : UInt8} {r : List UInt8} {t : TokB} (h : nextC c r = .tok t) (ha : acc.length = 1024) : cutF acc p (c :: r) = .bad p true := by
  unfold cutF
  rw [List.length_cons, cutW, h]
  simp only
  rw [if_pos ha]
theorem cutF_bad {acc : List (TokB × Nat)} {p : Nat} {c : UInt8} {r : List UInt8} {o : Bool} (h : nextC c r = .bad o) : cutF acc p (c :: r) = .bad p o := by
  unfold cutF
  rw [List.length_cons, cutW, h]
theorem passF_skip {k : Nat} {c : UInt8} {r : List UInt8} (h : nextC c r = .skip k) (hk : 1 ≤ k) : passF (c :: r) = k + passF ((c :: r).drop k) := by
  unfold passF
  rw [List.length_cons, passL, h]
  simp only
  rw [pass_fuel _ _ _ (drop_lt hk (Nat.le_refl _)) (Nat.le_refl _)]
theorem passF_stop {c : UInt8} {r : List UInt8} (h : ∀ k, nextC c r ≠ .skip k) : passF (c :: r) = 0 := by
  unfold passF
  rw [List.length_cons, passL]
  split
  · rename_i k hk; exact absurd hk (h k)
  · rfl
/-- What is passed over, no text is behind or a token: and nothing of the answer changes. -/
theorem pass_cut : ∀ (n : Nat) (s : List UInt8), s.length ≤ n → passF s ≤ s.length ∧ (∀ acc p, cutF acc p s = cutF acc (p + passF s) (s.drop (passF s))) ∧ ∀ c r, s.drop (passF s) = c :: r → ∀ k, nextC c r ≠ .skip k
  | _, [], _ => ⟨Nat.le_refl _, fun _ _ => rfl, fun c r h => by simp at h⟩
  | 0, c :: r, h => by simp at h
  | n + 1, c :: r, hn => by
    have hlen := next_len c r
    rcases next_pos c r with ⟨k, h, hk⟩ | ⟨t, h, hk⟩ | ⟨o, h⟩
    · rw [h] at hlen
      have hk2 : k ≤ (c :: r).length := hlen
      obtain ⟨i1, i2, i3⟩ := pass_cut n ((c :: r).drop k) (drop_lt hk hn)
      rw [passF_skip h hk]
      refine ⟨?_, fun acc p => ?_, fun c' r' h' => ?_⟩
      · rw [List.length_drop] at i1; omega
      · rw [cutF_skip h hk, i2, List.drop_drop, Nat.add_assoc]
      · rw [← List.drop_drop] at h'; exact i3 c' r' h'
    · have e : passF (c :: r) = 0 := passF_stop (fun k' => by rw [h]; intro e; cases e)
      rw [e]
      refine ⟨Nat.zero_le _, fun _ _ => rfl, fun c' r' h' => ?_⟩
      rw [List.drop_zero] at h'; cases h'
      rw [h]; intro k e; cases e
    · have e : passF (c :: r) = 0 := passF_stop (fun k' => by rw [h]; intro e; cases e)
      rw [e]
      refine ⟨Nat.zero_le _, fun _ _ => rfl, fun c' r' h' => ?_⟩
      rw [List.drop_zero] at h'; cases h'
      rw [h]; intro k e; cases e
/-- All is well just where there are tokens, and not too many. -/
theorem cut_lex : ∀ (n : Nat) (acc : List (TokB × Nat)) (p : Nat) (s : List UInt8) (l : List (TokB × Nat)), acc.length ≤ 1024 →
    (cutW n acc p s = .ok l ↔ ∃ x, lexL n p s = some x ∧ l = acc ++ x ∧ acc.length + x.length ≤ 1024)
  | n, acc, p, [], l, ha => by
    rw [lex_nil]
    have e : cutW n acc p [] = .ok acc := by cases n <;> rfl
    rw [e]
    constructor
    · intro h; cases h; exact ⟨[], rfl, by simp, by simpa using ha⟩
    · rintro ⟨x, hx, rfl, _⟩; cases hx; simp
  | 0, acc, p, c :: r, l, ha => by
    constructor
    · intro h; cases h
    · rintro ⟨x, hx, _⟩; cases hx
  | n + 1, acc, p, c :: r, l, ha => by
    rw [cutW, lexL]
    cases h : nextC c r with
    | skip k => exact cut_lex n acc _ _ l ha
    | bad o => simp
    | tok t =>
      simp only
      by_cases hf : acc.length = 1024
      · rw [if_pos hf]
        constructor
        · intro h; cases h
        · rintro ⟨x, hx, rfl, hl⟩
          obtain ⟨y, _, rfl⟩ := Option.map_eq_some_iff.1 hx
          simp at hl
          omega
      · rw [if_neg hf, cut_lex n (acc ++ [(t, p)]) _ _ l (by simp; omega)]
        constructor
        · rintro ⟨x, hx, rfl, hl⟩
          exact ⟨(t, p) :: x, by rw [hx]; rfl, by simp, by simp at hl ⊢; omega⟩
        · rintro ⟨x, hx, rfl, hl⟩
          obtain ⟨y, hy, rfl⟩ := Option.map_eq_some_iff.1 hx
          exact ⟨y, hy, by simp, by simp at hl ⊢; omega⟩
theorem cutB_ok {s : List UInt8} {l : List (TokB × Nat)} : cutB s = .ok l ↔ s.length ≤ 4096 ∧ lexL s.length 0 s = some l ∧ l.length ≤ 1024 := by
  unfold cutB
  by_cases h : 4096 < s.length
  · rw [if_pos h]
    constructor
    · intro h; cases h
    · rintro ⟨h1, _⟩; omega
  · rw [if_neg h]
    unfold cutF
    rw [cut_lex _ _ _ _ _ (Nat.zero_le _)]
    constructor
    · rintro ⟨x, hx, rfl, hl⟩
      exact ⟨by omega, by simpa using hx, by simpa using hl⟩
    · rintro ⟨_, hx, hl⟩
      exact ⟨l, hx, by simp, by simpa using hl⟩
end Go.Proofs.YtljgkfdnmikpfaaGreatDoor
/- Letter by letter: a plain name by what Cut tells; what a quoted name is by what Cut tells. Nothing here is walked. -/
namespace Go.Proofs.YtljgkfdnmikpfaaGreatDoor

theorem next_short (c : UInt8) (r : List UInt8) (t : TokB) (h : nextC c r = .tok t) (hk : t.kind = 1) : t.len ≤ 64 := by
  unfold nextC at h
  have other : ∀ (kind : Nat) (text : List UInt8) (n k : Nat) (s : List UInt8), kind ≠ 1 → tokB kind text n k s = .tok t → t.len ≤ 64 := fun kind text n k s hne he => by
    unfold tokB at he
    cases he
    exact absurd hk hne
  have name : ∀ (k : Nat) (s : List UInt8), nameB k s = .tok t → t.len ≤ 64 := fun k s he => by
    have := name_kind he
    omega
  by_cases h1 : blankB c = true
  · rw [if_pos h1] at h; cases h
  rw [if_neg h1] at h
  by_cases h2 : (c == 37) = true
  · rw [if_pos h2] at h; cases h
  rw [if_neg h2] at h
  by_cases h3 : smallB c = true
  · rw [if_pos h3] at h; exact name _ _ h
  rw [if_neg h3] at h
  by_cases h4 : greatB c = true
  · rw [if_pos h4] at h; exact other _ _ _ _ _ (by decide) h
  rw [if_neg h4] at h
  by_cases h5 : digitB c = true
  · rw [if_pos h5] at h
    split at h
    · exact other _ _ _ _ _ (by decide) h
    · cases h
  rw [if_neg h5] at h
  by_cases h6 : (c == 39) = true
  · rw [if_pos h6] at h
    cases hq : quoB r with
    | none => rw [hq] at h; cases h
    | some p =>
      rw [hq] at h
      simp only at h
      split at h
      · exact other _ _ _ _ _ (by decide) h
      · cases h
  rw [if_neg h6] at h
  by_cases h7 : (c == 46 && endB r) = true
  · rw [if_pos h7] at h; exact other _ _ _ _ _ (by decide) h
  rw [if_neg h7] at h
  by_cases h8 : symB c = true
  · rw [if_pos h8] at h; exact name _ _ h
  rw [if_neg h8] at h
  by_cases h9 : (c == 59 || c == 33) = true
  · rw [if_pos h9] at h; exact name _ _ h
  rw [if_neg h9] at h
  by_cases h10 : ((c == 91 && r.head? == some 93) || (c == 123 && r.head? == some 125)) = true
  · rw [if_pos h10] at h; exact name _ _ h
  rw [if_neg h10] at h
  by_cases h11 : [40, 41, 91, 93, 123, 125, 44, 124].contains c = true
  · rw [if_pos h11] at h; exact other _ _ _ _ _ (by decide) h
  rw [if_neg h11] at h
  cases h
/-- The first token: so many bytes are passed over, then it stands. -/
theorem lex_first : ∀ (n p : Nat) (s : List UInt8) (t : TokB) (q : Nat) (x : List (TokB × Nat)), lexL n p s = some ((t, q) :: x) → ∃ k c r, q = p + k ∧ s.drop k = c :: r ∧ nextC c r = .tok t
  | n, p, [], t, q, x, h => by rw [lex_nil] at h; cases h
  | 0, p, c :: r, t, q, x, h => by cases h
  | n + 1, p, c :: r, t, q, x, h => by
    rw [lexL] at h
    cases hn : nextC c r with
    | skip k =>
      rw [hn] at h
      obtain ⟨j, c', r', rfl, hd, ht⟩ := lex_first n (p + k) _ t q x h
      exact ⟨k + j, c', r', by omega, by rw [← hd, List.drop_drop], ht⟩
    | tok u =>
      rw [hn] at h
      obtain ⟨l, hl, he⟩ := Option.map_eq_some_iff.1 h
      cases he
      exact ⟨0, c, r, by omega, rfl, hn⟩
    | bad o => rw [hn] at h; cases h
theorem plain_short {s : List UInt8} (h : plainB s = true) : 1 ≤ s.length ∧ s.length ≤ 64 := by
  unfold plainB at h
  split at h
  · cases h
  · rename_i c r
    split at h
    · rename_i t ht
      simp only [Bool.and_eq_true, beq_iff_eq] at h
      have := next_short c r t ht h.1
      rw [h.2] at this
      exact ⟨by simp, this⟩
    · cases h
theorem plain_yes {s : List UInt8} (h : plainB s = true) : ∃ t, cutB s = .ok [(t, 0)] ∧ t.kind = 1 ∧ t.text = s := by
  have hl := plain_short h
  obtain ⟨t, h1, h2, h3⟩ := plain_lex h (s.length - 1) 0
  rw [show s.length - 1 + 1 = s.length by omega] at h1
  exact ⟨t, cutB_ok.2 ⟨by omega, h1, by simp⟩, h2, h3⟩
theorem plain_no {s : List UInt8} {t : TokB} {p : Nat} (h : cutB s = .ok [(t, p)]) (hk : t.kind = 1) (ht : t.text = s) : plainB s = true := by
  obtain ⟨_, h1, _⟩ := cutB_ok.1 h
  obtain ⟨k, c, r, _, hd, hn⟩ := lex_first _ _ _ _ _ _ h1
  have e := next_kind c r t hn hk
  have hl := next_len c r
  rw [hn] at hl
  have hl' : t.len ≤ (c :: r).length := hl
  have h2 := congrArg List.length hd
  rw [List.length_drop] at h2
  have h3 := congrArg List.length e
  rw [ht, List.length_take] at h3
  have hp : 1 ≤ (c :: r).length := by simp
  have hk0 : k = 0 := by omega
  subst hk0
  rw [List.drop_zero] at hd
  subst hd
  unfold plainB
  simp only [hn, hk, beq_self_eq_true, Bool.true_and, beq_iff_eq]
  omega
theorem quote_size (s : List UInt8) : (quoteB s).length ≤ 130 := by
  unfold quoteB
  split
  · rename_i h
    have := plain_short h
    omega
  split
  · rename_i h
    simp only [Bool.and_eq_true, decide_eq_true_eq] at h
    have : ∀ l : List UInt8, (l.flatMap escQ).length ≤ 2 * l.length := fun l => by
      induction l with
      | nil => simp
      | cons c r ih =>
        rw [List.flatMap_cons, List.length_append, List.length_cons]
        have : (escQ c).length ≤ 2 := by
          unfold escQ
          split
          · simp
          split
          · simp
          split
          · simp
          split
          · simp
          · simp
        omega
    have := this s
    rw [List.length_cons, List.length_append, List.length_singleton]
    omega
  · simp
end Go.Proofs.YtljgkfdnmikpfaaGreatDoor
/- What stands in a written text, letter by letter: pieces that are cut as they were meant, whatever stands behind. Numbers of any size. Pure. -/
namespace Go.Proofs.YtljgkfdnmikpfaaGreatDoor
set_option linter.unusedVariables false

/-- What stands next, numbers of whatever size. -/
def nextU (c : UInt8) (r : List UInt8) : NextB :=
  if digitB c then tokB 4 [] (numB ((c :: r).take ((r.takeWhile digitB).length + 1))) ((r.takeWhile digitB).length + 1) (c :: r) else nextC c r
theorem digit_not : ∀ c : UInt8, digitB c = true → blankB c = false ∧ (c == 37) = false ∧ smallB c = false ∧ greatB c = false := by
  have h : ((List.range 256).all fun n => !digitB (UInt8.ofNat n) || (!blankB (UInt8.ofNat n) && !(UInt8.ofNat n == 37) && !smallB (UInt8.ofNat n) && !greatB (UInt8.ofNat n))) = true := by decide +kernel
  intro c hc
  have h1 := List.all_eq_true.1 h c.toNat (List.mem_range.2 c.toNat_lt)
  have e : UInt8.ofNat c.toNat = c := by simp
  rw [e, hc] at h1
  simp only [Bool.not_true, Bool.false_or, Bool.and_eq_true, Bool.not_eq_true'] at h1
  exact ⟨h1.1.1.1, h1.1.1.2, h1.1.2, h1.2⟩
theorem nextU_pos (c : UInt8) (r : List UInt8) : (∀ k, nextU c r = .skip k → 1 ≤ k) ∧ (∀ t, nextU c r = .tok t → 1 ≤ t.len) := by
  unfold nextU
  by_cases hd : digitB c = true
  · rw [if_pos hd]
    refine ⟨fun k h => ?_, fun t h => ?_⟩
    · unfold tokB at h; cases h
    · unfold tokB at h; cases h; simp
  · rw [if_neg hd]
    rcases next_pos c r with ⟨k, h, hk⟩ | ⟨t, h, hk⟩ | ⟨o, h⟩
    · rw [h]; exact ⟨fun j e => (by cases e; exact hk), fun t e => (by cases e)⟩
    · rw [h]; exact ⟨fun j e => (by cases e), fun t e => (by cases e; exact hk)⟩
    · rw [h]; exact ⟨fun j e => (by cases e), fun t e => (by cases e)⟩
/-- A text, from a place on, is cut so. -/
inductive LexTo : Nat → List UInt8 → List (TokB × Nat) → Prop where
  | nil (p : Nat) : LexTo p [] []
  | skip {p k : Nat} {c : UInt8} {r : List UInt8} {l : List (TokB × Nat)} : nextU c r = .skip k → LexTo (p + k) ((c :: r).drop k) l → LexTo p (c :: r) l
  | tok {p : Nat} {t : TokB} {c : UInt8} {r : List UInt8} {l : List (TokB × Nat)} : nextU c r = .tok t → LexTo (p + t.len) ((c :: r).drop t.len) l → LexTo p (c :: r) ((t, p) :: l)
/-! Pieces. -/
def stopB (c : UInt8) : Bool := [41, 44, 32, 124, 93, 125].contains c
/-- Nothing, or what no piece goes on with. -/
def StopH : List UInt8 → Prop
  | [] => True
  | c :: _ => stopB c = true
/-- A piece that is cut so, if what is behind does not go on with it. -/
def Pc (p : Nat) (b : List UInt8) (t : List (TokB × Nat)) : Prop := ∀ R l, StopH R → LexTo (p + b.length) R l → LexTo p (b ++ R) (t ++ l)
theorem stop_not : ∀ c : UInt8, stopB c = true ∨ c = 40 → wordB c = false ∧ symB c = false ∧ digitB c = false ∧ (c == 39) = false := by
  have h : ((List.range 256).all fun n => !(stopB (UInt8.ofNat n) || UInt8.ofNat n == 40) || (!wordB (UInt8.ofNat n) && !symB (UInt8.ofNat n) && !digitB (UInt8.ofNat n) && !(UInt8.ofNat n == 39))) = true := by decide +kernel
  intro c hc
  have h1 := List.all_eq_true.1 h c.toNat (List.mem_range.2 c.toNat_lt)
  have e : UInt8.ofNat c.toNat = c := by simp
  rw [e] at h1
  have h2 : (stopB c || c == 40) = true := by rcases hc with hc | hc <;> simp [hc]
  rw [h2] at h1
  simp only [Bool.not_true, Bool.false_or, Bool.and_eq_true, Bool.not_eq_true'] at h1
  exact ⟨h1.1.1.1, h1.1.1.2, h1.1.2, h1.2⟩
/-- Nothing, a stop, or a bracket that opens. -/
def StopO : List UInt8 → Prop
  | [] => True
  | c :: _ => stopB c = true ∨ c = 40
theorem StopH.o {R : List UInt8} (h : StopH R) : StopO R := by
  cases R with
  | nil => trivial
  | cons c r => exact Or.inl h
theorem stop_open {R : List UInt8} (h : StopH R) : openB R = false := by
  cases R with
  | nil => rfl
  | cons c r =>
    have h : stopB c = true := h
    unfold openB
    show (c == 40) = false
    cases hc : c == 40 with
    | false => rfl
    | true =>
      exfalso
      have : c = 40 := by simpa using hc
      rw [this] at h
      exact absurd h (by decide)
theorem tw_self {p : UInt8 → Bool} : ∀ {r : List UInt8}, (∀ x ∈ r, p x = true) → r.takeWhile p = r
  | [], _ => rfl
  | c :: r, h => by rw [List.takeWhile_cons, if_pos (h c List.mem_cons_self), tw_self (fun x hx => h x (List.mem_cons_of_mem _ hx))]
theorem tw_mem {p : UInt8 → Bool} : ∀ {r : List UInt8}, (r.takeWhile p).length = r.length → ∀ x ∈ r, p x = true
  | [], _, x, hx => by cases hx
  | c :: r, h, x, hx => by
    rw [List.takeWhile_cons] at h
    split at h
    · rename_i hc
      rcases List.mem_cons.1 hx with rfl | hx
      · exact hc
      · exact tw_mem (by simpa using h) x hx
    · simp at h
theorem tw_all {p : UInt8 → Bool} {r R : List UInt8} (h : (r.takeWhile p).length = r.length) (hR : ∀ c l, R = c :: l → p c = false) : (r ++ R).takeWhile p = r := by
  have h2 : ∀ x ∈ r, p x = true := tw_mem h
  rw [List.takeWhile_append_of_pos h2]
  cases R with
  | nil => simp
  | cons c l => rw [List.takeWhile_cons, if_neg (by simp [hR c l rfl])]; simp
theorem sym_all : ∀ {r R : List UInt8}, symRun r = r.length → (∀ c l, R = c :: l → symB c = false) → r ≠ [] → symRun (r ++ R) = r.length
  | [], R, h, hR, hne => absurd rfl hne
  | [c], R, h, hR, hne => by
    rw [symRun] at h
    show symRun (c :: R) = 1
    rw [symRun]
    split at h
    · rename_i hc
      simp only [Bool.and_eq_true, Bool.not_eq_true', endB] at hc
      have h46 : (c == 46) = false := by simpa using hc.2
      rw [if_pos (by simp [hc.1, h46])]
      cases R with
      | nil => rfl
      | cons d l =>
        rw [symRun, if_neg (by simp [hR d l rfl])]
    · simp at h
  | c :: d :: r, R, h, hR, hne => by
    rw [symRun] at h
    show symRun (c :: (d :: r ++ R)) = _
    rw [symRun]
    split at h
    · rename_i hc
      rw [if_pos (by exact hc)]
      rw [sym_all (r := d :: r) (by simpa using h) hR (by simp)]
      rfl
    · simp at h
/-- A plain name, whatever stands behind it that it does not go on with. -/
theorem plain_stop {s : List UInt8} (h : plainB s = true) : ∃ c r, s = c :: r ∧ ∀ R, StopO R → nextU c (r ++ R) = tokB 1 s 0 s.length (s ++ R) := by
  have hz := plain_short h
  unfold plainB at h
  split at h
  · cases h
  · rename_i c r
    refine ⟨c, r, rfl, fun R hR => ?_⟩
    have hw : ∀ d l, R = d :: l → wordB d = false := fun d l e => by subst e; exact (stop_not d hR).1
    have hsy : ∀ d l, R = d :: l → symB d = false := fun d l e => by subst e; exact (stop_not d hR).2.1
    have hnm : ∀ k, k = (c :: r).length → nameB k (c :: (r ++ R)) = tokB 1 (c :: r) 0 (c :: r).length (c :: r ++ R) := fun k hk => by
      subst hk
      unfold nameB
      rw [if_pos (by simpa using hz.2), ← List.cons_append, List.take_left]
    split at h
    · rename_i t ht
      simp only [Bool.and_eq_true, beq_iff_eq] at h
      obtain ⟨hk, hl⟩ := h
      have other : ∀ (kind : Nat) (text : List UInt8) (n k : Nat) (s : List UInt8), kind ≠ 1 → tokB kind text n k s ≠ .tok t := fun kind text n k s hne he => by
        unfold tokB at he
        cases he
        exact hne hk
      have name : ∀ (k : Nat), nameB k (c :: r) = .tok t → k = (c :: r).length := fun k he => by
        have := (name_kind he).2.2.2.1
        omega
      unfold nextC at ht
      unfold nextU nextC
      by_cases h1 : blankB c = true
      · rw [if_pos h1] at ht; cases ht
      rw [if_neg h1] at ht
      by_cases h2 : (c == 37) = true
      · rw [if_pos h2] at ht; cases ht
      rw [if_neg h2] at ht
      by_cases h3 : smallB c = true
      · rw [if_pos h3] at ht
        have hk := name _ ht
        have hd : ¬ digitB c = true := fun e => by have := (digit_not c e).2.2.1; rw [h3] at this; cases this
        rw [if_neg hd, if_neg h1, if_neg h2, if_pos h3]
        rw [tw_all (by rw [List.length_cons] at hk; omega) hw]
        exact hnm _ rfl
      rw [if_neg h3] at ht
      by_cases h4 : greatB c = true
      · rw [if_pos h4] at ht; exact absurd ht (other _ _ _ _ _ (by decide))
      rw [if_neg h4] at ht
      by_cases h5 : digitB c = true
      · rw [if_pos h5] at ht
        split at ht
        · exact absurd ht (other _ _ _ _ _ (by decide))
        · cases ht
      rw [if_neg h5] at ht
      rw [if_neg h5, if_neg h1, if_neg h2, if_neg h3, if_neg h4, if_neg h5]
      by_cases h6 : (c == 39) = true
      · rw [if_pos h6] at ht
        cases hq : quoB r with
        | none => rw [hq] at ht; cases ht
        | some p =>
          rw [hq] at ht
          simp only at ht
          split at ht
          · exact absurd ht (other _ _ _ _ _ (by decide))
          · cases ht
      rw [if_neg h6] at ht
      rw [if_neg h6]
      by_cases h7 : (c == 46 && endB r) = true
      · rw [if_pos h7] at ht; exact absurd ht (other _ _ _ _ _ (by decide))
      rw [if_neg h7] at ht
      by_cases h8 : symB c = true
      · rw [if_pos h8] at ht
        have hk := name _ ht
        have h7' : ¬ (c == 46 && endB (r ++ R)) = true := by
          intro e
          cases r with
          | nil =>
            simp only [Bool.and_eq_true] at e
            exact h7 (by simp [e.1, endB])
          | cons d r => exact h7 e
        rw [if_neg h7', if_pos h8]
        have hs := sym_all (r := c :: r) hk hsy (by simp)
        rw [List.cons_append] at hs
        rw [hs]
        exact hnm _ rfl
      rw [if_neg h8] at ht
      have h7' : ¬ (c == 46 && endB (r ++ R)) = true := by
        intro e
        simp only [Bool.and_eq_true, beq_iff_eq] at e
        rw [e.1] at h8
        exact h8 (by decide)
      rw [if_neg h7', if_neg h8]
      by_cases h9 : (c == 59 || c == 33) = true
      · rw [if_pos h9] at ht
        rw [if_pos h9]
        exact hnm _ (name _ ht)
      rw [if_neg h9] at ht
      rw [if_neg h9]
      by_cases h10 : ((c == 91 && r.head? == some 93) || (c == 123 && r.head? == some 125)) = true
      · rw [if_pos h10] at ht
        have hr : (r ++ R).head? = r.head? := by
          cases r with
          | nil => simp at h10
          | cons d r => rfl
        rw [hr, if_pos h10]
        exact hnm _ (name _ ht)
      rw [if_neg h10] at ht
      by_cases h11 : [40, 41, 91, 93, 123, 125, 44, 124].contains c = true
      · rw [if_pos h11] at ht; exact absurd ht (other _ _ _ _ _ (by decide))
      rw [if_neg h11] at ht
      cases ht
    · cases h
theorem quo_stop : ∀ (name : List UInt8) (R : List UInt8), (∀ c ∈ name, mayQ c = true) → StopO R → quoB (name.flatMap escQ ++ 39 :: R) = some (name, (name.flatMap escQ).length + 1)
  | [], R, _, hR => by
    show quoB (39 :: R) = _
    cases R with
    | nil => rfl
    | cons d l =>
      have hd := (stop_not d hR).2.2.2
      rw [quoB, if_pos (show ((39 : UInt8) == 39) = true by decide), if_neg (by simp [hd])]
      rfl
  | c :: name, R, h, hR => by
    have ih := quo_stop name R (fun x hx => h x (List.mem_cons_of_mem _ hx)) hR
    rw [List.flatMap_cons, List.append_assoc]
    obtain ⟨d, r, hdr⟩ : ∃ d r, name.flatMap escQ ++ 39 :: R = d :: r := by
      cases hx : name.flatMap escQ ++ 39 :: R with
      | nil => simp at hx
      | cons d r => exact ⟨d, r, rfl⟩
    rw [hdr] at ih ⊢
    rw [quo_cons c (h c List.mem_cons_self) d r _ ih, List.length_append]
    simp only [Option.some.injEq, Prod.mk.injEq, true_and]
    omega
/-- The kind of a written name. -/
def nmK (s : List UInt8) : Nat := if plainB s then 1 else 2
def nmTok (s : List UInt8) (o : Bool) : TokB := ⟨nmK s, s, 0, (quoteB s).length, o⟩
theorem name_next {s : List UInt8} (hm : s.all mayQ = true) (hl : s.length ≤ 64) : ∃ c r, quoteB s = c :: r ∧ ∀ R, StopO R → nextU c (r ++ R) = .tok (nmTok s (openB R)) := by
  by_cases hp : plainB s = true
  · obtain ⟨c, r, e, h⟩ := plain_stop hp
    have hq : quoteB s = s := by unfold quoteB; rw [if_pos hp]
    refine ⟨c, r, by rw [hq]; exact e, fun R hR => ?_⟩
    rw [h R hR]
    unfold tokB nmTok nmK
    rw [if_pos hp, hq, List.drop_left]
  · have hq : quoteB s = 39 :: (s.flatMap escQ ++ [39]) := by
      unfold quoteB; rw [if_neg hp, if_pos (by simp only [Bool.and_eq_true, decide_eq_true_eq]; exact ⟨hl, hm⟩)]
    refine ⟨39, s.flatMap escQ ++ [39], hq, fun R hR => ?_⟩
    have hqs := quo_stop s R (List.all_eq_true.1 hm) hR
    have e : s.flatMap escQ ++ [39] ++ R = s.flatMap escQ ++ 39 :: R := by simp
    unfold nextU nextC
    rw [if_neg (by decide), if_neg (by decide), if_neg (by decide), if_neg (by decide), if_neg (by decide), if_neg (by decide), if_pos (by decide), e, hqs]
    simp only
    rw [if_pos (by simpa using hl)]
    unfold tokB nmTok nmK
    rw [if_neg hp, hq]
    have e2 : (39 :: (s.flatMap escQ ++ 39 :: R)).drop ((s.flatMap escQ).length + 1 + 1) = R := by
      rw [List.drop_succ_cons, show s.flatMap escQ ++ 39 :: R = (s.flatMap escQ ++ [39]) ++ R by simp, show (s.flatMap escQ).length + 1 = (s.flatMap escQ ++ [39]).length by simp, List.drop_left]
    rw [e2]
    simp
theorem tok_step {p : Nat} {c : UInt8} {r R : List UInt8} {t : TokB} {l : List (TokB × Nat)} (hn : nextU c (r ++ R) = .tok t) (ht : t.len = (c :: r).length) (hl : LexTo (p + (c :: r).length) R l) : LexTo p ((c :: r) ++ R) ((t, p) :: l) := by
  refine LexTo.tok (r := r ++ R) hn ?_
  rw [ht, ← List.cons_append, List.drop_left]
  exact hl
theorem pc_name {s : List UInt8} (hm : s.all mayQ = true) (hl : s.length ≤ 64) (p : Nat) : Pc p (quoteB s) [(nmTok s false, p)] := by
  obtain ⟨c, r, e, h⟩ := name_next hm hl
  intro R l hR hL
  have h1 := h R hR.o
  rw [stop_open hR] at h1
  rw [e] at hL ⊢
  exact tok_step h1 (by unfold nmTok; rw [e]) hL
def mkTok (c : UInt8) (o : Bool) : TokB := ⟨5, [c], 0, 1, o⟩
theorem mark_next (c : UInt8) (R : List UInt8) (h : [40, 41, 44, 124, 93, 125].contains c = true ∨ (c = 91 ∧ R.head? ≠ some 93) ∨ (c = 123 ∧ R.head? ≠ some 125)) : nextU c R = .tok (mkTok c (openB R)) := by
  have hc : (c = 40 ∨ c = 41 ∨ c = 44 ∨ c = 124 ∨ c = 93 ∨ c = 125) ∨ (c = 91 ∧ R.head? ≠ some 93) ∨ (c = 123 ∧ R.head? ≠ some 125) := by
    rcases h with h | h | h
    · left; simpa using h
    · right; left; exact h
    · right; right; exact h
  unfold nextU nextC
  rcases hc with (rfl | rfl | rfl | rfl | rfl | rfl) | ⟨rfl, h⟩ | ⟨rfl, h⟩
  all_goals
    rw [if_neg (by decide), if_neg (by decide), if_neg (by decide), if_neg (by decide), if_neg (by decide), if_neg (by decide), if_neg (by decide), if_neg (by simp), if_neg (by decide), if_neg (by decide), if_neg (by simp [*]), if_pos (by decide)]
    rfl
/-- A mark ahead of a piece. -/
theorem pc_mark {c : UInt8} {b : List UInt8} {t : List (TokB × Nat)} {p : Nat} (hne : b ≠ []) (hc : [40, 41, 44, 124, 93, 125].contains c = true ∨ (c = 91 ∧ b.head? ≠ some 93) ∨ (c = 123 ∧ b.head? ≠ some 125)) (hb : Pc (p + 1) b t) : Pc p (c :: b) ((mkTok c (openB b), p) :: t) := by
  intro R l hR hL
  obtain ⟨d, r, rfl⟩ : ∃ d r, b = d :: r := by
    cases b with
    | nil => exact absurd rfl hne
    | cons d r => exact ⟨d, r, rfl⟩
  have h1 := mark_next c (d :: r ++ R) hc
  refine LexTo.tok (t := mkTok c (openB (d :: r))) h1 ?_
  exact hb R l hR (by rw [List.length_cons] at hL; rw [show p + 1 + (d :: r).length = p + ((d :: r).length + 1) by omega]; exact hL)
/-- A mark behind a piece. -/
theorem pc_close {c : UInt8} {b : List UInt8} {t : List (TokB × Nat)} {p : Nat} (hc : c = 41 ∨ c = 93 ∨ c = 125) (hb : Pc p b t) : Pc p (b ++ [c]) (t ++ [(mkTok c false, p + b.length)]) := by
  intro R l hR hL
  have h1 := mark_next c R (Or.inl (by rcases hc with rfl | rfl | rfl <;> decide))
  rw [stop_open hR] at h1
  rw [List.append_assoc, List.append_assoc]
  refine hb (c :: R) _ (by rcases hc with rfl | rfl | rfl <;> (show stopB _ = true; decide)) ?_
  refine LexTo.tok (t := mkTok c false) h1 ?_
  rw [List.length_append] at hL
  exact hL
/-- Two pieces with a mark between. -/
theorem pc_comma {c : UInt8} {a b : List UInt8} {t u : List (TokB × Nat)} {p : Nat} (hc : c = 44 ∨ c = 124) (hne : b ≠ []) (ha : Pc p a t) (hb : Pc (p + a.length + 1) b u) : Pc p (a ++ c :: b) (t ++ (mkTok c (openB b), p + a.length) :: u) := by
  intro R l hR hL
  rw [List.append_assoc, List.append_assoc]
  refine ha (c :: b ++ R) _ (by rcases hc with rfl | rfl <;> (show stopB _ = true; decide)) ?_
  exact pc_mark (p := p + a.length) hne (Or.inl (by rcases hc with rfl | rfl <;> decide)) hb R l hR (by rw [List.length_append] at hL; rw [Nat.add_assoc]; exact hL)
theorem blank_step {p : Nat} {R : List UInt8} {l : List (TokB × Nat)} (h : LexTo (p + 1) R l) : LexTo p (32 :: R) l := LexTo.skip (k := 1) rfl h
/-- A name, a blank, a piece. -/
theorem pc_ahead {s b : List UInt8} {t : List (TokB × Nat)} {p : Nat} (hm : s.all mayQ = true) (hl : s.length ≤ 64) (hb : Pc (p + (quoteB s).length + 1) b t) : Pc p (quoteB s ++ 32 :: b) ((nmTok s false, p) :: t) := by
  intro R l hR hL
  rw [List.append_assoc]
  refine pc_name hm hl p (32 :: b ++ R) (t ++ l) (show stopB 32 = true by decide) ?_
  exact blank_step (hb R l hR (by rw [List.length_append, List.length_cons] at hL; rw [show p + (quoteB s).length + 1 + b.length = p + ((quoteB s).length + (b.length + 1)) by omega]; exact hL))
/-- A piece, a blank, a name, a blank, a piece. -/
theorem pc_between {a s b : List UInt8} {t u : List (TokB × Nat)} {p : Nat} (hm : s.all mayQ = true) (hl : s.length ≤ 64) (ha : Pc p a t) (hb : Pc (p + a.length + 1 + (quoteB s).length + 1) b u) : Pc p (a ++ 32 :: (quoteB s ++ 32 :: b)) (t ++ (nmTok s false, p + a.length + 1) :: u) := by
  intro R l hR hL
  rw [List.append_assoc, List.append_assoc]
  refine ha (32 :: (quoteB s ++ 32 :: b) ++ R) _ (show stopB 32 = true by decide) ?_
  refine blank_step ?_
  exact pc_ahead (p := p + a.length + 1) hm hl hb R l hR (by rw [List.length_append, List.length_cons] at hL; rw [show p + a.length + 1 + (quoteB s ++ 32 :: b).length = p + (a.length + ((quoteB s ++ 32 :: b).length + 1)) by omega]; exact hL)
/-- A name and what stands in brackets behind it. -/
theorem pc_open {s b : List UInt8} {t : List (TokB × Nat)} {p : Nat} (hm : s.all mayQ = true) (hl : s.length ≤ 64) (hne : b ≠ []) (hb : Pc (p + (quoteB s).length + 1) b t) : Pc p (quoteB s ++ 40 :: b) ((nmTok s true, p) :: (mkTok 40 (openB b), p + (quoteB s).length) :: t) := by
  intro R l hR hL
  obtain ⟨c, r, e, h⟩ := name_next hm hl
  have h1 := h (40 :: b ++ R) (Or.inr rfl)
  have h2 := pc_mark (p := p + (quoteB s).length) hne (Or.inl (by decide : [40, 41, 44, 124, 93, 125].contains (40 : UInt8) = true)) hb R l hR (by rw [List.length_append] at hL; rw [Nat.add_assoc]; exact hL)
  rw [List.append_assoc]
  rw [e] at h2 ⊢
  exact tok_step h1 (by unfold nmTok; rw [e]) h2

/-! Numbers. -/
def digF : Nat → Nat → List UInt8
  | 0, _ => []
  | f + 1, u => if u < 10 then [UInt8.ofNat (48 + u)] else digF f (u / 10) ++ [UInt8.ofNat (48 + u % 10)]
/-- A number's digits. -/
def digW (u : Nat) : List UInt8 := digF 25 u
theorem digF_eq : ∀ (f u : Nat), u < 10 ^ (f + 1) → digF (f + 1) u = Lib.decDigits u
  | 0, u, h => by
    rw [digF, Lib.decDigits, if_pos (by simpa using h), dif_pos (by simpa using h)]
  | f + 1, u, h => by
    rw [digF, Lib.decDigits]
    by_cases hu : u < 10
    · rw [if_pos hu, dif_pos hu]
    · rw [if_neg hu, dif_neg hu, digF_eq f (u / 10) (by rw [Nat.pow_succ] at h; omega)]
theorem ten_char : ∀ u : Nat, u < 10 → digitB (UInt8.ofNat (48 + u)) = true ∧ (UInt8.ofNat (48 + u)).toNat = 48 + u := by
  intro u hu
  have h : ((List.range 10).all fun u => digitB (UInt8.ofNat (48 + u)) && (UInt8.ofNat (48 + u)).toNat == 48 + u) = true := by decide +kernel
  have := List.all_eq_true.1 h u (List.mem_range.2 hu)
  simpa using this
theorem numB_snoc (l : List UInt8) (c : UInt8) : numB (l ++ [c]) = numB l * 10 + (c.toNat - 48) := by
  unfold numB
  rw [List.foldl_append]
  rfl
theorem digF_ok : ∀ (f u : Nat), u < 10 ^ (f + 1) → (digF (f + 1) u).all digitB = true ∧ digF (f + 1) u ≠ [] ∧ numB (digF (f + 1) u) = u ∧ (digF (f + 1) u).length ≤ f + 1
  | f, u, h => by
    rw [digF]
    by_cases hu : u < 10
    · obtain ⟨h1, h2⟩ := ten_char u hu
      rw [if_pos hu]
      refine ⟨by rw [List.all_cons, h1]; rfl, by simp, ?_, by simp⟩
      show 0 * 10 + ((UInt8.ofNat (48 + u)).toNat - 48) = u
      rw [h2]; omega
    · rw [if_neg hu]
      cases f with
      | zero => simp at h; omega
      | succ f =>
        have ih := digF_ok f (u / 10) (by rw [Nat.pow_succ] at h; omega)
        obtain ⟨h1, h2⟩ := ten_char (u % 10) (by omega)
        refine ⟨?_, by simp, ?_, ?_⟩
        · rw [List.all_append, ih.1, List.all_cons, h1]; rfl
        · rw [numB_snoc, ih.2.2.1, h2]; omega
        · rw [List.length_append, List.length_singleton]; omega
theorem digW_ok (u : Nat) (h : u < 10000000000000000000000000) : (digW u).all digitB = true ∧ digW u ≠ [] ∧ numB (digW u) = u ∧ (digW u).length ≤ 25 := digF_ok 24 u (by simpa using h)
theorem digit_word : ∀ c : UInt8, digitB c = true → wordB c = true := fun c h => by unfold wordB; rw [h]; simp
theorem dig_parts {u : Nat} (h : u < 10000000000000000000000000) : ∃ c r, digW u = c :: r ∧ digitB c = true ∧ r.all digitB = true := by
  obtain ⟨h1, h2, _⟩ := digW_ok u h
  cases hd : digW u with
  | nil => exact absurd hd h2
  | cons c r =>
    rw [hd] at h1
    simp only [List.all_cons, Bool.and_eq_true] at h1
    exact ⟨c, r, rfl, h1.1, h1.2⟩
def numTok (u : Nat) : TokB := ⟨4, [], u, (digW u).length, false⟩
theorem tw_all' {p : UInt8 → Bool} {r R : List UInt8} (h : r.all p = true) (hR : ∀ c l, R = c :: l → p c = false) : (r ++ R).takeWhile p = r :=
  tw_all (by rw [tw_self (List.all_eq_true.1 h)]) hR
theorem pc_num {u : Nat} (h : u < 10000000000000000000000000) (p : Nat) : Pc p (digW u) [(numTok u, p)] := by
  obtain ⟨c, r, e, hc, hr⟩ := dig_parts h
  have hn := (digW_ok u h).2.2.1
  intro R l hR hL
  rw [e] at hL hn ⊢
  have hst : ∀ d l, R = d :: l → digitB d = false := fun d l e => by subst e; exact (stop_not d (Or.inl hR)).2.2.1
  refine tok_step (t := numTok u) ?_ (by unfold numTok; rw [e]) hL
  unfold nextU
  rw [if_pos hc, tw_all' hr hst]
  unfold tokB numTok
  have e2 : (c :: (r ++ R)).take (r.length + 1) = c :: r := by rw [← List.cons_append, ← List.length_cons (a := c), List.take_left]
  have e3 : (c :: (r ++ R)).drop (r.length + 1) = R := by rw [← List.cons_append, ← List.length_cons (a := c), List.drop_left]
  rw [e2, e3, hn, stop_open hR, e]
  rfl
def minTok : TokB := ⟨1, [45], 0, 1, false⟩
theorem pc_neg {u : Nat} (h : u < 10000000000000000000000000) (p : Nat) : Pc p (45 :: digW u) [(minTok, p), (numTok u, p + 1)] := by
  intro R l hR hL
  have h1 := pc_num h (p + 1) R l hR (by rw [List.length_cons] at hL; rw [show p + 1 + (digW u).length = p + ((digW u).length + 1) by omega]; exact hL)
  obtain ⟨c, r, e, hc, hr⟩ := dig_parts h
  refine LexTo.tok (r := digW u ++ R) (t := minTok) ?_ h1
  rw [e, List.cons_append]
  have hs : symB c = false ∧ (c == 40) = false := by
    have h : ((List.range 256).all fun n => !digitB (UInt8.ofNat n) || (!symB (UInt8.ofNat n) && !(UInt8.ofNat n == 40))) = true := by decide +kernel
    have h1 := List.all_eq_true.1 h c.toNat (List.mem_range.2 c.toNat_lt)
    have e : UInt8.ofNat c.toNat = c := by simp
    rw [e, hc] at h1
    simpa using h1
  unfold nextU nextC
  rw [if_neg (by decide), if_neg (by decide), if_neg (by decide), if_neg (by decide), if_neg (by decide), if_neg (by decide), if_neg (by decide), if_neg (by simp), if_pos (by decide)]
  have hrun : symRun (45 :: c :: (r ++ R)) = 1 := by
    rw [symRun, if_pos (by rw [show symB 45 = true by decide]; simp), symRun, if_neg (by simp [hs.1])]
  rw [hrun]
  unfold nameB tokB minTok openB
  simp [hs.2]
def varTok (i : Nat) : TokB := ⟨3, 95 :: digW i, 0, (digW i).length + 1, false⟩
theorem pc_var {i : Nat} (h : i < 10000000000000000000000000) (p : Nat) : Pc p (95 :: digW i) [(varTok i, p)] := by
  have hd := (digW_ok i h).1
  intro R l hR hL
  have hst : ∀ d l, R = d :: l → wordB d = false := fun d l e => by subst e; exact (stop_not d (Or.inl hR)).1
  refine tok_step (t := varTok i) ?_ rfl hL
  have hw : (digW i).all wordB = true := List.all_eq_true.2 (fun c hc => digit_word c (List.all_eq_true.1 hd c hc))
  unfold nextU nextC
  rw [if_neg (by decide), if_neg (by decide), if_neg (by decide), if_neg (by decide), if_pos (by decide), tw_all' hw hst]
  unfold tokB varTok
  have e2 : (95 :: (digW i ++ R)).take ((digW i).length + 1) = 95 :: digW i := by rw [← List.cons_append, ← List.length_cons (a := (95 : UInt8)), List.take_left]
  have e3 : (95 :: (digW i ++ R)).drop ((digW i).length + 1) = R := by rw [← List.cons_append, ← List.length_cons (a := (95 : UInt8)), List.drop_left]
  rw [e2, e3, stop_open hR]
end Go.Proofs.YtljgkfdnmikpfaaGreatDoor
/- Writing, as chapter 9 says it, over trees: pure. Nothing here is walked. -/
namespace Go.Proofs.YtljgkfdnmikpfaaGreatDoor
open Go.RowKit
set_option linter.unusedVariables false

def zO : O × Bool := (⟨⟨#[]⟩, ⟨#[]⟩, 0⟩, false)
/-- A number in base ten. -/
def numW (n : Int) : List UInt8 := if n < 0 then 45 :: digW n.natAbs else digW n.toNat
def yfxL : List UInt8 := [121, 102, 120]
section
variable (vs : List Int)
/-- The place of a variable. -/
def idxW (n : Int) : Int := match vs.findIdx? (fun v => v == n) with
  | some i => (i : Nat)
  | none => -1
/-- What stands first. -/
def headW : Tm → List UInt8
  | .mk k n s _ => if k = 0 then 95 :: numW (idxW vs n) else if k = 1 then numW n else if k = 2 then quoteB (bl s) else []
/-- Terms, each as W says, with commas between. -/
def rowW (W : Tm → List UInt8) : List Tm → List UInt8
  | [] => []
  | [x] => W x
  | x :: r => W x ++ 44 :: rowW W r
def calledW (W : Tm → List UInt8) (x : Tm) : List UInt8 := headW vs x ++ (if x.args.isEmpty then [] else 40 :: (rowW W x.args ++ [41]))
def plainF : Nat → Tm → List UInt8
  | 0, _ => []
  | f + 1, x => calledW vs (plainF f) x
/-- A term without operators. -/
def PLAIN (x : Tm) : List UInt8 := plainF vs (sizeN x) x
variable (pre bet : List UInt8 → O × Bool)
/-- The operator by which a term is written. -/
def opW : Tm → O × Bool
  | .mk _ _ s [a] => if (pre (bl s)).2 && (plainB (bl s) && !(bl s == [45] && a.k == 1)) then pre (bl s) else zO
  | .mk _ _ s [_, _] => if bl s == [46] then zO else bet (bl s)
  | _ => zO
def levW (x : Tm) : Int := if x.k == 2 && x.args.isEmpty then max (pre (bl x.s)).1.l (bet (bl x.s)).1.l else (opW pre bet x).1.l
def placeW (B : Tm → List UInt8) (most : Int) (x : Tm) : List UInt8 := if levW pre bet x ≤ most then B x else 40 :: (B x ++ [41])
def mostW (x : Tm) (most : Int) : Int := if x.args.isEmpty && decide (0 < levW pre bet x) || (x.k == 1 && decide (x.n < 0)) then -1 else most
def besideW (B : Tm → List UInt8) (x : Tm) (most : Int) : List UInt8 := placeW pre bet B (mostW pre bet x most) x
def aheadW (B : Tm → List UInt8) (o : O) (x : Tm) : List UInt8 := quoteB (bl o.n) ++ 32 :: besideW pre bet B x (sidesB (bl o.k) o.l).2
def leftW (o : O) (x : Tm) : Int := if bl o.k == yfxL && !(bl (opW pre bet x).1.k == yfxL) then wrap64 ((sidesB (bl o.k) o.l).1 - 1) else (sidesB (bl o.k) o.l).1
def betweenW (B : Tm → List UInt8) (o : O) (x y : Tm) : List UInt8 :=
  besideW pre bet B x (leftW pre bet o x) ++ ((if bl o.n == [44] then [44] else 32 :: (quoteB (bl o.n) ++ [32])) ++ besideW pre bet B y (sidesB (bl o.k) o.l).2)
def nilW (x : Tm) : Bool := sameT x (aT [91, 93])
def tailW (B : Tm → List UInt8) (x : Tm) : List UInt8 := if nilW x then [] else 124 :: placeW pre bet B 999 x
def listW (B : Tm → List UInt8) (x : Tm) : List UInt8 := 91 :: (rowW (placeW pre bet B 999) (itemsT x).1 ++ (tailW pre bet B (itemsT x).2 ++ [93]))
/-- A term without brackets around it. -/
def bareW (B : Tm → List UInt8) (x : Tm) : List UInt8 :=
  if (opW pre bet x).2 then (match x.args with
    | [a] => aheadW pre bet B (opW pre bet x).1 a
    | [a, b] => betweenW pre bet B (opW pre bet x).1 a b
    | _ => [])
  else if x.k == 2 && (bl x.s == [46] && decide (x.args.length = 2)) then listW pre bet B x
  else if bl x.s == [123, 125] && decide (x.args.length = 1) then 123 :: ((match x.args with | [a] => placeW pre bet B 1200 a | _ => []) ++ [125])
  else calledW vs (placeW pre bet B 999) x
def bareF : Nat → Tm → List UInt8
  | 0, _ => []
  | f + 1, x => bareW vs pre bet (bareF f) x
def BARE (x : Tm) : List UInt8 := bareF vs pre bet (sizeN x) x
/-- A whole term. -/
def WRITE (x : Tm) : List UInt8 := placeW pre bet (BARE vs pre bet) 1200 x
end

theorem opW_one {pre bet : List UInt8 → O × Bool} {k n : Int} {s : ByteArray} {a : Tm} : opW pre bet (.mk k n s [a]) = if ((pre (bl s)).2 && (plainB (bl s) && !(bl s == [45] && a.k == 1))) = true then pre (bl s) else zO := rfl
theorem opW_two {pre bet : List UInt8 → O × Bool} {k n : Int} {s : ByteArray} {a c : Tm} : opW pre bet (.mk k n s [a, c]) = if (bl s == [46]) = true then zO else bet (bl s) := rfl
/-- What has no Args. -/
theorem bareW_leaf {vs : List Int} {pre bet : List UInt8 → O × Bool} {B : Tm → List UInt8} {k n : Int} {s : ByteArray} : bareW vs pre bet B (.mk k n s []) = headW vs (.mk k n s []) := by
  unfold bareW
  rw [if_neg (by show ¬ (false = true); decide), if_neg (by show ¬ ((k == 2 && (bl s == [46] && decide ((0 : Nat) = 2))) = true); simp), if_neg (by show ¬ ((bl s == [123, 125] && decide ((0 : Nat) = 1)) = true); simp)]
  unfold calledW
  simp [Tm.args]

/-! Enough is enough. -/
theorem rowW_agree {W W' : Tm → List UInt8} : ∀ {l : List Tm}, (∀ x ∈ l, W x = W' x) → rowW W l = rowW W' l
  | [], _ => rfl
  | [x], h => h x (by simp)
  | x :: y :: r, h => by
    show W x ++ 44 :: rowW W (y :: r) = W' x ++ 44 :: rowW W' (y :: r)
    rw [h x (by simp), rowW_agree (fun z hz => h z (List.mem_cons_of_mem _ hz))]
theorem placeW_agree {pre bet : List UInt8 → O × Bool} {B B' : Tm → List UInt8} {m : Int} {x : Tm} (h : B x = B' x) : placeW pre bet B m x = placeW pre bet B' m x := by
  unfold placeW; rw [h]
theorem items_size : ∀ (n : Nat) (t : Tm), sizeN t ≤ n → (∀ x ∈ (itemsT t).1, sizeN x < sizeN t) ∧ (sizeN (itemsT t).2 < sizeN t ∨ ((itemsT t).1 = [] ∧ (itemsT t).2 = t))
  | 0, t, h => by have := size_pos t; omega
  | n + 1, t, h => by
    cases hp : pairT t with
    | none => rw [items_none hp]; exact ⟨fun x hx => (by cases hx), Or.inr ⟨rfl, rfl⟩⟩
    | some q =>
      obtain ⟨a, b⟩ := q
      obtain ⟨h1, h2, h3, h4⟩ := pair_size hp
      have ih := items_size n b (by omega)
      rw [items_some hp]
      have ha : sizeN a < sizeN t := by
        cases t with
        | mk k n s ts =>
          cases (show ts = [a, b] from h2)
          rw [sizeN, sizesN, sizesN, sizesN]
          have := size_pos b
          omega
      refine ⟨fun x hx => ?_, Or.inl ?_⟩
      · rcases List.mem_cons.1 hx with rfl | hx
        · exact ha
        · have := ih.1 x hx; omega
      · rcases ih.2 with h | ⟨_, h⟩
        · show sizeN (itemsT b).2 < _; omega
        · show sizeN (itemsT b).2 < _; rw [h]; exact h1
theorem arg_size {x y : Tm} (h : y ∈ x.args) : sizeN y < sizeN x := by
  cases x with
  | mk k n s ts =>
    have := sizes_mem (show y ∈ ts from h)
    rw [sizeN]; omega
theorem calledW_agree {vs : List Int} {W W' : Tm → List UInt8} {x : Tm} (h : ∀ y, sizeN y < sizeN x → W y = W' y) : calledW vs W x = calledW vs W' x := by
  unfold calledW
  rw [rowW_agree (fun y hy => h y (arg_size hy))]
theorem bareW_agree {vs : List Int} {pre bet : List UInt8 → O × Bool} {B B' : Tm → List UInt8} {x : Tm} (h : ∀ y, sizeN y < sizeN x → B y = B' y) : bareW vs pre bet B x = bareW vs pre bet B' x := by
  unfold bareW
  split
  · split
    · rename_i a he
      unfold aheadW besideW
      rw [placeW_agree (h a (arg_size (by rw [he]; simp)))]
    · rename_i a b he
      unfold betweenW besideW
      rw [placeW_agree (h a (arg_size (by rw [he]; simp))), placeW_agree (h b (arg_size (by rw [he]; simp)))]
    · rfl
  · split
    · unfold listW tailW
      rename_i hl
      have hi := items_size (sizeN x) x (Nat.le_refl _)
      rw [rowW_agree (fun y hy => placeW_agree (h y (hi.1 y hy)))]
      rcases hi.2 with ht | ⟨h1, h2⟩
      · rw [placeW_agree (h _ ht)]
      · exfalso
        cases x with
        | mk k n s ts =>
          simp only [Bool.and_eq_true, beq_iff_eq, decide_eq_true_eq] at hl
          obtain ⟨hk, hs, hl⟩ := hl
          have hk2 : k = 2 := hk
          have hs2 : s.data.toList = [46] := hs
          have hl2 : ts.length = 2 := hl
          clear hk hs hl
          match ts, hl2 with
          | [a, b], _ =>
            have hp : pairT (.mk k n s [a, b]) = some (a, b) := by
              show (if (k == 2 && s.data.toList == [46]) = true then some (a, b) else none) = _
              rw [hk2, hs2]
              rfl
            rw [items_some hp] at h1
            cases h1
    · split
      · split
        · rename_i a he
          rw [placeW_agree (h a (arg_size (by rw [he]; simp)))]
        · rfl
      · exact calledW_agree (fun y hy => placeW_agree (h y hy))
theorem bareF_fuel {vs : List Int} {pre bet : List UInt8 → O × Bool} : ∀ (f f' : Nat) (x : Tm), sizeN x ≤ f → sizeN x ≤ f' → bareF vs pre bet f x = bareF vs pre bet f' x
  | 0, f', x, h, _ => by have := size_pos x; omega
  | f + 1, 0, x, _, h => by have := size_pos x; omega
  | f + 1, f' + 1, x, h, h' => by
    rw [bareF, bareF]
    exact bareW_agree (fun y hy => bareF_fuel f f' y (by omega) (by omega))
theorem BARE_eq {vs : List Int} {pre bet : List UInt8 → O × Bool} (x : Tm) : BARE vs pre bet x = bareW vs pre bet (BARE vs pre bet) x := by
  unfold BARE
  obtain ⟨n, hn⟩ : ∃ n, sizeN x = n + 1 := ⟨sizeN x - 1, by have := size_pos x; omega⟩
  rw [hn, bareF]
  exact bareW_agree (fun y hy => bareF_fuel n _ y (by omega) (Nat.le_refl _))
theorem plainF_fuel {vs : List Int} : ∀ (f f' : Nat) (x : Tm), sizeN x ≤ f → sizeN x ≤ f' → plainF vs f x = plainF vs f' x
  | 0, f', x, h, _ => by have := size_pos x; omega
  | f + 1, 0, x, _, h => by have := size_pos x; omega
  | f + 1, f' + 1, x, h, h' => by
    rw [plainF, plainF]
    exact calledW_agree (fun y hy => plainF_fuel f f' y (by omega) (by omega))
theorem PLAIN_eq {vs : List Int} (x : Tm) : PLAIN vs x = calledW vs (PLAIN vs) x := by
  unfold PLAIN
  obtain ⟨n, hn⟩ : ∃ n, sizeN x = n + 1 := ⟨sizeN x - 1, by have := size_pos x; omega⟩
  rw [hn, plainF]
  exact calledW_agree (fun y hy => plainF_fuel n _ y (by omega) (Nat.le_refl _))
end Go.Proofs.YtljgkfdnmikpfaaGreatDoor
/-
  DERIVED: THE SHELF's CONTRACTS AT THIS DUMP, IN PLAIN WORDS (tools/lay-plain.mjs out of 'TryzLayXt.lean', which tools/lay-shelf.mjs wrote): THE SAME DECLARATIONS UNDER THE SAME NAMES: 'import', 'namespace', 'open', 'def', 'theorem' AND NOTHING ELSE: no command of the shelf's: FOR A HAND-IN. Each laying: the table of numbers ('.._ren') and one theorem, a field a fact of the dump's own or the kernel's comparison; each contract: ONE APPLICATION.
-/
namespace Go.Proofs
open Go.Shelf
def Tryz.indexOp_ren : Go.Shelf.Ren := ⟨fun | 6 => 130 | n => n, fun | 22 => 34 | 23 => 33 | 25 => 148 | 3 => 3 | 0 => 0 | 4 => 4 | n => n, fun | n => n⟩
theorem Tryz.indexOp : Go.Proofs.SlLaysH0.n6 Tryz.prog Tryz.indexOp_ren := {
  mixed := by kernel_rfl
  f6 := ⟨Tryz.f130.name, by decide, Tryz.func130.trans (congrArg some (by kernel_rfl))⟩
  t0 := Tryz.underlying0
  a0 := Tryz.isAgg0
  z0 := Tryz.sizeOf0
  v0 := Tryz.zeroValue0
  t3 := Tryz.underlying3
  a3 := Tryz.isAgg3
  z3 := Tryz.sizeOf3
  v3 := Tryz.zeroValue3
  t4 := Tryz.underlying4
  a4 := Tryz.isAgg4
  z4 := Tryz.sizeOf4
  v4 := Tryz.zeroValue4
  t22 := Tryz.underlying34
  a22 := Tryz.isAgg34
  z22 := Tryz.sizeOf34
  v22 := Tryz.zeroValue34
  t25 := Tryz.underlying148
  a25 := Tryz.isAgg148
  z25 := Tryz.sizeOf148
  v25 := Tryz.zeroValue148 }
def Tryz.indexNm_ren : Go.Shelf.Ren := ⟨fun | 6 => 175 | n => n, fun | 22 => 28 | 23 => 54 | 25 => 203 | 3 => 3 | 0 => 0 | 4 => 4 | n => n, fun | n => n⟩
theorem Tryz.indexNm : Go.Proofs.SlLaysH0.n6 Tryz.prog Tryz.indexNm_ren := {
  mixed := by kernel_rfl
  f6 := ⟨Tryz.f175.name, by decide, Tryz.func175.trans (congrArg some (by kernel_rfl))⟩
  t0 := Tryz.underlying0
  a0 := Tryz.isAgg0
  z0 := Tryz.sizeOf0
  v0 := Tryz.zeroValue0
  t3 := Tryz.underlying3
  a3 := Tryz.isAgg3
  z3 := Tryz.sizeOf3
  v3 := Tryz.zeroValue3
  t4 := Tryz.underlying4
  a4 := Tryz.isAgg4
  z4 := Tryz.sizeOf4
  v4 := Tryz.zeroValue4
  t22 := Tryz.underlying28
  a22 := Tryz.isAgg28
  z22 := Tryz.sizeOf28
  v22 := Tryz.zeroValue28
  t25 := Tryz.underlying203
  a25 := Tryz.isAgg203
  z25 := Tryz.sizeOf203
  v25 := Tryz.zeroValue203 }
def Tryz.growOp_ren : Go.Shelf.Ren := ⟨fun | 4 => 74 | n => n, fun | 22 => 34 | 25 => 33 | 3 => 3 | 4 => 4 | 9 => 9 | 20 => 20 | 0 => 0 | n => n, fun | n => n⟩
theorem Tryz.growOp : Go.Proofs.Lays8.n4 Tryz.prog Tryz.growOp_ren := {
  mixed := by kernel_rfl
  f4 := ⟨Tryz.f74.name, by decide, Tryz.func74.trans (congrArg some (by kernel_rfl))⟩
  t0 := Tryz.underlying0
  a0 := Tryz.isAgg0
  z0 := Tryz.sizeOf0
  v0 := Tryz.zeroValue0
  t3 := Tryz.underlying3
  a3 := Tryz.isAgg3
  z3 := Tryz.sizeOf3
  v3 := Tryz.zeroValue3
  t4 := Tryz.underlying4
  a4 := Tryz.isAgg4
  z4 := Tryz.sizeOf4
  v4 := Tryz.zeroValue4
  t9 := Tryz.underlying9
  a9 := Tryz.isAgg9
  z9 := Tryz.sizeOf9
  v9 := Tryz.zeroValue9
  t20 := Tryz.underlying20
  a20 := Tryz.isAgg20
  z20 := Tryz.sizeOf20
  v20 := Tryz.zeroValue20
  t22 := Tryz.underlying34
  a22 := Tryz.isAgg34
  z22 := Tryz.sizeOf34
  v22 := Tryz.zeroValue34 }
end Go.Proofs
/- Operators: where the one of a name and side is. -/
namespace Go.Proofs.YtljgkfdnmikpfaaGreatDoor
open Go.Shelf Go.RowKit

def isAt (n : List UInt8) (s : Int) (y : O) : Bool := (bl y.n == n) && (sideB (bl y.k) == s)
/-- The first place of that name and side, or -1. -/
def placeB (xs : List O) (n : List UInt8) (s : Int) : Int := Lib.idxBy (fun _ y => isAt n s y) xs default
def Ops (w : World) (v : Value) (xs : List O) : Prop := Elems 3 oCells w v xs
theorem Ops.ext {w w' : World} {v : Value} {xs : List O} (h : Ops w v xs) (hb : Below w.heap.size w w') : Ops w' v xs := Elems.ext h hb

theorem pred_walk (n : ByteArray) (s : Int) (b1 b2 : Nat) (hne : b1 ≠ b2) (w : World) (h1 : w.cell? ⟨b1, 0, none⟩ = some (.string n)) (h2 : w.cell? ⟨b2, 0, none⟩ = some (.int .i64 s)) (l1 : b1 < w.heap.size) (l2 : b2 < w.heap.size) (y : O) :
    Calls Tryz.prog 131 #[.agg #[.string y.n, .string y.k, .int .i64 y.l], .pointer (some ⟨b1, 0, none⟩), .pointer (some ⟨b2, 0, none⟩)] w fun e w' => e = .returned (.bool (isAt (bl n) s y)) ∧ Below w.heap.size w w' := by
  rcases y with ⟨yn, yk, yl⟩
  have hS := side_walk yk
  show Calls _ _ _ _ fun e w' => e = .returned (.bool ((bl yn == bl n) && (sideB (bl yk) == s))) ∧ _
  obtain ⟨z, hz⟩ : ∃ z, sideB (bl yk) = z := ⟨_, rfl⟩
  rw [hz]; rw [hz] at hS; clear hz
  have HS := Lib.hid hS; clear hS
  have n1 : b1 ≠ w.heap.size := by omega
  have n2 : b2 ≠ w.heap.size := by omega
  rw [show (bl yn == bl n) = (yn.toList == n.toList) by rw [Lib.toList_data, Lib.toList_data]]
  cases h3 : (yn.toList == n.toList)
  · go_enter Tryz.func131, Tryz.ntmps131
    go_wp2_with fail
    go_quiet (fail)
    go_wp2
    go_ret
    exact ⟨rfl, bel_drewN (bel1' _ _) _⟩
  · cases h4 : (z == s)
    · go_enter Tryz.func131, Tryz.ntmps131
      go_wp2_with fail
      go_quiet ((go_at_call 88; exact Calls.quiet_of_same ((HS.out _).mono fun _ _ ⟨a, b⟩ => ⟨a, b.symm⟩)))
      go_wp2
      go_ret
      exact ⟨rfl, bel_drewN (bel1' _ _) _⟩
    · go_enter Tryz.func131, Tryz.ntmps131
      go_wp2_with fail
      go_quiet ((go_at_call 88; exact Calls.quiet_of_same ((HS.out _).mono fun _ _ ⟨a, b⟩ => ⟨a, b.symm⟩)))
      go_wp2
      go_ret
      exact ⟨rfl, bel_drewN (bel1' _ _) _⟩

theorem index_none (a : Option Addr) (c : Nat) (f : Value) (w : World) : Calls Tryz.prog 130 #[.slice a 0 c, f] w fun e w' => e = .returned (.int .i64 (-1)) ∧ w = w' := by
  go_enter Tryz.func130, Tryz.ntmps130
  go_wp2_with fail
  refine wp_loop_rounds 1 ?_
  rw [rounds_succ]
  go_wp2
  go_ret
  exact ⟨rfl, rfl⟩
end Go.Proofs.YtljgkfdnmikpfaaGreatDoor
