import Derived.Test.YtllpdciehoenaaaGreatDoorGad
set_option linter.unusedVariables false
set_option linter.unusedSimpArgs false
/- Letter by letter: a whole text, its tokens or where it is refused; what is passed over ahead of a token. Nothing here is walked. -/
namespace Go.Proofs.YtllpdciehoenaaaGreatDoor

inductive CutR where
  | ok (l : List (TokB × Nat))
  | bad (pl : Nat) (over : Bool)

def cutW : Nat → List (TokB × Nat) → Nat → List UInt8 → CutR
  | _, acc, _, [] => .ok acc
  | 0, _, p, _ :: _ => .bad p true
  | n + 1, acc, p, c :: r =>
    match nextC c r with
    | .skip k => cutW n acc (p + k) ((c :: r).drop k)
    | .tok t => if acc.length = 1024 then .bad p true else cutW n (acc ++ [(t, p)]) (p + t.len) ((c :: r).drop t.len)
    | .bad o => .bad p o
def cutF (acc : List (TokB × Nat)) (p : Nat) (s : List UInt8) : CutR := cutW s.length acc p s
def cutB (s : List UInt8) : CutR := if 4096 < s.length then .bad 4096 true else cutF [] 0 s

def passL : Nat → List UInt8 → Nat
  | _, [] => 0
  | 0, _ :: _ => 0
  | n + 1, c :: r => match nextC c r with
    | .skip k => k + passL n ((c :: r).drop k)
    | _ => 0
def passF (s : List UInt8) : Nat := passL s.length s

theorem sym_pos {c : UInt8} {r : List UInt8} (h : symB c = true) (he : ¬ (c == 46 && endB r) = true) : 1 ≤ symRun (c :: r) := by
  rw [symRun, h]
  simp only [Bool.not_eq_true] at he
  rw [he]
  simp
theorem name_pos {k : Nat} {s : List UInt8} (hk : 1 ≤ k) : (∃ t, nameB k s = .tok t ∧ 1 ≤ t.len) ∨ nameB k s = .bad true := by
  unfold nameB
  split
  · exact Or.inl ⟨_, rfl, hk⟩
  · exact Or.inr rfl
/-- What stands next takes at least one byte. -/
theorem next_pos (c : UInt8) (r : List UInt8) : (∃ k, nextC c r = .skip k ∧ 1 ≤ k) ∨ (∃ t, nextC c r = .tok t ∧ 1 ≤ t.len) ∨ ∃ o, nextC c r = .bad o := by
  have nm : ∀ (k : Nat), 1 ≤ k → (∃ j, nameB k (c :: r) = .skip j ∧ 1 ≤ j) ∨ (∃ t, nameB k (c :: r) = .tok t ∧ 1 ≤ t.len) ∨ ∃ o, nameB k (c :: r) = .bad o := fun k hk => by
    rcases name_pos (s := c :: r) hk with h | h
    · exact Or.inr (Or.inl h)
    · exact Or.inr (Or.inr ⟨_, h⟩)
  unfold nextC
  by_cases h1 : blankB c = true
  · rw [if_pos h1]; exact Or.inl ⟨_, rfl, Nat.le_refl _⟩
  rw [if_neg h1]
  by_cases h2 : (c == 37) = true
  · rw [if_pos h2]; exact Or.inl ⟨_, rfl, Nat.le_add_left _ _⟩
  rw [if_neg h2]
  by_cases h3 : smallB c = true
  · rw [if_pos h3]; exact nm _ (Nat.le_add_left _ _)
  rw [if_neg h3]
  by_cases h4 : greatB c = true
  · rw [if_pos h4]; exact Or.inr (Or.inl ⟨_, rfl, Nat.le_add_left _ _⟩)
  rw [if_neg h4]
  by_cases h5 : digitB c = true
  · rw [if_pos h5]
    split
    · exact Or.inr (Or.inl ⟨_, rfl, Nat.le_add_left _ _⟩)
    · exact Or.inr (Or.inr ⟨_, rfl⟩)
  rw [if_neg h5]
  by_cases h6 : (c == 39) = true
  · rw [if_pos h6]
    cases hq : quoB r with
    | none => exact Or.inr (Or.inr ⟨_, rfl⟩)
    | some p =>
      simp only
      split
      · exact Or.inr (Or.inl ⟨_, rfl, Nat.le_add_left _ _⟩)
      · exact Or.inr (Or.inr ⟨_, rfl⟩)
  rw [if_neg h6]
  by_cases h7 : (c == 46 && endB r) = true
  · rw [if_pos h7]; exact Or.inr (Or.inl ⟨_, rfl, Nat.le_refl _⟩)
  rw [if_neg h7]
  by_cases h8 : symB c = true
  · rw [if_pos h8]; exact nm _ (sym_pos h8 h7)
  rw [if_neg h8]
  by_cases h9 : (c == 59 || c == 33) = true
  · rw [if_pos h9]; exact nm _ (Nat.le_refl _)
  rw [if_neg h9]
  by_cases h10 : ((c == 91 && r.head? == some 93) || (c == 123 && r.head? == some 125)) = true
  · rw [if_pos h10]; exact nm _ (by omega)
  rw [if_neg h10]
  by_cases h11 : [40, 41, 91, 93, 123, 125, 44, 124].contains c = true
  · rw [if_pos h11]; exact Or.inr (Or.inl ⟨_, rfl, Nat.le_refl _⟩)
  rw [if_neg h11]
  exact Or.inr (Or.inr ⟨_, rfl⟩)
theorem drop_lt {c : UInt8} {r : List UInt8} {k n : Nat} (hk : 1 ≤ k) (hn : (c :: r).length ≤ n + 1) : ((c :: r).drop k).length ≤ n := by
  rw [List.length_drop]; omega
theorem cut_fuel : ∀ (n m : Nat) (acc : List (TokB × Nat)) (p : Nat) (s : List UInt8), s.length ≤ n → s.length ≤ m → cutW n acc p s = cutW m acc p s
  | n, m, acc, p, [], _, _ => by cases n <;> cases m <;> rfl
  | 0, m, acc, p, c :: r, hn, _ => by simp at hn
  | n + 1, 0, acc, p, c :: r, _, hm => by simp at hm
  | n + 1, m + 1, acc, p, c :: r, hn, hm => by
    rw [cutW, cutW]
    rcases next_pos c r with ⟨k, h, hk⟩ | ⟨t, h, hk⟩ | ⟨o, h⟩
    · rw [h]; exact cut_fuel n m _ _ _ (drop_lt hk hn) (drop_lt hk hm)
    · rw [h]; simp only; rw [cut_fuel n m _ _ _ (drop_lt hk hn) (drop_lt hk hm)]
    · rw [h]
theorem pass_fuel : ∀ (n m : Nat) (s : List UInt8), s.length ≤ n → s.length ≤ m → passL n s = passL m s
  | n, m, [], _, _ => by cases n <;> cases m <;> rfl
  | 0, m, c :: r, hn, _ => by simp at hn
  | n + 1, 0, c :: r, _, hm => by simp at hm
  | n + 1, m + 1, c :: r, hn, hm => by
    rw [passL, passL]
    rcases next_pos c r with ⟨k, h, hk⟩ | ⟨t, h, hk⟩ | ⟨o, h⟩
    · rw [h]; simp only; rw [pass_fuel n m _ (drop_lt hk hn) (drop_lt hk hm)]
    · rw [h]
    · rw [h]
theorem cutF_nil (acc : List (TokB × Nat)) (p : Nat) : cutF acc p [] = .ok acc := rfl
theorem cutF_skip {acc : List (TokB × Nat)} {p k : Nat} {c : UInt8} {r : List UInt8} (h : nextC c r = .skip k) (hk : 1 ≤ k) : cutF acc p (c :: r) = cutF acc (p + k) ((c :: r).drop k) := by
  unfold cutF
  rw [List.length_cons, cutW, h]
  exact cut_fuel _ _ _ _ _ (drop_lt hk (Nat.le_refl _)) (Nat.le_refl _)
theorem cutF_tok {acc : List (TokB × Nat)} {p : Nat} {c : UInt8} {r : List UInt8} {t : TokB} (h : nextC c r = .tok t) (hk : 1 ≤ t.len) (ha : acc.length ≠ 1024) : cutF acc p (c :: r) = cutF (acc ++ [(t, p)]) (p + t.len) ((c :: r).drop t.len) := by
  unfold cutF
  rw [List.length_cons, cutW, h]
  simp only
  rw [if_neg ha]
  exact cut_fuel _ _ _ _ _ (drop_lt hk (Nat.le_refl _)) (Nat.le_refl _)
theorem cutF_full {acc : List (TokB × Nat)} {p : Nat} {c : UInt8} {r : List UInt8} {t : TokB} (h : nextC c r = .tok t) (ha : acc.length = 1024) : cutF acc p (c :: r) = .bad p true := by
  unfold cutF
  rw [List.length_cons, cutW, h]
  simp only
  rw [if_pos ha]
theorem cutF_bad {acc : List (TokB × Nat)} {p : Nat} {c : UInt8} {r : List UInt8} {o : Bool} (h : nextC c r = .bad o) : cutF acc p (c :: r) = .bad p o := by
  unfold cutF
  rw [List.length_cons, cutW, h]
theorem passF_nil : passF [] = 0 := rfl
theorem passF_skip {k : Nat} {c : UInt8} {r : List UInt8} (h : nextC c r = .skip k) (hk : 1 ≤ k) : passF (c :: r) = k + passF ((c :: r).drop k) := by
  unfold passF
  rw [List.length_cons, passL, h]
  simp only
  rw [pass_fuel _ _ _ (drop_lt hk (Nat.le_refl _)) (Nat.le_refl _)]
theorem passF_stop {c : UInt8} {r : List UInt8} (h : ∀ k, nextC c r ≠ .skip k) : passF (c :: r) = 0 := by
  unfold passF
  rw [List.length_cons, passL]
  split
  · rename_i k hk; exact absurd hk (h k)
  · rfl
/-- What is passed over, no text is behind or a token: and nothing of the answer changes. -/
theorem pass_cut : ∀ (n : Nat) (s : List UInt8), s.length ≤ n → passF s ≤ s.length ∧ (∀ acc p, cutF acc p s = cutF acc (p + passF s) (s.drop (passF s))) ∧ ∀ c r, s.drop (passF s) = c :: r → ∀ k, nextC c r ≠ .skip k
  | _, [], _ => ⟨Nat.le_refl _, fun _ _ => rfl, fun c r h => by simp at h⟩
  | 0, c :: r, h => by simp at h
  | n + 1, c :: r, hn => by
    have hlen := next_len c r
    rcases next_pos c r with ⟨k, h, hk⟩ | ⟨t, h, hk⟩ | ⟨o, h⟩
    · rw [h] at hlen
      have hk2 : k ≤ (c :: r).length := hlen
      obtain ⟨i1, i2, i3⟩ := pass_cut n ((c :: r).drop k) (drop_lt hk hn)
      rw [passF_skip h hk]
      refine ⟨?_, fun acc p => ?_, fun c' r' h' => ?_⟩
      · rw [List.length_drop] at i1; omega
      · rw [cutF_skip h hk, i2, List.drop_drop, Nat.add_assoc]
      · rw [← List.drop_drop] at h'; exact i3 c' r' h'
    · have e : passF (c :: r) = 0 := passF_stop (fun k' => by rw [h]; intro e; cases e)
      rw [e]
      refine ⟨Nat.zero_le _, fun _ _ => rfl, fun c' r' h' => ?_⟩
      rw [List.drop_zero] at h'; cases h'
      rw [h]; intro k e; cases e
    · have e : passF (c :: r) = 0 := passF_stop (fun k' => by rw [h]; intro e; cases e)
      rw [e]
      refine ⟨Nat.zero_le _, fun _ _ => rfl, fun c' r' h' => ?_⟩
      rw [List.drop_zero] at h'; cases h'
      rw [h]; intro k e; cases e
/-- All is well just where there are tokens, and not too many. -/
theorem cut_lex : ∀ (n : Nat) (acc : List (TokB × Nat)) (p : Nat) (s : List UInt8) (l : List (TokB × Nat)), acc.length ≤ 1024 →
    (cutW n acc p s = .ok l ↔ ∃ x, lexL n p s = some x ∧ l = acc ++ x ∧ acc.length + x.length ≤ 1024)
  | n, acc, p, [], l, ha => by
    rw [lex_nil]
    have e : cutW n acc p [] = .ok acc := by cases n <;> rfl
    rw [e]
    constructor
    · intro h; cases h; exact ⟨[], rfl, by simp, by simpa using ha⟩
    · rintro ⟨x, hx, rfl, _⟩; cases hx; simp
  | 0, acc, p, c :: r, l, ha => by
    constructor
    · intro h; cases h
    · rintro ⟨x, hx, _⟩; cases hx
  | n + 1, acc, p, c :: r, l, ha => by
    rw [cutW, lexL]
    cases h : nextC c r with
    | skip k => exact cut_lex n acc _ _ l ha
    | bad o => simp
    | tok t =>
      simp only
      by_cases hf : acc.length = 1024
      · rw [if_pos hf]
        constructor
        · intro h; cases h
        · rintro ⟨x, hx, rfl, hl⟩
          obtain ⟨y, _, rfl⟩ := Option.map_eq_some_iff.1 hx
          simp at hl
          omega
      · rw [if_neg hf, cut_lex n (acc ++ [(t, p)]) _ _ l (by simp; omega)]
        constructor
        · rintro ⟨x, hx, rfl, hl⟩
          exact ⟨(t, p) :: x, by rw [hx]; rfl, by simp, by simp at hl ⊢; omega⟩
        · rintro ⟨x, hx, rfl, hl⟩
          obtain ⟨y, hy, rfl⟩ := Option.map_eq_some_iff.1 hx
          exact ⟨y, hy, by simp, by simp at hl ⊢; omega⟩
theorem cutB_ok {s : List UInt8} {l : List (TokB × Nat)} : cutB s = .ok l ↔ s.length ≤ 4096 ∧ lexL s.length 0 s = some l ∧ l.length ≤ 1024 := by
  unfold cutB
  by_cases h : 4096 < s.length
  · rw [if_pos h]
    constructor
    · intro h; cases h
    · rintro ⟨h1, _⟩; omega
  · rw [if_neg h]
    unfold cutF
    rw [cut_lex _ _ _ _ _ (Nat.zero_le _)]
    constructor
    · rintro ⟨x, hx, rfl, hl⟩
      exact ⟨by omega, by simpa using hx, by simpa using hl⟩
    · rintro ⟨_, hx, hl⟩
      exact ⟨l, hx, by simp, by simpa using hl⟩
end Go.Proofs.YtllpdciehoenaaaGreatDoor
