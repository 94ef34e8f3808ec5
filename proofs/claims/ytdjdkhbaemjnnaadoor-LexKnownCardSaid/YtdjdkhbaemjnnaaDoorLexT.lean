/- Letter by letter: a plain name by what Cut tells; what a quoted name is by what Cut tells. Nothing here is walked. -/
import Derived.Test.YtdjdkhbaemjnnaaDoorLexS
namespace Go.Proofs.YtdjdkhbaemjnnaaDoor

theorem next_short (c : UInt8) (r : List UInt8) (t : TokB) (h : nextC c r = .tok t) (hk : t.kind = 1) : t.len ≤ 64 := by
  unfold nextC at h
  have other : ∀ (kind : Nat) (text : List UInt8) (n k : Nat) (s : List UInt8), kind ≠ 1 → tokB kind text n k s = .tok t → t.len ≤ 64 := fun kind text n k s hne he => by
    unfold tokB at he
    cases he
    exact absurd hk hne
  have name : ∀ (k : Nat) (s : List UInt8), nameB k s = .tok t → t.len ≤ 64 := fun k s he => by
    have := name_kind he
    omega
  by_cases h1 : blankB c = true
  · rw [if_pos h1] at h; cases h
  rw [if_neg h1] at h
  by_cases h2 : (c == 37) = true
  · rw [if_pos h2] at h; cases h
  rw [if_neg h2] at h
  by_cases h3 : smallB c = true
  · rw [if_pos h3] at h; exact name _ _ h
  rw [if_neg h3] at h
  by_cases h4 : greatB c = true
  · rw [if_pos h4] at h; exact other _ _ _ _ _ (by decide) h
  rw [if_neg h4] at h
  by_cases h5 : digitB c = true
  · rw [if_pos h5] at h
    split at h
    · exact other _ _ _ _ _ (by decide) h
    · cases h
  rw [if_neg h5] at h
  by_cases h6 : (c == 39) = true
  · rw [if_pos h6] at h
    cases hq : quoB r with
    | none => rw [hq] at h; cases h
    | some p =>
      rw [hq] at h
      simp only at h
      split at h
      · exact other _ _ _ _ _ (by decide) h
      · cases h
  rw [if_neg h6] at h
  by_cases h7 : (c == 46 && endB r) = true
  · rw [if_pos h7] at h; exact other _ _ _ _ _ (by decide) h
  rw [if_neg h7] at h
  by_cases h8 : symB c = true
  · rw [if_pos h8] at h; exact name _ _ h
  rw [if_neg h8] at h
  by_cases h9 : (c == 59 || c == 33) = true
  · rw [if_pos h9] at h; exact name _ _ h
  rw [if_neg h9] at h
  by_cases h10 : ((c == 91 && r.head? == some 93) || (c == 123 && r.head? == some 125)) = true
  · rw [if_pos h10] at h; exact name _ _ h
  rw [if_neg h10] at h
  by_cases h11 : [40, 41, 91, 93, 123, 125, 44, 124].contains c = true
  · rw [if_pos h11] at h; exact other _ _ _ _ _ (by decide) h
  rw [if_neg h11] at h
  cases h
/-- The first token: so many bytes are passed over, then it stands. -/
theorem lex_first : ∀ (n p : Nat) (s : List UInt8) (t : TokB) (q : Nat) (x : List (TokB × Nat)), lexL n p s = some ((t, q) :: x) → ∃ k c r, q = p + k ∧ s.drop k = c :: r ∧ nextC c r = .tok t
  | n, p, [], t, q, x, h => by rw [lex_nil] at h; cases h
  | 0, p, c :: r, t, q, x, h => by cases h
  | n + 1, p, c :: r, t, q, x, h => by
    rw [lexL] at h
    cases hn : nextC c r with
    | skip k =>
      rw [hn] at h
      obtain ⟨j, c', r', rfl, hd, ht⟩ := lex_first n (p + k) _ t q x h
      exact ⟨k + j, c', r', by omega, by rw [← hd, List.drop_drop], ht⟩
    | tok u =>
      rw [hn] at h
      obtain ⟨l, hl, he⟩ := Option.map_eq_some_iff.1 h
      cases he
      exact ⟨0, c, r, by omega, rfl, hn⟩
    | bad o => rw [hn] at h; cases h
theorem plain_short {s : List UInt8} (h : plainB s = true) : 1 ≤ s.length ∧ s.length ≤ 64 := by
  unfold plainB at h
  split at h
  · cases h
  · rename_i c r
    split at h
    · rename_i t ht
      simp only [Bool.and_eq_true, beq_iff_eq] at h
      have := next_short c r t ht h.1
      rw [h.2] at this
      exact ⟨by simp, this⟩
    · cases h
theorem plain_yes {s : List UInt8} (h : plainB s = true) : ∃ t, cutB s = .ok [(t, 0)] ∧ t.kind = 1 ∧ t.text = s := by
  have hl := plain_short h
  obtain ⟨t, h1, h2, h3⟩ := plain_lex h (s.length - 1) 0
  rw [show s.length - 1 + 1 = s.length by omega] at h1
  exact ⟨t, cutB_ok.2 ⟨by omega, h1, by simp⟩, h2, h3⟩
theorem plain_no {s : List UInt8} {t : TokB} {p : Nat} (h : cutB s = .ok [(t, p)]) (hk : t.kind = 1) (ht : t.text = s) : plainB s = true := by
  obtain ⟨_, h1, _⟩ := cutB_ok.1 h
  obtain ⟨k, c, r, _, hd, hn⟩ := lex_first _ _ _ _ _ _ h1
  have e := next_kind c r t hn hk
  have hl := next_len c r
  rw [hn] at hl
  have hl' : t.len ≤ (c :: r).length := hl
  have h2 := congrArg List.length hd
  rw [List.length_drop] at h2
  have h3 := congrArg List.length e
  rw [ht, List.length_take] at h3
  have hp : 1 ≤ (c :: r).length := by simp
  have hk0 : k = 0 := by omega
  subst hk0
  rw [List.drop_zero] at hd
  subst hd
  unfold plainB
  simp only [hn, hk, beq_self_eq_true, Bool.true_and, beq_iff_eq]
  omega
theorem quote_size (s : List UInt8) : (quoteB s).length ≤ 130 := by
  unfold quoteB
  split
  · rename_i h
    have := plain_short h
    omega
  split
  · rename_i h
    simp only [Bool.and_eq_true, decide_eq_true_eq] at h
    have : ∀ l : List UInt8, (l.flatMap escQ).length ≤ 2 * l.length := fun l => by
      induction l with
      | nil => simp
      | cons c r ih =>
        rw [List.flatMap_cons, List.length_append, List.length_cons]
        have : (escQ c).length ≤ 2 := by
          unfold escQ
          split
          · simp
          split
          · simp
          split
          · simp
          split
          · simp
          · simp
        omega
    have := this s
    rw [List.length_cons, List.length_append, List.length_singleton]
    omega
  · simp
/-- What is quoted is cut as just that name. -/
theorem quote_cut {s : List UInt8} (h : quoteB s ≠ []) : ∃ t, cutB (quoteB s) = .ok [(t, 0)] ∧ (t.kind = 1 ∨ t.kind = 2) ∧ t.text = s ∧ (t.kind = 1 ↔ plainB s = true) := by
  have hz := quote_size s
  have hp : 1 ≤ (quoteB s).length := by
    cases hq : quoteB s with
    | nil => exact absurd hq h
    | cons c r => simp
  obtain ⟨t, h1, h2, h3, h4⟩ := quote_lex h ((quoteB s).length - 1) 0
  rw [show (quoteB s).length - 1 + 1 = (quoteB s).length by omega] at h1
  exact ⟨t, cutB_ok.2 ⟨by omega, h1, by simp⟩, h2, h3, h4⟩
theorem quote_none {s : List UInt8} (h : quoteB s = []) : plainB s = false := by
  cases hp : plainB s with
  | false => rfl
  | true =>
    unfold quoteB at h
    rw [if_pos hp] at h
    have := plain_short hp
    rw [h] at this
    simp at this
end Go.Proofs.YtdjdkhbaemjnnaaDoor
