/- Letter by letter: plain names, quoted names. Nothing here is walked. -/
import Derived.Test.YtdjdkhbaemjnnaaDoorLexQ
namespace Go.Proofs.YtdjdkhbaemjnnaaDoor

theorem name_kind {k : Nat} {s : List UInt8} {t : TokB} (h : nameB k s = .tok t) : t.kind = 1 ∧ t.text = s.take t.len ∧ t.n = 0 ∧ t.len = k ∧ k ≤ 64 := by
  unfold nameB at h
  split at h
  · rename_i hk
    unfold tokB at h
    cases h
    exact ⟨rfl, rfl, rfl, rfl, by simpa using hk⟩
  · cases h
/-- A name of Kind 1 is its letters. -/
theorem next_kind (c : UInt8) (r : List UInt8) (t : TokB) (h : nextC c r = .tok t) (hk : t.kind = 1) : t.text = (c :: r).take t.len := by
  unfold nextC at h
  have other : ∀ (kind : Nat) (text : List UInt8) (n k : Nat) (s : List UInt8), kind ≠ 1 → tokB kind text n k s = .tok t → t.text = (c :: r).take t.len := fun kind text n k s hne he => by
    unfold tokB at he
    cases he
    exact absurd hk hne
  by_cases h1 : blankB c = true
  · rw [if_pos h1] at h; cases h
  rw [if_neg h1] at h
  by_cases h2 : (c == 37) = true
  · rw [if_pos h2] at h; cases h
  rw [if_neg h2] at h
  by_cases h3 : smallB c = true
  · rw [if_pos h3] at h; exact (name_kind h).2.1
  rw [if_neg h3] at h
  by_cases h4 : greatB c = true
  · rw [if_pos h4] at h; exact other _ _ _ _ _ (by decide) h
  rw [if_neg h4] at h
  by_cases h5 : digitB c = true
  · rw [if_pos h5] at h
    split at h
    · exact other _ _ _ _ _ (by decide) h
    · cases h
  rw [if_neg h5] at h
  by_cases h6 : (c == 39) = true
  · rw [if_pos h6] at h
    cases hq : quoB r with
    | none => rw [hq] at h; cases h
    | some p =>
      rw [hq] at h
      simp only at h
      split at h
      · exact other _ _ _ _ _ (by decide) h
      · cases h
  rw [if_neg h6] at h
  by_cases h7 : (c == 46 && endB r) = true
  · rw [if_pos h7] at h; exact other _ _ _ _ _ (by decide) h
  rw [if_neg h7] at h
  by_cases h8 : symB c = true
  · rw [if_pos h8] at h; exact (name_kind h).2.1
  rw [if_neg h8] at h
  by_cases h9 : (c == 59 || c == 33) = true
  · rw [if_pos h9] at h; exact (name_kind h).2.1
  rw [if_neg h9] at h
  by_cases h10 : ((c == 91 && r.head? == some 93) || (c == 123 && r.head? == some 125)) = true
  · rw [if_pos h10] at h; exact (name_kind h).2.1
  rw [if_neg h10] at h
  by_cases h11 : [40, 41, 91, 93, 123, 125, 44, 124].contains c = true
  · rw [if_pos h11] at h; exact other _ _ _ _ _ (by decide) h
  rw [if_neg h11] at h
  cases h

/-- One name of Kind 1, and nothing else. -/
def plainB (name : List UInt8) : Bool :=
  match name with
  | [] => false
  | c :: r => match nextC c r with
    | .tok t => t.kind == 1 && t.len == (c :: r).length
    | _ => false
def quoteB (name : List UInt8) : List UInt8 :=
  if plainB name then name else if decide (name.length ≤ 64) && name.all mayQ then 39 :: (name.flatMap escQ ++ [39]) else []
theorem plain_lex {name : List UInt8} (h : plainB name = true) (n p : Nat) : ∃ t, lexL (n + 1) p name = some [(t, p)] ∧ t.kind = 1 ∧ t.text = name := by
  unfold plainB at h
  split at h
  · cases h
  · rename_i c r
    split at h
    · rename_i t ht
      simp only [Bool.and_eq_true, beq_iff_eq] at h
      refine ⟨t, ?_, h.1, by rw [next_kind c r t ht h.1, h.2, List.take_length]⟩
      rw [lexL, ht]
      simp only
      rw [h.2, List.drop_length, lex_nil]
      rfl
    · cases h
theorem quoted_next (name : List UInt8) (hl : name.length ≤ 64) (h : ∀ c ∈ name, mayQ c = true) : nextC 39 (name.flatMap escQ ++ [39]) = .tok ⟨2, name, 0, (name.flatMap escQ).length + 2, false⟩ := by
  unfold nextC
  rw [if_neg (by decide), if_neg (by decide), if_neg (by decide), if_neg (by decide), if_neg (by decide), if_pos (by decide), quo_back name h]
  simp only
  rw [if_pos (by simpa using hl)]
  unfold tokB
  have e : (39 :: (name.flatMap escQ ++ [39])).drop ((name.flatMap escQ).length + 1 + 1) = [] := List.drop_eq_nil_of_le (by simp)
  rw [e]
  rfl
/-- A quoted name is cut as just that name. -/
theorem quote_lex {name : List UInt8} (h : quoteB name ≠ []) (n p : Nat) : ∃ t, lexL (n + 1) p (quoteB name) = some [(t, p)] ∧ (t.kind = 1 ∨ t.kind = 2) ∧ t.text = name ∧ (t.kind = 1 ↔ plainB name = true) := by
  unfold quoteB at h ⊢
  by_cases h1 : plainB name = true
  · rw [if_pos h1]
    obtain ⟨t, e1, e2, e3⟩ := plain_lex h1 n p
    exact ⟨t, e1, Or.inl e2, e3, ⟨fun _ => h1, fun _ => e2⟩⟩
  · rw [if_neg h1] at h ⊢
    by_cases h2 : (decide (name.length ≤ 64) && name.all mayQ) = true
    · rw [if_pos h2]
      simp only [Bool.and_eq_true, decide_eq_true_eq, List.all_eq_true] at h2
      refine ⟨⟨2, name, 0, (name.flatMap escQ).length + 2, false⟩, ?_, Or.inr rfl, rfl, ⟨fun e => (by cases e), fun e => absurd e h1⟩⟩
      rw [lexL, quoted_next name h2.1 h2.2]
      simp only
      rw [List.drop_eq_nil_of_le (by simp), lex_nil]
      rfl
    · rw [if_neg h2] at h
      exact absurd rfl h
end Go.Proofs.YtdjdkhbaemjnnaaDoor
