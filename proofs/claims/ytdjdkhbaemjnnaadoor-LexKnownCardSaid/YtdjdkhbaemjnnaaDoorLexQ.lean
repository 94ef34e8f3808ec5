/- Letter by letter: a whole text; two texts with a line's end between; a quoted name. Nothing here is walked. -/
import Derived.Test.YtdjdkhbaemjnnaaDoorLexP
namespace Go.Proofs.YtdjdkhbaemjnnaaDoor

def NextB.len : NextB → Nat
  | .skip k => k
  | .tok t => t.len
  | .bad _ => 0
theorem tok_len (kind : Nat) (text : List UInt8) (n k : Nat) (s : List UInt8) : (tokB kind text n k s).len = k := rfl
theorem name_len (k : Nat) (s : List UInt8) : (nameB k s).len ≤ k := by
  unfold nameB
  split
  · exact Nat.le_refl _
  · exact Nat.zero_le _
theorem quo_len : ∀ (n : Nat) (r : List UInt8), r.length ≤ n → ∀ p, quoB r = some p → p.2 ≤ r.length := fun n r hn p h => (quo_nl [] n r hn p h).2
theorem next_len (c : UInt8) (r : List UInt8) : (nextC c r).len ≤ r.length + 1 := by
  have hw := tw_le wordB r
  have hg := tw_le digitB r
  have hn := tw_le (fun x => x != 10) r
  have hsy : symRun (c :: r) ≤ r.length + 1 := sym_le (c :: r)
  unfold nextC
  by_cases h1 : blankB c = true
  · rw [if_pos h1]; exact Nat.le_add_left _ _
  rw [if_neg h1]
  by_cases h2 : (c == 37) = true
  · rw [if_pos h2]; exact Nat.succ_le_succ hn
  rw [if_neg h2]
  by_cases h3 : smallB c = true
  · rw [if_pos h3]; exact Nat.le_trans (name_len _ _) (by omega)
  rw [if_neg h3]
  by_cases h4 : greatB c = true
  · rw [if_pos h4, tok_len]; omega
  rw [if_neg h4]
  by_cases h5 : digitB c = true
  · rw [if_pos h5]
    split
    · rw [tok_len]; omega
    · exact Nat.zero_le _
  rw [if_neg h5]
  by_cases h6 : (c == 39) = true
  · rw [if_pos h6]
    cases hq : quoB r with
    | none => exact Nat.zero_le _
    | some p =>
      have := quo_len r.length r (Nat.le_refl _) p hq
      simp only
      split
      · rw [tok_len]; omega
      · exact Nat.zero_le _
  rw [if_neg h6]
  by_cases h7 : (c == 46 && endB r) = true
  · rw [if_pos h7, tok_len]; omega
  rw [if_neg h7]
  by_cases h8 : symB c = true
  · rw [if_pos h8]; exact Nat.le_trans (name_len _ _) hsy
  rw [if_neg h8]
  by_cases h9 : (c == 59 || c == 33) = true
  · rw [if_pos h9]; exact Nat.le_trans (name_len _ _) (by omega)
  rw [if_neg h9]
  by_cases h10 : ((c == 91 && r.head? == some 93) || (c == 123 && r.head? == some 125)) = true
  · rw [if_pos h10]
    refine Nat.le_trans (name_len _ _) ?_
    cases r with
    | nil => simp at h10
    | cons d r => simp
  rw [if_neg h10]
  by_cases h11 : [40, 41, 91, 93, 123, 125, 44, 124].contains c = true
  · rw [if_pos h11, tok_len]; omega
  rw [if_neg h11]
  exact Nat.zero_le _

/-- The tokens of a text, each with its first byte's place (the text begins at place p); nothing where one is refused. n: more than enough. -/
def lexL : Nat → Nat → List UInt8 → Option (List (TokB × Nat))
  | _, _, [] => some []
  | 0, _, _ :: _ => none
  | n + 1, p, c :: r =>
    match nextC c r with
    | .skip k => lexL n (p + k) ((c :: r).drop k)
    | .tok t => (lexL n (p + t.len) ((c :: r).drop t.len)).map fun l => (t, p) :: l
    | .bad _ => none
theorem lex_nil (n p : Nat) : lexL n p [] = some [] := by cases n <;> rfl
theorem lex_more : ∀ (n p : Nat) (s : List UInt8) (x : List (TokB × Nat)), lexL n p s = some x → ∀ m, n ≤ m → lexL m p s = some x
  | n, p, [], x, h, m, _ => by rw [lex_nil] at h ⊢; exact h
  | 0, p, c :: r, x, h, m, _ => by cases h
  | n + 1, p, c :: r, x, h, 0, hm => by omega
  | n + 1, p, c :: r, x, h, m + 1, hm => by
    rw [lexL] at h ⊢
    cases hn : nextC c r with
    | skip k => rw [hn] at h; exact lex_more n _ _ x h m (by omega)
    | tok t =>
      rw [hn] at h
      obtain ⟨l, hl, rfl⟩ := Option.map_eq_some_iff.1 h
      simp only [lex_more n _ _ l hl m (by omega)]
      rfl
    | bad o => rw [hn] at h; cases h
/-- Two texts with a line's end between: the tokens of both. -/
theorem lex_parts (b : List UInt8) (m : Nat) (y : List (TokB × Nat)) : ∀ (n p : Nat) (a : List UInt8) (x : List (TokB × Nat)), lexL n p a = some x → lexL m (p + a.length + 1) b = some y →
    lexL (n + (m + 1)) p (a ++ 10 :: b) = some (x ++ y)
  | n, p, [], x, h, hb => by
    rw [lex_nil] at h
    cases h
    show lexL (n + m + 1) p (10 :: b) = _
    rw [lexL]
    have e : nextC 10 b = .skip 1 := rfl
    rw [e]
    simp only [List.drop_succ_cons, List.drop_zero]
    exact lex_more m _ _ _ (by simpa using hb) _ (by omega)
  | 0, p, c :: r, x, h, _ => by cases h
  | n + 1, p, c :: r, x, h, hb => by
    have hlen := next_len c r
    have hnl := next_nl b c r
    rw [lexL] at h
    rw [show n + 1 + (m + 1) = (n + (m + 1)) + 1 by omega, List.cons_append, lexL]
    cases hn : nextC c r with
    | skip k =>
      rw [hn] at h hlen
      have e : nextC c (r ++ 10 :: b) = .skip k := (hnl (fun o e => by rw [show nextB (c :: r) = nextC c r from rfl, hn] at e; cases e)).trans hn
      rw [e]
      have hk : k ≤ (c :: r).length := hlen
      have hd : (c :: (r ++ 10 :: b)).drop k = (c :: r).drop k ++ 10 :: b := by
        rw [← List.cons_append, List.drop_append_of_le_length hk]
      simp only [hd]
      exact lex_parts b m y n (p + k) _ x h (by rw [List.length_drop, show p + k + ((c :: r).length - k) + 1 = p + (c :: r).length + 1 by omega]; exact hb)
    | tok t =>
      rw [hn] at h hlen
      have e : nextC c (r ++ 10 :: b) = .tok t := (hnl (fun o e => by rw [show nextB (c :: r) = nextC c r from rfl, hn] at e; cases e)).trans hn
      rw [e]
      have hk : t.len ≤ (c :: r).length := hlen
      have hd : (c :: (r ++ 10 :: b)).drop t.len = (c :: r).drop t.len ++ 10 :: b := by
        rw [← List.cons_append, List.drop_append_of_le_length hk]
      obtain ⟨l, hl, rfl⟩ := Option.map_eq_some_iff.1 h
      have := lex_parts b m y n (p + t.len) _ l hl (by rw [List.length_drop, show p + t.len + ((c :: r).length - t.len) + 1 = p + (c :: r).length + 1 by omega]; exact hb)
      simp only [hd, this]
      rfl
    | bad o => rw [hn] at h; cases h
theorem lex_shift (d : Nat) : ∀ (n p : Nat) (s : List UInt8), lexL n (p + d) s = (lexL n p s).map fun l => l.map fun q => (q.1, q.2 + d)
  | n, p, [] => by rw [lex_nil, lex_nil]; rfl
  | 0, p, c :: r => rfl
  | n + 1, p, c :: r => by
    rw [lexL, lexL]
    cases hn : nextC c r with
    | skip k =>
      simp only
      rw [show p + d + k = p + k + d by omega]
      exact lex_shift d n (p + k) _
    | tok t =>
      simp only
      rw [show p + d + t.len = p + t.len + d by omega, lex_shift d n (p + t.len) _]
      cases lexL n (p + t.len) ((c :: r).drop t.len) <;> rfl
    | bad o => rfl
theorem lex_blanks (s : List UInt8) (n : Nat) (x : List (TokB × Nat)) : ∀ (pad : List UInt8), (∀ c ∈ pad, blankB c = true) → ∀ p, lexL n (p + pad.length) s = some x → lexL (n + pad.length) p (pad ++ s) = some x
  | [], _, p, h => by simpa using h
  | c :: pad, hb, p, h => by
    rw [List.cons_append, show n + (c :: pad).length = (n + pad.length) + 1 by simp; omega, lexL]
    have e : nextC c (pad ++ s) = .skip 1 := by
      unfold nextC
      rw [if_pos (hb c (by simp))]
    rw [e]
    simp only [List.drop_succ_cons, List.drop_zero]
    exact lex_blanks s n x pad (fun c' h' => hb c' (List.mem_cons_of_mem _ h')) (p + 1) (by rw [show p + 1 + pad.length = p + (c :: pad).length by simp; omega]; exact h)

/-- How a byte stands between quotes. -/
def escQ (c : UInt8) : List UInt8 := if c == 10 then [92, 110] else if c == 9 then [92, 116] else if c == 92 then [92, 92] else if c == 39 then [92, 39] else [c]
def mayQ (c : UInt8) : Bool := c == 10 || c == 9 || (decide (32 ≤ c) && decide (c ≤ 126))
theorem quo_cons (c : UInt8) (hc : mayQ c = true) (d : UInt8) (r : List UInt8) (p : List UInt8 × Nat) (h : quoB (d :: r) = some p) : quoB (escQ c ++ d :: r) = some (c :: p.1, p.2 + (escQ c).length) := by
  unfold escQ
  by_cases h1 : (c == 10) = true
  · rw [if_pos h1]
    obtain rfl : c = 10 := by simpa using h1
    show quoB (92 :: 110 :: d :: r) = _
    rw [quoB, h]
    rfl
  rw [if_neg h1]
  by_cases h2 : (c == 9) = true
  · rw [if_pos h2]
    obtain rfl : c = 9 := by simpa using h2
    show quoB (92 :: 116 :: d :: r) = _
    rw [quoB, h]
    rfl
  rw [if_neg h2]
  by_cases h3 : (c == 92) = true
  · rw [if_pos h3]
    obtain rfl : c = 92 := by simpa using h3
    show quoB (92 :: 92 :: d :: r) = _
    rw [quoB, h]
    rfl
  rw [if_neg h3]
  by_cases h4 : (c == 39) = true
  · rw [if_pos h4]
    obtain rfl : c = 39 := by simpa using h4
    show quoB (92 :: 39 :: d :: r) = _
    rw [quoB, h]
    rfl
  rw [if_neg h4]
  show quoB (c :: d :: r) = _
  rw [quoB, if_neg h4, if_neg h3]
  have h5 : (decide (32 ≤ c) && decide (c ≤ 126)) = true := by
    unfold mayQ at hc
    simp only [Bool.or_eq_true] at hc
    rcases hc with (hc | hc) | hc
    · exact absurd hc h1
    · exact absurd hc h2
    · exact hc
  rw [if_pos h5, h]
  rfl
/-- What is quoted reads as what it was. -/
theorem quo_back : ∀ (name : List UInt8), (∀ c ∈ name, mayQ c = true) → quoB (name.flatMap escQ ++ [39]) = some (name, (name.flatMap escQ).length + 1)
  | [], _ => rfl
  | c :: name, h => by
    have ih := quo_back name (fun c' h' => h c' (List.mem_cons_of_mem _ h'))
    obtain ⟨d, r, hd⟩ : ∃ d r, name.flatMap escQ ++ [39] = d :: r := by
      cases name.flatMap escQ with
      | nil => exact ⟨39, [], rfl⟩
      | cons d r => exact ⟨d, r ++ [39], rfl⟩
    rw [List.flatMap_cons, List.append_assoc, hd]
    rw [hd] at ih
    rw [quo_cons c (h c (by simp)) d r _ ih, List.length_append]
    simp only
    congr 2
    omega
end Go.Proofs.YtdjdkhbaemjnnaaDoor
