/- The document's own reading of a label's text, and why it is the program's: facts about lists alone. -/
import Derived.Test.YtpmjpnapokhkaaaLab
namespace Go.Proofs.Ytpmjpnapokhkaaa
set_option linter.unusedVariables false

def delim (c : UInt8) : Bool := c == 44 || c == 123 || c == 125
def words (l : List UInt8) : Prop := ∀ c ∈ l, delim c = false
theorem word_delim {c : UInt8} (h : isWord c = true) : delim c = false := by
  cases hd : delim c
  · rfl
  · simp [delim] at hd
    rcases hd with (rfl | rfl) | rfl <;> exact absurd h (by decide)
theorem good_words {x : List UInt8} (h : goodName x = true) : words x ∧ x ≠ [] := by
  cases x with
  | nil => exact absurd h (by decide)
  | cons a r =>
    simp [goodName] at h
    refine ⟨fun c hc => ?_, by simp⟩
    rcases List.mem_cons.1 hc with rfl | hc
    · exact word_delim (word_small h.1.2)
    · exact word_delim (h.2 c hc)
theorem word_split : ∀ (a x : List UInt8) (d1 d2 : UInt8) (u v : List UInt8), words a → words x → delim d1 = true → delim d2 = true → a ++ d1 :: u = x ++ d2 :: v → a = x ∧ d1 = d2 ∧ u = v
  | [], [], d1, d2, u, v, _, _, _, _, h => by simpa using h
  | [], b :: x, d1, d2, u, v, _, hx, h1, _, h => by
    have hb := hx b (by simp)
    simp at h; rw [h.1, hb] at h1; cases h1
  | b :: a, [], d1, d2, u, v, ha, _, _, h2, h => by
    have hb := ha b (by simp)
    simp at h; rw [← h.1, hb] at h2; cases h2
  | b :: a, c :: x, d1, d2, u, v, ha, hx, h1, h2, h => by
    simp at h
    obtain ⟨rfl, h⟩ := h
    obtain ⟨rfl, r⟩ := word_split a x d1 d2 u v (fun c hc => ha c (by simp [hc])) (fun c hc => hx c (by simp [hc])) h1 h2 h
    exact ⟨rfl, r⟩
theorem word_skip : ∀ (y u' T W : List UInt8) (c : UInt8), words y → delim c = true → y ++ T = u' ++ c :: W → ∃ u'', u' = y ++ u'' ∧ T = u'' ++ c :: W
  | [], u', T, W, c, _, _, h => ⟨u', rfl, h⟩
  | b :: y, [], T, W, c, hy, hc, h => by
    have hb := hy b (by simp)
    simp at h; rw [← h.1, hb] at hc; cases hc
  | b :: y, e :: u', T, W, c, hy, hc, h => by
    simp at h
    obtain ⟨rfl, h⟩ := h
    obtain ⟨u'', rfl, h2⟩ := word_skip y u' T W c (fun c hc => hy c (by simp [hc])) hc h
    exact ⟨u'', rfl, h2⟩

/-- The names, each behind a comma, and the bracket. -/
def tl : List (List UInt8) → List UInt8
  | [] => [125]
  | y :: r => 44 :: (y ++ tl r)
/-- The names, the first of them behind nothing (where f), and the bracket. -/
def body (f : Bool) : List (List UInt8) → List UInt8
  | [] => [125]
  | y :: r => (if f then y else 44 :: y) ++ tl r
theorem tl_head (r : List (List UInt8)) : ∃ d v, tl r = d :: v ∧ delim d = true ∧ (d = 44 ∨ d = 125) := by
  cases r with
  | nil => exact ⟨125, [], rfl, rfl, Or.inr rfl⟩
  | cons y r => exact ⟨44, _, rfl, rfl, Or.inl rfl⟩
theorem body_false (r : List (List UInt8)) : body false r = tl r := by cases r <;> rfl
theorem tl_join (r : List (List UInt8)) : tl r = Lib.joinTail [44] r ++ [125] := by
  induction r with
  | nil => rfl
  | cons y r ih => simp [tl, Lib.joinTail] at ih ⊢; exact ih
theorem body_join (xs : List (List UInt8)) : body true xs = Lib.join xs [44] ++ [125] := by
  cases xs with
  | nil => rfl
  | cons y r => rw [Lib.join_cons]; simp [body, tl_join]
theorem text_body {n : List (List UInt8)} {l : Nat} (h : fits n l = true) : text n l = 123 :: body true (sel n l 0) := by
  simp [text, h, body_join]

theorem testBit_low {l i : Nat} (h : l < 2 ^ i) {j : Nat} (hj : i ≤ j) : l.testBit j = false :=
  Nat.testBit_lt_two_pow (Nat.lt_of_lt_of_le h (Nat.pow_le_pow_right (by decide) hj))
theorem or_pow_lt {l i : Nat} (h : l < 2 ^ i) : l ||| 2 ^ i < 2 ^ (i + 1) := by
  apply Nat.or_lt_two_pow
  · exact Nat.lt_of_lt_of_le h (Nat.pow_le_pow_right (by decide) (by omega))
  · exact Nat.pow_lt_pow_right (by decide) (by omega)
theorem or_pow_bit (l i j : Nat) : (l ||| 2 ^ i).testBit j = (l.testBit j || decide (i = j)) := by
  rw [Nat.testBit_or, Nat.testBit_two_pow]
theorem or_pow_pos (l i : Nat) : ((l ||| 2 ^ i) == 0) = false := by
  apply beq_false_of_ne
  intro e
  have := or_pow_bit l i i
  rw [e] at this; simp at this
theorem cut_true {s name r : List UInt8} {f : Bool} (h : cut s name f = (r, true)) : s = (if f then name else 44 :: name) ++ r ∧ (r.head? = some 44 ∨ r.head? = some 125) := by
  simp only [cut] at h
  generalize (if f = true then name else 44 :: name) = p at h ⊢
  split at h
  · rename_i hc
    simp only [Bool.and_eq_true, Bool.or_eq_true, beq_iff_eq] at hc
    cases h
    refine ⟨?_, hc.2⟩
    obtain ⟨t, ht⟩ := List.isPrefixOf_iff_prefix.1 hc.1
    unfold Lib.trimPrefix
    rw [if_pos hc.1, ← ht]; simp
  · cases h
/-- What was read away, and what is left, is the text. -/
theorem parseFrom_back : ∀ (n : List (List UInt8)) (i : Nat) (rest : List UInt8) (l : Nat) (r : List UInt8) (m : Nat), parseFrom n i rest l = (r, m) → l < 2 ^ i →
    m < 2 ^ (i + n.length) ∧ (∀ j, j < i → m.testBit j = l.testBit j) ∧ rest ++ [] = (match sel n m i with | [] => r | y :: q => (if (l == 0) then y else 44 :: y) ++ ((q.map ([44] ++ ·)).flatten ++ r))
  | [], i, rest, l, r, m, h, hl => by
    simp only [parseFrom] at h
    cases h
    exact ⟨hl, fun _ _ => rfl, by simp [sel]⟩
  | a :: t, i, rest, l, r, m, h, hl => by
    simp only [parseFrom] at h
    cases hc : (cut rest a (l == 0)).2
    · rw [hc] at h
      simp only [Bool.false_eq_true, if_false] at h
      obtain ⟨h1, h2, h3⟩ := parseFrom_back t (i + 1) rest l r m h (Nat.lt_of_lt_of_le hl (Nat.pow_le_pow_right (by decide) (by omega)))
      have hb : m.testBit i = false := by rw [h2 i (by omega)]; exact testBit_low hl (Nat.le_refl _)
      refine ⟨by simp only [List.length_cons]; rw [show i + (t.length + 1) = i + 1 + t.length by omega]; exact h1, fun j hj => h2 j (by omega), ?_⟩
      simp only [sel, hb, Bool.false_eq_true, if_false]
      exact h3
    · rw [hc] at h
      simp only [if_true] at h
      obtain ⟨h1, h2, h3⟩ := parseFrom_back t (i + 1) _ _ r m h (or_pow_lt hl)
      have hb : m.testBit i = true := by rw [h2 i (by omega), or_pow_bit]; simp
      have hcut := cut_true (r := (cut rest a (l == 0)).1) (Prod.ext rfl hc)
      refine ⟨by simp only [List.length_cons]; rw [show i + (t.length + 1) = i + 1 + t.length by omega]; exact h1, fun j hj => ?_, ?_⟩
      · rw [h2 j (by omega), or_pow_bit]; simp; omega
      · simp only [sel, hb, if_true]
        rw [List.append_nil] at h3 ⊢
        rw [hcut.1, h3]
        congr 1
        rw [or_pow_pos]
        cases sel t m (i + 1) with
        | nil => simp
        | cons y q => simp
theorem parse_back {n : List (List UInt8)} {s : List UInt8} {l : Nat} (h : parse n s = (l, true)) : goodNames n = true ∧ fits n l = true ∧ text n l = s := by
  unfold parse at h
  split at h
  · rename_i hg
    simp only [Bool.and_eq_true] at hg
    split at h
    · rename_i he
      obtain ⟨t, ht⟩ := List.isPrefixOf_iff_prefix.1 hg.1
      have htr : Lib.trimPrefix s [123] = t := by unfold Lib.trimPrefix; rw [if_pos hg.1, ← ht]; simp
      rw [htr] at h he
      cases hp : parseFrom n 0 t 0 with
      | mk r m =>
        rw [hp] at h he
        simp only [beq_iff_eq] at he
        subst he
        cases h
        obtain ⟨h1, _, h3⟩ := parseFrom_back n 0 t 0 _ _ hp (by decide)
        have hf : fits n m = true := by simp [fits, hg.2]; simpa using h1
        refine ⟨hg.2, hf, ?_⟩
        rw [text_body hf, ← ht]
        rw [List.append_nil] at h3
        rw [h3]
        show 123 :: _ = 123 :: _
        congr 1
        cases sel n m 0 with
        | nil => rfl
        | cons y q => simp only [body, tl_join, Lib.joinTail]; rfl
    · cases h
  · cases h
theorem parse_off {n : List (List UInt8)} {s : List UInt8} (h : (parse n s).2 = false) : parse n s = (0, false) := by
  unfold parse at *
  split
  · rename_i hg
    rw [if_pos hg] at h
    split
    · rename_i he
      rw [if_pos he] at h; cases h
    · rfl
  · rfl
theorem cut_yes' {name r : List UInt8} {f : Bool} (h : r.head? = some 44 ∨ r.head? = some 125) : cut ((if f then name else 44 :: name) ++ r) name f = (r, true) := by
  unfold cut
  have h1 : Lib.hasPrefix ((if f then name else 44 :: name) ++ r) (if f then name else 44 :: name) = true := List.isPrefixOf_iff_prefix.2 ⟨r, rfl⟩
  have h2 : Lib.trimPrefix ((if f then name else 44 :: name) ++ r) (if f then name else 44 :: name) = r := by
    unfold Lib.trimPrefix; rw [if_pos h1]; simp
  simp only [h1, h2]
  rcases h with h | h <;> simp [h]
theorem cut_no' {s name : List UInt8} {f : Bool} (h : ∀ r, s = (if f then name else 44 :: name) ++ r → ¬ (r.head? = some 44 ∨ r.head? = some 125)) : (cut s name f).2 = false := by
  cases hc : (cut s name f).2
  · rfl
  · have := cut_true (r := (cut s name f).1) (Prod.ext rfl hc)
    exact absurd this.2 (h _ this.1)
theorem head_cons {r : List UInt8} (h : r.head? = some 44 ∨ r.head? = some 125) : ∃ d v, r = d :: v ∧ delim d = true := by
  cases r with
  | nil => simp at h
  | cons d v =>
    refine ⟨d, v, rfl, ?_⟩
    simp at h
    rcases h with rfl | rfl <;> rfl
/-- A text is read as the label that it tells. -/
theorem parseFrom_sel : ∀ (n : List (List UInt8)) (i l L : Nat), l = L % 2 ^ i → (∀ x ∈ n, goodName x = true) → n.Nodup →
    parseFrom n i (body (l == 0) (sel n L i)) l = ([125], L % 2 ^ (i + n.length))
  | [], i, l, L, hl, _, _ => by simp [parseFrom, sel, body, hl]
  | a :: t, i, l, L, hl, hg, hn => by
    have hll : l < 2 ^ i := by rw [hl]; exact Nat.mod_lt _ (Nat.two_pow_pos i)
    obtain ⟨ha, hat⟩ := good_words (hg a (by simp))
    have hgt : ∀ x ∈ t, goodName x = true := fun x hx => hg x (by simp [hx])
    have hnt := (List.nodup_cons.1 hn)
    have hlen : i + (a :: t).length = i + 1 + t.length := by simp only [List.length_cons]; omega
    rw [hlen]
    simp only [parseFrom]
    cases hb : L.testBit i
    · have hl' : l = L % 2 ^ (i + 1) := by
        rw [hl]
        apply Nat.eq_of_testBit_eq
        intro j
        simp only [Nat.testBit_mod_two_pow]
        by_cases hj : j < i
        · simp [hj, show j < i + 1 by omega]
        · by_cases hj2 : j = i
          · subst hj2; simp [hb]
          · simp [hj, show ¬ j < i + 1 by omega]
      simp only [sel, hb, Bool.false_eq_true, if_false]
      rw [cut_no']
      · simp only [Bool.false_eq_true, if_false]
        exact parseFrom_sel t (i + 1) l L hl' hgt hnt.2
      · intro r hr hh
        obtain ⟨d, v, rfl, hd⟩ := head_cons hh
        cases hs : sel t L (i + 1) with
        | nil =>
          rw [hs] at hr
          cases hf : (l == 0)
          · rw [hf] at hr; simp [body] at hr
          · rw [hf] at hr
            simp only [body, if_true] at hr
            cases a with
            | nil => exact hat rfl
            | cons b a' => simp at hr
        | cons x q =>
          have hx : x ∈ t := by
            have : ∀ (n : List (List UInt8)) (l i : Nat), ∀ x ∈ sel n l i, x ∈ n := by
              intro n
              induction n with
              | nil => intro l i x h; exact h
              | cons b r ih =>
                intro l i x h
                simp only [sel] at h
                split at h
                · rcases List.mem_cons.1 h with rfl | h
                  · simp
                  · exact List.mem_cons_of_mem _ (ih l (i + 1) x h)
                · exact List.mem_cons_of_mem _ (ih l (i + 1) x h)
            exact this t L (i + 1) x (by rw [hs]; simp)
          obtain ⟨hxw, _⟩ := good_words (hgt x hx)
          obtain ⟨d2, v2, ht, hd2, _⟩ := tl_head q
          rw [hs] at hr
          simp only [body, ht] at hr
          have : a = x := by
            cases hf : (l == 0)
            · rw [hf] at hr
              simp at hr
              exact ((word_split x a d2 d v2 v hxw ha hd2 hd hr).1).symm
            · rw [hf] at hr
              simp at hr
              exact ((word_split x a d2 d v2 v hxw ha hd2 hd hr).1).symm
          subst this
          exact hnt.1 hx
    · have hl' : l ||| 2 ^ i = L % 2 ^ (i + 1) := by
        rw [hl]
        apply Nat.eq_of_testBit_eq
        intro j
        rw [or_pow_bit]
        simp only [Nat.testBit_mod_two_pow]
        by_cases hj : j < i
        · simp [hj, show j < i + 1 by omega, show ¬ i = j by omega]
        · by_cases hj2 : j = i
          · subst hj2; simp [hb]
          · simp [hj, show ¬ j < i + 1 by omega, show ¬ i = j by omega]
      simp only [sel, hb, if_true]
      have hbd : body (l == 0) (a :: sel t L (i + 1)) = (if (l == 0) then a else 44 :: a) ++ tl (sel t L (i + 1)) := rfl
      obtain ⟨d2, v2, ht, hd2, hd3⟩ := tl_head (sel t L (i + 1))
      rw [hbd, cut_yes' (by rw [ht]; rcases hd3 with rfl | rfl <;> simp)]
      simp only [if_true]
      have ih := parseFrom_sel t (i + 1) (l ||| 2 ^ i) L hl' hgt hnt.2
      rw [or_pow_pos, body_false] at ih
      exact ih
theorem good_nodup {n : List (List UInt8)} (h : goodNames n = true) : n.Nodup := by
  refine List.pairwise_iff_getElem.2 fun i j hi hj hij e0 => ?_
  have e : n[i]? = n[j]? := by rw [List.getElem?_eq_getElem hi, List.getElem?_eq_getElem hj, e0]
  have hall : okAt n j = true := by
    unfold goodNames at h
    simp only [Bool.and_eq_true, List.all_eq_true] at h
    exact h.2 j (by simpa using hj)
  obtain ⟨x, hx⟩ : ∃ x, n[j]? = some x := ⟨n[j], List.getElem?_eq_getElem hj⟩
  rw [okAt, hx] at hall
  simp only [Bool.and_eq_true, Bool.not_eq_true'] at hall
  have : x ∈ n.take j := by
    rw [List.mem_iff_getElem?]
    exact ⟨i, by rw [List.getElem?_take, if_pos hij, e, hx]⟩
  rw [← List.contains_iff_mem] at this
  rw [this] at hall
  cases hall.2
theorem parse_text {n : List (List UInt8)} {l : Nat} (h : fits n l = true) : parse n (text n l) = (l, true) := by
  have hg : goodNames n = true := by simp [fits] at h; exact h.1
  have hl : l < 2 ^ n.length := by simp [fits] at h; exact h.2
  rw [text_body h]
  unfold parse
  have h1 : Lib.hasPrefix (123 :: body true (sel n l 0)) [123] = true := by simp [Lib.hasPrefix]
  have h2 : Lib.trimPrefix (123 :: body true (sel n l 0)) [123] = body true (sel n l 0) := by
    unfold Lib.trimPrefix; rw [if_pos h1]; simp
  have h3 := parseFrom_sel n 0 0 l (by simp [Nat.mod_one]) (fun x hx => goodNames_name hg hx) (good_nodup hg)
  rw [show ((0 : Nat) == 0) = true from rfl, Nat.zero_add, Nat.mod_eq_of_lt hl] at h3
  rw [h1, hg, h2, h3]
  rfl
end Go.Proofs.Ytpmjpnapokhkaaa
