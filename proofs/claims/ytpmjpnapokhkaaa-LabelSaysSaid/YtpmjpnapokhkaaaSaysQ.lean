/- The document's own reading of a label's text: where names stand in it. Lists alone. -/
import Derived.Test.YtpmjpnapokhkaaaSaysP
namespace Go.Proofs.Ytpmjpnapokhkaaa
set_option linter.unusedVariables false

theorem mem_of_cons {r' : List (List UInt8)} {c0 : UInt8} {y name u v : List UInt8} {c d : UInt8} (hn : words name) (hy : words y) (hc : delim c = true) (hd : delim d = true)
    (ih : ∀ u', tl r' = u' ++ c :: (name ++ d :: v) → name ∈ r') (h : c0 :: (y ++ tl r') = u ++ c :: (name ++ d :: v)) : name ∈ y :: r' := by
  cases u with
  | nil =>
    simp at h
    obtain ⟨d2, v2, ht, hd2, _⟩ := tl_head r'
    rw [ht] at h
    have := (word_split name y d d2 v v2 hn hy hd hd2 h.2.symm).1
    rw [this]; simp
  | cons b u =>
    simp at h
    obtain ⟨u'', _, h2⟩ := word_skip y u _ _ c hy hc h.2
    exact List.mem_cons_of_mem _ (ih u'' h2)
theorem mem_of_tl : ∀ (r : List (List UInt8)) (u v name : List UInt8) (c d : UInt8), words name → (∀ y ∈ r, words y) → delim c = true → delim d = true → tl r = u ++ c :: (name ++ d :: v) → name ∈ r
  | [], u, v, name, c, d, _, _, _, _, h => by
    have := congrArg List.length h
    simp [tl] at this; omega
  | y :: r', u, v, name, c, d, hn, hy, hc, hd, h =>
    mem_of_cons hn (hy y (by simp)) hc hd (fun u' h' => mem_of_tl r' u' v name c d hn (fun z hz => hy z (by simp [hz])) hc hd h') h
theorem mem_of_body {xs : List (List UInt8)} {u v name : List UInt8} {c d : UInt8} (hn : words name) (hy : ∀ y ∈ xs, words y) (hc : delim c = true) (hd : delim d = true)
    (h : 123 :: body true xs = u ++ c :: (name ++ d :: v)) (hne : name ≠ []) : name ∈ xs := by
  cases xs with
  | nil =>
    have := congrArg List.length h
    have hp : 0 < name.length := List.length_pos_iff.2 hne
    simp [body] at this; omega
  | cons y r =>
    exact mem_of_cons hn (hy y (by simp)) hc hd (fun u' h' => mem_of_tl r u' v name c d hn (fun z hz => hy z (by simp [hz])) hc hd h') h
theorem tl_of_mem : ∀ (r : List (List UInt8)) (name : List UInt8), name ∈ r → ∃ u d v, tl r = u ++ 44 :: (name ++ d :: v) ∧ (d = 44 ∨ d = 125)
  | y :: r, name, h => by
    rcases List.mem_cons.1 h with rfl | h
    · obtain ⟨d, v, ht, _, hd⟩ := tl_head r
      exact ⟨[], d, v, by simp [tl, ht], hd⟩
    · obtain ⟨u, d, v, ht, hd⟩ := tl_of_mem r name h
      exact ⟨44 :: (y ++ u), d, v, by simp [tl, ht], hd⟩
theorem body_of_mem {xs : List (List UInt8)} {name : List UInt8} (h : name ∈ xs) : ∃ u c d v, 123 :: body true xs = u ++ c :: (name ++ d :: v) ∧ (c = 123 ∨ c = 44) ∧ (d = 44 ∨ d = 125) := by
  cases xs with
  | nil => cases h
  | cons y r =>
    rcases List.mem_cons.1 h with rfl | h
    · obtain ⟨d, v, ht, _, hd⟩ := tl_head r
      exact ⟨[], 123, d, v, by simp [body, ht], Or.inl rfl, hd⟩
    · obtain ⟨u, d, v, ht, hd⟩ := tl_of_mem r name h
      exact ⟨123 :: (y ++ u), 44, d, v, by simp [body, ht], Or.inr rfl, hd⟩

/-- Does the name stand at k, between delimiters? -/
def hit (name s : List UInt8) (k : Nat) : Bool :=
  ((s.drop k).take name.length == name) && (s[k - 1]? == some 123 || s[k - 1]? == some 44) && (s[k + name.length]? == some 44 || s[k + name.length]? == some 125)
def hitIn (name s : List UInt8) (k : Nat) : Bool := decide (1 ≤ k) && decide (k + name.length < s.length) && hit name s k
def occ (name s : List UInt8) : Bool := (List.range s.length).any (hitIn name s)
theorem occ_iff {name s : List UInt8} : occ name s = true ↔ ∃ u c d v, s = u ++ c :: (name ++ d :: v) ∧ (c = 123 ∨ c = 44) ∧ (d = 44 ∨ d = 125) := by
  constructor
  · intro h
    obtain ⟨k, _, hk⟩ := List.any_eq_true.1 h
    simp only [hitIn, hit, Bool.and_eq_true, decide_eq_true_eq, Bool.or_eq_true, beq_iff_eq] at hk
    obtain ⟨⟨h1, h2⟩, ⟨h3, h4⟩, h5⟩ := hk
    obtain ⟨c, hc, hc'⟩ : ∃ c, s[k - 1]? = some c ∧ (c = 123 ∨ c = 44) := by
      rcases h4 with h | h
      · exact ⟨_, h, Or.inl rfl⟩
      · exact ⟨_, h, Or.inr rfl⟩
    obtain ⟨d, hd, hd'⟩ : ∃ d, s[k + name.length]? = some d ∧ (d = 44 ∨ d = 125) := by
      rcases h5 with h | h
      · exact ⟨_, h, Or.inl rfl⟩
      · exact ⟨_, h, Or.inr rfl⟩
    refine ⟨s.take (k - 1), c, d, s.drop (k + name.length + 1), ?_, hc', hd'⟩
    obtain ⟨hcl, hce⟩ := List.getElem?_eq_some_iff.1 hc
    obtain ⟨hdl, hde⟩ := List.getElem?_eq_some_iff.1 hd
    have e1 : s.drop (k - 1) = c :: s.drop k := by rw [List.drop_eq_getElem_cons hcl, hce, show k - 1 + 1 = k by omega]
    have e2 : s.drop k = name ++ s.drop (k + name.length) := by
      conv => lhs; rw [← List.take_append_drop name.length (s.drop k)]
      rw [h3, List.drop_drop]
    have e3 : s.drop (k + name.length) = d :: s.drop (k + name.length + 1) := by rw [List.drop_eq_getElem_cons hdl, hde]
    rw [← e3, ← e2, ← e1, List.take_append_drop]
  · rintro ⟨u, c, d, v, rfl, hc, hd⟩
    refine List.any_eq_true.2 ⟨u.length + 1, by simp; omega, ?_⟩
    simp only [hitIn, hit, Bool.and_eq_true, decide_eq_true_eq, Bool.or_eq_true, beq_iff_eq]
    refine ⟨⟨by omega, by simp; omega⟩, ⟨?_, ?_⟩, ?_⟩
    · rw [show u ++ c :: (name ++ d :: v) = (u ++ [c]) ++ (name ++ d :: v) by simp, List.drop_left' (by simp)]
      simp
    · rw [show u.length + 1 - 1 = u.length by omega]
      simp
      rcases hc with rfl | rfl <;> simp
    · rw [show u ++ c :: (name ++ d :: v) = (u ++ [c] ++ name) ++ (d :: v) by simp, List.getElem?_append_right (by simp; omega)]
      rw [show u.length + 1 + name.length - (u ++ [c] ++ name).length = 0 by simp; omega]
      rcases hd with rfl | rfl <;> simp
theorem sel_bit : ∀ (n : List (List UInt8)) (L i : Nat) (name : List UInt8), name ∈ sel n L i ↔ ∃ j, n[j]? = some name ∧ L.testBit (i + j) = true
  | [], L, i, name => by simp [sel]
  | a :: t, L, i, name => by
    have ih := sel_bit t L (i + 1) name
    cases hb : L.testBit i
    · simp only [sel, hb, Bool.false_eq_true, if_false]
      rw [ih]
      constructor
      · rintro ⟨j, h1, h2⟩
        exact ⟨j + 1, by simpa using h1, by rw [show i + (j + 1) = i + 1 + j by omega]; exact h2⟩
      · rintro ⟨j, h1, h2⟩
        cases j with
        | zero => rw [Nat.add_zero, hb] at h2; cases h2
        | succ j => exact ⟨j, by simpa using h1, by rw [show i + 1 + j = i + (j + 1) by omega]; exact h2⟩
    · simp only [sel, hb, if_true, List.mem_cons]
      rw [ih]
      constructor
      · rintro (rfl | ⟨j, h1, h2⟩)
        · exact ⟨0, by simp, by simpa using hb⟩
        · exact ⟨j + 1, by simpa using h1, by rw [show i + (j + 1) = i + 1 + j by omega]; exact h2⟩
      · rintro ⟨j, h1, h2⟩
        cases j with
        | zero => left; simpa using h1.symm
        | succ j => right; exact ⟨j, by simpa using h1, by rw [show i + 1 + j = i + (j + 1) by omega]; exact h2⟩
theorem sel_sub {n : List (List UInt8)} {L i : Nat} {x : List UInt8} (h : x ∈ sel n L i) : x ∈ n := by
  obtain ⟨j, hj, _⟩ := (sel_bit n L i x).1 h
  exact List.mem_of_getElem? hj
theorem occ_text {n : List (List UInt8)} {l : Nat} (h : fits n l = true) {j : Nat} {name : List UInt8} (hj : n[j]? = some name) : occ name (text n l) = l.testBit j := by
  have hg : goodNames n = true := by simp [fits] at h; exact h.1
  have hw : ∀ x ∈ n, words x ∧ x ≠ [] := fun x hx => good_words (goodNames_name hg hx)
  have hnm := hw name (List.mem_of_getElem? hj)
  have e : occ name (text n l) = true ↔ l.testBit j = true := by
    rw [occ_iff, text_body h]
    constructor
    · rintro ⟨u, c, d, v, h1, hc, hd⟩
      have hm := mem_of_body hnm.1 (fun y hy => (hw y (sel_sub hy)).1) (by rcases hc with rfl | rfl <;> rfl) (by rcases hd with rfl | rfl <;> rfl) h1 hnm.2
      obtain ⟨i, hi, hb⟩ := (sel_bit n l 0 name).1 hm
      have hnd := good_nodup hg
      obtain ⟨h1', h1e⟩ := List.getElem?_eq_some_iff.1 hi
      obtain ⟨h2', h2e⟩ := List.getElem?_eq_some_iff.1 hj
      have : i = j := by
        apply Classical.byContradiction
        intro hne
        rcases Nat.lt_or_gt_of_ne hne with hlt | hlt
        · exact (List.pairwise_iff_getElem.1 hnd i j h1' h2' hlt) (by rw [h1e, h2e])
        · exact (List.pairwise_iff_getElem.1 hnd j i h2' h1' hlt) (by rw [h1e, h2e])
      rw [Nat.zero_add, this] at hb; exact hb
    · intro hb
      exact body_of_mem ((sel_bit n l 0 name).2 ⟨j, hj, by rw [Nat.zero_add]; exact hb⟩)
  cases h1 : occ name (text n l) <;> cases h2 : l.testBit j <;> simp [h1, h2] at e ⊢

/-- The names, up to the k-th, that stand in the text. -/
def mask (n : List (List UInt8)) (s : List UInt8) : Nat → Nat
  | 0 => 0
  | k + 1 => match n[k]? with
    | some x => if occ x s then mask n s k ||| 2 ^ k else mask n s k
    | none => mask n s k
theorem mask_lt (n : List (List UInt8)) (s : List UInt8) : ∀ k, mask n s k < 2 ^ k
  | 0 => by show 0 < 2 ^ 0; decide
  | k + 1 => by
    have ih := mask_lt n s k
    have h2 : mask n s k < 2 ^ (k + 1) := Nat.lt_of_lt_of_le ih (Nat.pow_le_pow_right (by decide) (by omega))
    simp only [mask]
    split
    · split
      · exact or_pow_lt ih
      · exact h2
    · exact h2
theorem mask_text {n : List (List UInt8)} {l : Nat} (h : fits n l = true) : ∀ k, k ≤ n.length → mask n (text n l) k = l % 2 ^ k
  | 0, _ => by simp [mask, Nat.mod_one]
  | k + 1, hk => by
    have ih := mask_text h k (by omega)
    obtain ⟨x, hx⟩ : ∃ x, n[k]? = some x := ⟨n[k], List.getElem?_eq_getElem (by omega)⟩
    simp only [mask, hx]
    rw [occ_text h hx, ih]
    apply Nat.eq_of_testBit_eq
    intro j
    cases hb : l.testBit k
    · simp only [Bool.false_eq_true, if_false, Nat.testBit_mod_two_pow]
      by_cases hj : j < k
      · simp [hj, show j < k + 1 by omega]
      · by_cases hj2 : j = k
        · subst hj2; simp [hb]
        · simp [hj, show ¬ j < k + 1 by omega]
    · simp only [if_true, or_pow_bit, Nat.testBit_mod_two_pow]
      by_cases hj : j < k
      · simp [hj, show j < k + 1 by omega, show ¬ k = j by omega]
      · by_cases hj2 : j = k
        · subst hj2; simp [hb]
        · simp [hj, show ¬ j < k + 1 by omega, show ¬ k = j by omega]
/-- The document's reading. -/
def rParse (n : List (List UInt8)) (s : List UInt8) : Nat × Bool :=
  if goodNames n = true ∧ 2 ≤ s.length ∧ s[0]? = some 123 ∧ s[s.length - 1]? = some 125 then
    if text n (mask n s n.length) = s then (mask n s n.length, true) else (0, false)
  else (0, false)
theorem tl_last (r : List (List UInt8)) : ∃ u, tl r = u ++ [125] := by
  induction r with
  | nil => exact ⟨[], rfl⟩
  | cons y r ih => obtain ⟨u, hu⟩ := ih; exact ⟨44 :: (y ++ u), by simp [tl, hu]⟩
theorem body_last (xs : List (List UInt8)) : ∃ u, body true xs = u ++ [125] := by
  cases xs with
  | nil => exact ⟨[], rfl⟩
  | cons y r => obtain ⟨u, hu⟩ := tl_last r; exact ⟨y ++ u, by simp [body, hu]⟩
theorem rParse_eq (n : List (List UInt8)) (s : List UInt8) : rParse n s = parse n s := by
  cases h : (parse n s).2
  · rw [parse_off h]
    unfold rParse
    split
    · rename_i hc
      split
      · rename_i ht
        exfalso
        have hf : fits n (mask n s n.length) = true := by simp [fits, hc.1, mask_lt n s n.length]
        have := parse_text hf
        rw [ht] at this
        rw [this] at h; cases h
      · rfl
    · rfl
  · have hp : parse n s = ((parse n s).1, true) := Prod.ext rfl h
    obtain ⟨hg, hf, ht⟩ := parse_back hp
    rw [hp]
    have hl : (parse n s).1 < 2 ^ n.length := by simp [fits] at hf; exact hf.2
    have hm := mask_text hf n.length (Nat.le_refl _)
    rw [ht, Nat.mod_eq_of_lt hl] at hm
    unfold rParse
    rw [if_pos, hm, if_pos ht]
    refine ⟨hg, ?_⟩
    rw [← ht, text_body hf]
    obtain ⟨u, hu⟩ := body_last (sel n (parse n s).1 0)
    rw [hu]
    refine ⟨by simp, by simp, ?_⟩
    rw [show (123 :: (u ++ [125])).length - 1 = u.length + 1 by simp]
    simp
end Go.Proofs.Ytpmjpnapokhkaaa
