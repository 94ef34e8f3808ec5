/- The document's labels as plain functions on lists of bytes and numbers. -/
import Derived.Test.YtpmjpnapokhkaaaStr
import Derived.Shelf.Strings.OnBuilder
import Derived.Shelf.Small.Wraps
namespace Go.Proofs.Ytpmjpnapokhkaaa

def isSmall (c : UInt8) : Bool := decide (97 ≤ (c.toNat : Int)) && decide ((c.toNat : Int) ≤ 122)
def isDigit (c : UInt8) : Bool := decide (48 ≤ (c.toNat : Int)) && decide ((c.toNat : Int) ≤ 57)
def isWord (c : UInt8) : Bool := isSmall c || isDigit c || ((c.toNat : Int) == 95)
def goodName (l : List UInt8) : Bool := match l with
  | [] => false
  | a :: r => decide (l.length ≤ 16) && isSmall a && r.all isWord
theorem goodName_nil : goodName [] = false := rfl
theorem goodName_long (l : List UInt8) (h : 16 < l.length) : goodName l = false := by
  cases l with
  | nil => rfl
  | cons a r => simp [goodName] at h ⊢; omega
theorem goodName_head (l : List UInt8) (h : 0 < l.length) (hs : (!isSmall l[0]) = true) : goodName l = false := by
  cases l with
  | nil => rfl
  | cons a r => simp [goodName] at hs ⊢; simp [hs]
theorem goodName_bad (l : List UInt8) (k : Nat) (hk : 1 ≤ k) (h : k < l.length) (hw : isWord l[k] = false) : goodName l = false := by
  cases l with
  | nil => rfl
  | cons a r =>
    obtain ⟨k, rfl⟩ : ∃ j, k = j + 1 := ⟨k - 1, by omega⟩
    have : r.all isWord = false := by
      rw [List.all_eq_false]; exact ⟨r[k]'(by simpa using h), List.getElem_mem _, by simpa using hw⟩
    simp [goodName, this]
theorem goodName_ok (l : List UInt8) (h0 : 0 < l.length) (h1 : l.length ≤ 16) (hs : (!isSmall l[0]) = false) (hall : ∀ j (h : j < l.length), 1 ≤ j → isWord l[j] = true) : goodName l = true := by
  cases l with
  | nil => simp at h0
  | cons a r =>
    have : r.all isWord = true := by
      rw [List.all_eq_true]; intro x hx
      obtain ⟨j, hj, rfl⟩ := List.getElem_of_mem hx
      exact hall (j + 1) (by simpa using hj) (by omega)
    simp at hs
    simp [goodName, this, hs]; simpa using h1
theorem word_small {c : UInt8} (h : isSmall c = true) : isWord c = true := by unfold isWord; simp [h]
theorem word_digit {c : UInt8} (h : isDigit c = true) : isWord c = true := by unfold isWord; simp [h]
theorem word_bar {c : UInt8} (h : ((c.toNat : Int) != 95) = false) : isWord c = true := by unfold isWord; simp at h; simp [h]
theorem word_no {c : UInt8} (h : isSmall c = false) (h' : isDigit c = false) (h'' : ((c.toNat : Int) != 95) = true) : isWord c = false := by unfold isWord; simp at h''; simp [h, h', h'']

/-- The j-th name is good, and stands nowhere ahead of itself. -/
def okAt (n : List (List UInt8)) (j : Nat) : Bool := match n[j]? with | some x => goodName x && !(n.take j).contains x | none => true
def goodNames (n : List (List UInt8)) : Bool := decide (1 ≤ n.length) && decide (n.length ≤ 64) && (List.range n.length).all (okAt n)
theorem goodNames_bad {n : List (List UInt8)} {k : Nat} (hk : k < n.length) (h : okAt n k = false) : goodNames n = false := by
  have : (List.range n.length).all (okAt n) = false := by rw [List.all_eq_false]; exact ⟨k, by simpa using hk, by simp [h]⟩
  simp [goodNames, this]
theorem goodNames_none {n : List (List UInt8)} (h : n.length < 1) : goodNames n = false := by simp [goodNames]; omega
theorem goodNames_many {n : List (List UInt8)} (h : 64 < n.length) : goodNames n = false := by simp [goodNames]; omega
theorem goodNames_ok {n : List (List UInt8)} (h1 : 1 ≤ n.length) (h2 : n.length ≤ 64) (h : ∀ j, j < n.length → okAt n j = true) : goodNames n = true := by
  have : (List.range n.length).all (okAt n) = true := by rw [List.all_eq_true]; intro j hj; exact h j (by simpa using hj)
  simp [goodNames, this, h1, h2]
theorem goodNames_len {n : List (List UInt8)} (h : goodNames n = true) : 1 ≤ n.length ∧ n.length ≤ 64 := by simp [goodNames] at h; exact h.1
theorem goodNames_name {n : List (List UInt8)} (h : goodNames n = true) {x : List UInt8} (hx : x ∈ n) : goodName x = true := by
  obtain ⟨j, hj, rfl⟩ := List.getElem_of_mem hx
  simp [goodNames] at h
  have := h.2 j hj
  simp [okAt, hj] at this
  exact this.1
theorem goodName_len {x : List UInt8} (h : goodName x = true) : 1 ≤ x.length ∧ x.length ≤ 16 := by
  cases x with
  | nil => simp [goodName] at h
  | cons a r => simp [goodName] at h ⊢; omega
/-- The place of the first that is alike, or -1. -/
def idx (l : List (List UInt8)) (x : List UInt8) : Int := if l.contains x then (l.idxOf x : Int) else -1
theorem idx_hit {l : List (List UInt8)} {x : List UInt8} {k : Nat} (hk : l[k]? = some x) (h : ∀ (j : Nat) (y : List UInt8), j < k → l[j]? = some y → y ≠ x) : idx l x = k := by
  have hm : x ∈ l := List.mem_of_getElem? hk
  obtain ⟨hlt, he⟩ := List.getElem?_eq_some_iff.1 hk
  have h1 : l.idxOf x < l.length := List.idxOf_lt_length_of_mem hm
  have h2 : l[l.idxOf x] = x := List.getElem_idxOf h1
  have : l.idxOf x = k := by
    rcases Nat.lt_trichotomy (l.idxOf x) k with g | g | g
    · exact absurd h2 (h _ _ g (List.getElem?_eq_getElem h1))
    · exact g
    · have := List.not_of_lt_findIdx (p := (· == x)) (xs := l) (i := k) (by simpa [List.idxOf] using g)
      simp [he] at this
  simp [idx, hm, this]
theorem idx_miss {l : List (List UInt8)} {x : List UInt8} (h : ∀ (j : Nat) (y : List UInt8), l[j]? = some y → y ≠ x) : idx l x = -1 := by
  have hm : x ∉ l := fun hm => by
    obtain ⟨j, hj⟩ := List.getElem?_of_mem hm
    exact h j x hj rfl
  simp [idx, hm]
theorem idx_contains (l : List (List UInt8)) (x : List UInt8) : decide (0 ≤ idx l x) = l.contains x := by
  unfold idx; cases h : l.contains x <;> simp
theorem idx_ge (l : List (List UInt8)) (x : List UInt8) : -1 ≤ idx l x := by
  unfold idx; split <;> omega

/-! Labels as numbers. -/
def leq (a b : Nat) : Bool := a &&& b == a
theorem wrap_pow {i : Nat} (h : i < 64) : IntKind.u64.wrap ((2 : Int) ^ i) = ((2 ^ i : Nat) : Int) := by
  rw [IntKind.wrap_u64]
  have h1 : (2 : Nat) ^ i < 18446744073709551616 := by
    rw [show (18446744073709551616 : Nat) = 2 ^ 64 from by decide]; exact Nat.pow_lt_pow_right (by decide) h
  have h2 : ((2 : Int) ^ i) = ((2 ^ i : Nat) : Int) := by simp
  rw [h2]; generalize 2 ^ i = q at h1; omega
theorem wrap_pow_all : IntKind.u64.wrap ((2 : Int) ^ 64) = 0 := by rw [IntKind.wrap_u64]; decide
theorem first_eq {k : Nat} (h : k ≤ 64) : IntKind.u64.wrap (IntKind.u64.wrap ((2 : Int) ^ k) - 1) = ((2 ^ k - 1 : Nat) : Int) := by
  by_cases e : k = 64
  · subst e; rw [wrap_pow_all, IntKind.wrap_u64]; decide
  · rw [wrap_pow (by omega), IntKind.wrap_u64]
    have h1 : (2 : Nat) ^ k < 18446744073709551616 := by
      rw [show (18446744073709551616 : Nat) = 2 ^ 64 from by decide]; exact Nat.pow_lt_pow_right (by decide) (by omega)
    have h2 : 1 ≤ (2 : Nat) ^ k := Nat.one_le_two_pow
    generalize 2 ^ k = q at h1 h2; omega
theorem pow_lt {k : Nat} (h : k ≤ 64) : 2 ^ k - 1 < 18446744073709551616 := by
  have : (2 : Nat) ^ k ≤ 2 ^ 64 := Nat.pow_le_pow_right (by decide) h
  have h2 : 1 ≤ (2 : Nat) ^ k := Nat.one_le_two_pow
  have h3 : (2 : Nat) ^ 64 = 18446744073709551616 := by decide
  omega
theorem has_eq {l i : Nat} (hl : l < 18446744073709551616) (hi : i < 64) : (bits .and .u64 (l : Int) (IntKind.u64.wrap ((2 : Int) ^ i)) != 0) = l.testBit i := by
  have h1 : (2 : Nat) ^ i < 18446744073709551616 := by
    rw [show (18446744073709551616 : Nat) = 2 ^ 64 from by decide]; exact Nat.pow_lt_pow_right (by decide) hi
  rw [wrap_pow hi, u64_and_nat l (2 ^ i) hl h1]
  rw [nat_bit, Nat.testBit_eq_decide_div_mod_eq]
  have h2 : 1 ≤ (2 : Nat) ^ i := Nat.one_le_two_pow
  rcases (show l / 2 ^ i % 2 = 0 ∨ l / 2 ^ i % 2 = 1 by omega) with e | e
  · rw [e]; simp
  · rw [e, Nat.one_mul]
    generalize 2 ^ i = q at h2
    simp [bne_iff_ne]; omega
theorem compl_bit {b i : Nat} (hb : b < 18446744073709551616) : (18446744073709551615 - b).testBit i = (decide (i < 64) && !b.testBit i) := by
  rw [show (18446744073709551615 - b : Nat) = 2 ^ 64 - (b + 1) from by rw [show (2 : Nat) ^ 64 = 18446744073709551616 from by decide]; omega]
  exact Nat.testBit_two_pow_sub_succ (by rw [show (2 : Nat) ^ 64 = 18446744073709551616 from by decide]; exact hb) i
theorem leq_iff {a b : Nat} : leq a b = true ↔ ∀ i, a.testBit i = true → b.testBit i = true := by
  unfold leq
  rw [beq_iff_eq]
  constructor
  · intro h i hi
    have := congrArg (fun n => Nat.testBit n i) h
    simp [Nat.testBit_and, hi] at this
    exact this
  · intro h
    apply Nat.eq_of_testBit_eq
    intro i
    rw [Nat.testBit_and]
    cases hi : a.testBit i
    · rfl
    · simp [h i hi]
theorem leq_eq {a b : Nat} (ha : a < 18446744073709551616) (hb : b < 18446744073709551616) : (bits .andNot .u64 (a : Int) (b : Int) == 0) = leq a b := by
  rw [u64_andNot_nat a b ha hb, Bool.eq_iff_iff, leq_iff]
  simp only [beq_iff_eq]
  constructor
  · intro h i hi
    have h' : a &&& (18446744073709551615 - b) = 0 := by exact_mod_cast h
    have := congrArg (fun n => Nat.testBit n i) h'
    have hi64 : i < 64 := by
      by_cases g : i < 64
      · exact g
      · have : a.testBit i = false := Nat.testBit_lt_two_pow (Nat.lt_of_lt_of_le ha (by rw [show (18446744073709551616 : Nat) = 2 ^ 64 from by decide]; exact Nat.pow_le_pow_right (by decide) (by omega)))
        rw [this] at hi; cases hi
    simp [Nat.testBit_and, compl_bit hb, hi, hi64] at this
    exact this
  · intro h
    have : a &&& (18446744073709551615 - b) = 0 := by
      apply Nat.eq_of_testBit_eq
      intro i
      rw [Nat.testBit_and, compl_bit hb]
      cases hi : a.testBit i
      · simp
      · simp [h i hi]
    exact_mod_cast this
theorem leq_pow {l k : Nat} : leq l (2 ^ k - 1) = decide (l < 2 ^ k) := by
  unfold leq
  rw [Nat.and_two_pow_sub_one_eq_mod, Bool.eq_iff_iff]
  simp only [beq_iff_eq, decide_eq_true_eq]
  have h : 1 ≤ (2 : Nat) ^ k := Nat.one_le_two_pow
  constructor
  · intro h'; have := Nat.mod_lt l (show 0 < 2 ^ k by omega); omega
  · intro h'; exact Nat.mod_eq_of_lt h'

def fits (n : List (List UInt8)) (l : Nat) : Bool := goodNames n && decide (l < 2 ^ n.length)
/-- The names that l has, the first of them the i-th. -/
def sel : List (List UInt8) → Nat → Nat → List (List UInt8)
  | [], _, _ => []
  | a :: r, l, i => if l.testBit i then a :: sel r l (i + 1) else sel r l (i + 1)
def text (n : List (List UInt8)) (l : Nat) : List UInt8 := if fits n l then 123 :: (Lib.join (sel n l 0) [44] ++ [125]) else []
/-- A whole name off a text's front. -/
def cut (s name : List UInt8) (foremost : Bool) : List UInt8 × Bool :=
  let p := if foremost then name else 44 :: name
  let rest := Lib.trimPrefix s p
  if Lib.hasPrefix s p && (rest.head? == some 44 || rest.head? == some 125) then (rest, true) else (s, false)
def parseFrom : List (List UInt8) → Nat → List UInt8 → Nat → List UInt8 × Nat
  | [], _, rest, l => (rest, l)
  | a :: r, i, rest, l => if (cut rest a (l == 0)).2 then parseFrom r (i + 1) (cut rest a (l == 0)).1 (l ||| 2 ^ i) else parseFrom r (i + 1) rest l
def parse (n : List (List UInt8)) (s : List UInt8) : Nat × Bool :=
  if Lib.hasPrefix s [123] && goodNames n then
    if (parseFrom n 0 (Lib.trimPrefix s [123]) 0).1 == [125] then ((parseFrom n 0 (Lib.trimPrefix s [123]) 0).2, true) else (0, false)
  else (0, false)
def top (n : List (List UInt8)) : Nat := if goodNames n then 2 ^ n.length - 1 else 0
end Go.Proofs.Ytpmjpnapokhkaaa
