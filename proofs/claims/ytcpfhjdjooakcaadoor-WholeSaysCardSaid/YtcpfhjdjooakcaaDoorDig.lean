/- The text of a number, and its reading, as plain functions. -/
import Derived.Test.YtcpfhjdjooakcaaDoorNum
import Derived.Test.YtcpfhjdjooakcaaDoorStr
import Derived.Lib.ParseIntBTie
import Derived.Lib.ItoaMem
import Derived.Lib.ItoaLen
import Derived.Lib.Strings
namespace Go.Proofs.YtcpfhjdjooakcaaDoor
open Go.RowKit
def isDig (c : UInt8) : Bool := !decide ((c.toNat : Int) < 48) && !decide (57 < (c.toNat : Int))
def digitsL (l : List UInt8) : Bool := l.all isDig && !l.isEmpty
theorem digitsL_bad {l : List UInt8} {k : Nat} (h : k < l.length) (hd : isDig l[k] = false) : digitsL l = false := by
  have : l.all isDig = false := by rw [List.all_eq_false]; exact ⟨l[k], List.getElem_mem _, by simp [hd]⟩
  simp [digitsL, this]
theorem digitsL_ok {l : List UInt8} (h : ∀ j (hj : j < l.length), isDig l[j] = true) : digitsL l = !l.isEmpty := by
  have : l.all isDig = true := by
    rw [List.all_eq_true]; intro x hx
    obtain ⟨j, hj, rfl⟩ := List.getElem_of_mem hx
    exact h j hj
  simp [digitsL, this]
theorem isDig_of {c : UInt8} (h : isDig c = true) : 48 ≤ c.toNat ∧ c.toNat ≤ 57 := by
  simp [isDig] at h; omega
/-- How a text reads as a number. -/
def numParse (l : List UInt8) : Int × Int :=
  if digitsL (Lib.trimPrefix l [45]) then (match Lib.parseIntB 64 l with | .ok v => (v, 0) | _ => (0, 3)) else (0, 2)

theorem dig_char {u : Nat} (h : u < 10) : (UInt8.ofNat (48 + u)).toNat = 48 + u := by
  simp [UInt8.toNat_ofNat']; omega
theorem dec_digits : ∀ u : Nat, (Lib.decDigits u).all isDig = true ∧ Lib.decDigits u ≠ []
  | u => by
    rw [Lib.decDigits]
    by_cases h : u < 10
    · rw [dif_pos h]
      refine ⟨?_, by simp⟩
      have := dig_char h
      simp only [List.all_cons, List.all_nil, Bool.and_true, isDig, this]
      simp; omega
    · rw [dif_neg h]
      have ih := dec_digits (u / 10)
      refine ⟨?_, by simp⟩
      have := dig_char (u := u % 10) (by omega)
      rw [List.all_append, ih.1]
      simp only [List.all_cons, List.all_nil, Bool.and_true, isDig, this, Bool.true_and]
      simp; omega
termination_by u => u
decreasing_by omega
theorem parse_dec : ∀ (u : Nat) (r : List UInt8), u < 18446744073709551616 → Lib.parseUint10 0 (Lib.decDigits u ++ r) = Lib.parseUint10 u r
  | u, r, hu => by
    rw [Lib.decDigits]
    by_cases h : u < 10
    · rw [dif_pos h]
      have := dig_char h
      simp only [List.cons_append, List.nil_append, Lib.parseUint10, this]
      rw [if_pos (by omega), if_neg (by omega), if_neg (by omega)]
      congr 1; omega
    · rw [dif_neg h, List.append_assoc, parse_dec (u / 10) _ (by omega)]
      have := dig_char (u := u % 10) (by omega)
      simp only [List.cons_append, List.nil_append, Lib.parseUint10, this]
      rw [if_pos (by omega), if_neg (by omega), if_neg (by omega)]
      congr 1; omega
termination_by u => u
decreasing_by omega
theorem mag_dec {u : Nat} (hu : u < 18446744073709551616) : Lib.parseMag (Lib.decDigits u) = .ok u := by
  unfold Lib.parseMag
  rw [if_neg (dec_digits u).2]
  have := parse_dec u [] hu
  rw [List.append_nil] at this
  rw [this]; rfl
theorem dec_head {u : Nat} : ∃ c r, Lib.decDigits u = c :: r ∧ 48 ≤ c.toNat ∧ c.toNat ≤ 57 := by
  obtain ⟨h1, h2⟩ := dec_digits u
  cases h : Lib.decDigits u with
  | nil => exact absurd h h2
  | cons c r =>
    rw [h] at h1
    simp only [List.all_cons, Bool.and_eq_true] at h1
    exact ⟨c, r, rfl, isDig_of h1.1⟩
theorem parse_itoa {n : Int} (hn : R n) : Lib.parseIntB 64 (Lib.itoa n) = .ok n := by
  rw [Lib.parseIntB_64]
  unfold R at hn
  unfold Lib.itoa
  by_cases h : n < 0
  · rw [if_pos h]
    simp only [Lib.atoiAll]
    have e : (45 : UInt8).toNat = 45 := rfl
    rw [if_pos (by simp [e]), mag_dec (by omega)]
    simp only [e]
    rw [if_neg (by simp), if_neg (by omega)]
    simp; omega
  · rw [if_neg h]
    obtain ⟨c, r, hc, h1, h2⟩ := @dec_head n.toNat
    have hm := mag_dec (u := n.toNat) (by omega)
    rw [hc] at hm ⊢
    simp only [Lib.atoiAll]
    rw [if_neg (by omega), hm]
    simp only []
    rw [if_neg (by omega), if_neg (by omega), if_neg (by omega)]
    congr 1; omega
theorem trim_itoa (n : Int) : digitsL (Lib.trimPrefix (Lib.itoa n) [45]) = true := by
  have dg : ∀ u, digitsL (Lib.decDigits u) = true := fun u => by
    obtain ⟨h1, h2⟩ := dec_digits u
    simp [digitsL, h1, h2]
  unfold Lib.itoa
  by_cases h : n < 0
  · rw [if_pos h]
    have : Lib.trimPrefix (45 :: Lib.decDigits n.natAbs) [45] = Lib.decDigits n.natAbs := by
      unfold Lib.trimPrefix
      rw [if_pos (by simp [Lib.hasPrefix])]; simp
    rw [this]; exact dg _
  · rw [if_neg h]
    have : Lib.trimPrefix (Lib.decDigits n.toNat) [45] = Lib.decDigits n.toNat := by
      obtain ⟨c, r, hc, h1, h2⟩ := @dec_head n.toNat
      unfold Lib.trimPrefix
      rw [if_neg]
      rw [hc]
      simp [Lib.hasPrefix]
      intro e; rw [← e] at h1; exact absurd h1 (by decide)
    rw [this]; exact dg _
theorem numParse_itoa {n : Int} (hn : R n) : numParse (Lib.itoa n) = (n, 0) := by
  unfold numParse
  rw [if_pos (trim_itoa n), parse_itoa hn]
theorem itoa_inj {a b : Int} (ha : R a) (hb : R b) (h : Lib.itoa a = Lib.itoa b) : a = b := by
  have h1 := parse_itoa ha
  rw [h, parse_itoa hb] at h1
  cases h1; rfl
theorem uint_ends : ∀ (l : List UInt8) (acc : Nat), l.all isDig = true → (∃ u, Lib.parseUint10 acc l = .ok u) ∨ Lib.parseUint10 acc l = .range
  | [], acc, _ => Or.inl ⟨acc, rfl⟩
  | c :: r, acc, h => by
    simp only [List.all_cons, Bool.and_eq_true] at h
    have hc := isDig_of h.1
    simp only [Lib.parseUint10]
    rw [if_pos hc]
    split
    · exact Or.inr rfl
    · split
      · exact Or.inr rfl
      · exact uint_ends r _ h.2
theorem mag_ends {l : List UInt8} (h : digitsL l = true) : (∃ u, Lib.parseMag l = .ok u) ∨ Lib.parseMag l = .range := by
  simp [digitsL] at h
  unfold Lib.parseMag
  rw [if_neg h.2]
  exact uint_ends l 0 (by simpa using h.1)
/-- A '-' or none, and digits alone: it ends in a number or in too great a one. -/
theorem parse_ends {l : List UInt8} (h : digitsL (Lib.trimPrefix l [45]) = true) : (∃ v, Lib.parseIntB 64 l = .ok v) ∨ Lib.parseIntB 64 l = .range := by
  rw [Lib.parseIntB_64]
  cases l with
  | nil => simp [Lib.trimPrefix, Lib.hasPrefix, digitsL] at h
  | cons c r =>
    have hm : (∃ u, Lib.parseMag (if c.toNat = 43 ∨ c.toNat = 45 then r else c :: r) = .ok u) ∨ Lib.parseMag (if c.toNat = 43 ∨ c.toNat = 45 then r else c :: r) = .range := by
      by_cases hc : c = 45
      · subst hc
        have e : Lib.trimPrefix (45 :: r) [45] = r := by
          unfold Lib.trimPrefix
          rw [if_pos (by simp [Lib.hasPrefix])]; simp
        rw [e] at h
        rw [if_pos (Or.inr (by decide))]
        exact mag_ends h
      · have e : Lib.trimPrefix (c :: r) [45] = c :: r := by
          unfold Lib.trimPrefix
          rw [if_neg]
          simp [Lib.hasPrefix]
          exact fun e => hc e.symm
        rw [e] at h
        have hd : isDig c = true := by simp [digitsL] at h; exact h.1
        have := isDig_of hd
        rw [if_neg (by omega)]
        exact mag_ends h
    simp only [Lib.atoiAll]
    rcases hm with ⟨u, hu⟩ | hu
    · rw [hu]; simp only []
      split
      · exact Or.inr rfl
      · split
        · exact Or.inr rfl
        · exact Or.inl ⟨_, rfl⟩
    · rw [hu]; exact Or.inr rfl
end Go.Proofs.YtcpfhjdjooakcaaDoor
