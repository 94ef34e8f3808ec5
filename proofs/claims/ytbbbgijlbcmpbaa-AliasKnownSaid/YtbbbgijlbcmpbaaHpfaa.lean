import Derived.Lib.Hide
import Derived.WalkKit
import Derived.WalkSpells
import Derived.WalkLawsBesides
import Derived.ProofKit
import Derived.OpenShut
import Derived.SizedLaws
import Derived.SliceStrings
import Derived.Carry
import Derived.Stop.Joined
import Derived.Maps.AppendAt
import Derived.Laws.CopyOwn
import Derived.Laws.CopyRow
import Derived.Laws.Pointers
import Derived.Deep.OwnRows
import Derived.Deep.QuietTactic
import Derived.BigQuiet
import Derived.OwnWalk
import Derived.Deep.Upon
import Derived.Deep.AppendSrc
import Derived.Test.YtbbbgijlbcmpbaaRows
import Derived.Deep.Slices
import Derived.Laws.ResultCell
import Derived.Deep.RegionHeld3
set_option linter.unusedVariables false
set_option linter.unusedSimpArgs false
/- Terms as trees, as chapter 7 says them. Nothing here is walked. -/
namespace Go.Proofs.Ytbbbgijlbcmpbaa

inductive Tm where
  | mk (k n : Int) (s : ByteArray) (ts : List Tm)
namespace Tm
def k : Tm → Int | mk k _ _ _ => k
def n : Tm → Int | mk _ n _ _ => n
def s : Tm → ByteArray | mk _ _ s _ => s
def args : Tm → List Tm | mk _ _ _ ts => ts
end Tm
mutual
/-- How many terms it is made of. -/
def sizeN : Tm → Nat
  | .mk _ _ _ ts => sizesN ts + 1
def sizesN : List Tm → Nat
  | [] => 0
  | x :: r => sizeN x + sizesN r
end
mutual
def depthN : Tm → Nat
  | .mk _ _ _ ts => depthsN ts + 1
def depthsN : List Tm → Nat
  | [] => 0
  | x :: r => max (depthN x) (depthsN r)
end
def letterB (c : UInt8) : Bool := c == 9 || c == 10 || (decide (32 ≤ c) && decide (c ≤ 126))
/-- What a term's own fields may be. -/
def plainT (k n : Int) (s : List UInt8) (m : Nat) : Bool :=
  if k = 0 then decide (0 ≤ n) && decide (n < 2147483648) && s.isEmpty && decide (m = 0)
  else if k = 1 then s.isEmpty && decide (m = 0)
  else if k = 2 then decide (n = 0) && decide (s.length ≤ 64) && decide (m ≤ 8) && s.all letterB
  else false
mutual
def formedT : Tm → Bool
  | .mk k n s ts => plainT k n s.data.toList ts.length && formedL ts
def formedL : List Tm → Bool
  | [] => true
  | x :: r => formedT x && formedL r
end
def goodT (t : Tm) : Bool := decide (sizeN t ≤ 2000) && decide (depthN t ≤ 64) && formedT t
mutual
/-- The variables' numbers behind those of 'l', each once. -/
def varsT : Tm → List Int → List Int
  | .mk k n _ ts, l => if k = 0 then (if l.contains n then l else l ++ [n]) else varsL ts l
def varsL : List Tm → List Int → List Int
  | [], l => l
  | x :: r, l => varsL r (varsT x l)
end
mutual
def sameT : Tm → Tm → Bool
  | .mk k n s ts, .mk k' n' s' ts' => k == k' && n == n' && s.data.toList == s'.data.toList && sameL ts ts'
def sameL : List Tm → List Tm → Bool
  | [], [] => true
  | x :: r, y :: q => sameT x y && sameL r q
  | _, _ => false
end
theorem size_pos (t : Tm) : 1 ≤ sizeN t := by cases t; rw [sizeN]; omega
theorem depth_pos (t : Tm) : 1 ≤ depthN t := by cases t; rw [depthN]; omega
theorem sizes_mem : ∀ {l : List Tm} {x : Tm}, x ∈ l → sizeN x ≤ sizesN l
  | y :: r, x, h => by
    rw [sizesN]
    rcases List.mem_cons.1 h with rfl | h
    · omega
    · have := sizes_mem h; omega
theorem depths_mem : ∀ {l : List Tm} {x : Tm}, x ∈ l → depthN x ≤ depthsN l
  | y :: r, x, h => by
    rw [depthsN]
    rcases List.mem_cons.1 h with rfl | h
    · omega
    · have := depths_mem h; omega
theorem formed_mem : ∀ {l : List Tm} {x : Tm}, formedL l = true → x ∈ l → formedT x = true
  | y :: r, x, hf, h => by
    rw [formedL, Bool.and_eq_true] at hf
    rcases List.mem_cons.1 h with rfl | h
    · exact hf.1
    · exact formed_mem hf.2 h
theorem good_parts {t : Tm} (h : goodT t = true) : sizeN t ≤ 2000 ∧ depthN t ≤ 64 ∧ formedT t = true := by
  unfold goodT at h
  simp only [Bool.and_eq_true, decide_eq_true_eq] at h
  exact ⟨h.1.1, h.1.2, h.2⟩
theorem good_of {t : Tm} (h1 : sizeN t ≤ 2000) (h2 : depthN t ≤ 64) (h3 : formedT t = true) : goodT t = true := by
  unfold goodT
  simp [h1, h2, h3]
/-- An Arg of a good one is good. -/
theorem good_arg {t x : Tm} (h : goodT t = true) (hx : x ∈ t.args) : goodT x = true := by
  obtain ⟨h1, h2, h3⟩ := good_parts h
  cases t with
  | mk k n s ts =>
    have hx' : x ∈ ts := hx
    rw [sizeN] at h1
    rw [depthN] at h2
    rw [formedT, Bool.and_eq_true] at h3
    have a := sizes_mem hx'
    have b := depths_mem hx'
    exact good_of (by omega) (by omega) (formed_mem h3.2 hx')
theorem bytes_eq {s t : ByteArray} (h : s.data.toList = t.data.toList) : s = t := by
  obtain ⟨⟨l⟩⟩ := s; obtain ⟨⟨m⟩⟩ := t; simp at h; rw [h]
mutual
theorem same_iff : ∀ (a b : Tm), sameT a b = true ↔ a = b
  | .mk k n s ts, .mk k' n' s' ts' => by
    rw [sameT]
    simp only [Bool.and_eq_true, beq_iff_eq, Tm.mk.injEq]
    rw [sames_iff ts ts']
    constructor
    · rintro ⟨⟨⟨h1, h2⟩, h3⟩, h4⟩; exact ⟨h1, h2, bytes_eq h3, h4⟩
    · rintro ⟨h1, h2, h3, h4⟩; exact ⟨⟨⟨h1, h2⟩, by rw [h3]⟩, h4⟩
theorem sames_iff : ∀ (a b : List Tm), sameL a b = true ↔ a = b
  | [], [] => by simp [sameL]
  | x :: r, y :: q => by
    rw [sameL]
    simp only [Bool.and_eq_true, List.cons.injEq]
    rw [same_iff x y, sames_iff r q]
  | [], y :: q => by simp [sameL]
  | x :: r, [] => by simp [sameL]
end
theorem same_self (a : Tm) : sameT a a = true := (same_iff a a).2 rfl
end Go.Proofs.Ytbbbgijlbcmpbaa
/- What stands for what, as chapter 11 says it: all the way in at once. Nothing here is walked. -/
namespace Go.Proofs.Ytbbbgijlbcmpbaa

def varV (n : Int) : Tm := .mk 0 n ⟨#[]⟩ []
mutual
/-- A term with all that its variables stand for. -/
def subT (S : Int → Tm) : Tm → Tm
  | .mk k n s ts => if k = 0 then S n else .mk k n s (subL S ts)
def subL (S : Int → Tm) : List Tm → List Tm
  | [] => []
  | x :: r => subT S x :: subL S r
end
mutual
/-- The numbers of its variables, each as often as it stands there. -/
def occT : Tm → List Int
  | .mk k n _ ts => if k = 0 then [n] else occL ts
def occL : List Tm → List Int
  | [] => []
  | x :: r => occT x ++ occL r
end
theorem subL_map (S : Int → Tm) : ∀ ts, subL S ts = ts.map (subT S)
  | [] => rfl
  | x :: r => by rw [subL, subL_map S r]; rfl
theorem subL_len (S : Int → Tm) (ts : List Tm) : (subL S ts).length = ts.length := by rw [subL_map, List.length_map]
theorem mem_occL {m : Int} : ∀ {ts : List Tm}, m ∈ occL ts ↔ ∃ x ∈ ts, m ∈ occT x
  | [] => by simp [occL]
  | x :: r => by rw [occL, List.mem_append, mem_occL (ts := r)]; simp
theorem sub_var (S : Int → Tm) (n : Int) (s : ByteArray) (ts : List Tm) : subT S (.mk 0 n s ts) = S n := by rw [subT, if_pos rfl]
theorem sub_not (S : Int → Tm) {k : Int} (h : ¬ k = 0) (n : Int) (s : ByteArray) (ts : List Tm) : subT S (.mk k n s ts) = .mk k n s (subL S ts) := by rw [subT, if_neg h]
theorem occ_var (n : Int) (s : ByteArray) (ts : List Tm) : occT (.mk 0 n s ts) = [n] := by rw [occT, if_pos rfl]
theorem occ_not {k : Int} (h : ¬ k = 0) (n : Int) (s : ByteArray) (ts : List Tm) : occT (.mk k n s ts) = occL ts := by rw [occT, if_neg h]
mutual
theorem sub_sub (A B : Int → Tm) : ∀ t : Tm, subT A (subT B t) = subT (fun m => subT A (B m)) t
  | .mk k n s ts => by
    by_cases h : k = 0
    · subst h; rw [sub_var, sub_var]
    · rw [sub_not _ h, sub_not _ h, sub_not _ h, subs_sub A B ts]
theorem subs_sub (A B : Int → Tm) : ∀ ts : List Tm, subL A (subL B ts) = subL (fun m => subT A (B m)) ts
  | [] => rfl
  | x :: r => by rw [subL, subL, subL, sub_sub A B x, subs_sub A B r]
end
mutual
theorem sub_congr {A B : Int → Tm} : ∀ t : Tm, (∀ m ∈ occT t, A m = B m) → subT A t = subT B t
  | .mk k n s ts, h => by
    by_cases hk : k = 0
    · subst hk; rw [sub_var, sub_var]; exact h n (by rw [occ_var]; simp)
    · rw [sub_not _ hk, sub_not _ hk, subs_congr ts (fun m hm => h m (by rw [occ_not hk]; exact hm))]
theorem subs_congr {A B : Int → Tm} : ∀ ts : List Tm, (∀ m ∈ occL ts, A m = B m) → subL A ts = subL B ts
  | [], _ => rfl
  | x :: r, h => by rw [subL, subL, sub_congr x (fun m hm => h m (by rw [occL]; simp [hm])), subs_congr r (fun m hm => h m (by rw [occL]; simp [hm]))]
end
theorem formed_var {n : Int} {s : ByteArray} {ts : List Tm} (h : formedT (.mk 0 n s ts) = true) : Tm.mk 0 n s ts = varV n ∧ 0 ≤ n ∧ n < 2147483648 := by
  rw [formedT, Bool.and_eq_true] at h
  have h1 := h.1
  unfold plainT at h1
  rw [if_pos rfl] at h1
  simp only [Bool.and_eq_true, decide_eq_true_eq, List.isEmpty_iff] at h1
  refine ⟨?_, h1.1.1.1, h1.1.1.2⟩
  have hs : s = ⟨#[]⟩ := bytes_eq (by rw [h1.1.2])
  have ht : ts = [] := List.length_eq_zero_iff.1 h1.2
  rw [hs, ht]; rfl
theorem var_formed {n : Int} (h0 : 0 ≤ n) (h1 : n < 2147483648) : formedT (varV n) = true := by
  unfold varV
  rw [formedT, formedL]
  simp [plainT, h0, h1]
theorem sub_varV (S : Int → Tm) (n : Int) : subT S (varV n) = S n := by unfold varV; rw [sub_var]
mutual
theorem sub_id {A : Int → Tm} : ∀ t : Tm, formedT t = true → (∀ m ∈ occT t, A m = varV m) → subT A t = t
  | .mk k n s ts, hf, h => by
    by_cases hk : k = 0
    · subst hk
      rw [sub_var, h n (by rw [occ_var]; simp)]
      exact (formed_var hf).1.symm
    · rw [formedT, Bool.and_eq_true] at hf
      rw [sub_not _ hk, subs_id ts hf.2 (fun m hm => h m (by rw [occ_not hk]; exact hm))]
theorem subs_id {A : Int → Tm} : ∀ ts : List Tm, formedL ts = true → (∀ m ∈ occL ts, A m = varV m) → subL A ts = ts
  | [], _, _ => rfl
  | x :: r, hf, h => by
    rw [formedL, Bool.and_eq_true] at hf
    rw [subL, sub_id x hf.1 (fun m hm => h m (by rw [occL]; simp [hm])), subs_id r hf.2 (fun m hm => h m (by rw [occL]; simp [hm]))]
end
mutual
theorem formed_sub {A : Int → Tm} : ∀ t : Tm, formedT t = true → (∀ m ∈ occT t, formedT (A m) = true) → formedT (subT A t) = true
  | .mk k n s ts, hf, h => by
    by_cases hk : k = 0
    · subst hk; rw [sub_var]; exact h n (by rw [occ_var]; simp)
    · rw [formedT, Bool.and_eq_true] at hf
      rw [sub_not _ hk, formedT, Bool.and_eq_true, subL_len]
      exact ⟨hf.1, formeds_sub ts hf.2 (fun m hm => h m (by rw [occ_not hk]; exact hm))⟩
theorem formeds_sub {A : Int → Tm} : ∀ ts : List Tm, formedL ts = true → (∀ m ∈ occL ts, formedT (A m) = true) → formedL (subL A ts) = true
  | [], _, _ => rfl
  | x :: r, hf, h => by
    rw [formedL, Bool.and_eq_true] at hf
    rw [subL, formedL, Bool.and_eq_true]
    exact ⟨formed_sub x hf.1 (fun m hm => h m (by rw [occL]; simp [hm])), formeds_sub r hf.2 (fun m hm => h m (by rw [occL]; simp [hm]))⟩
end
/-- What a variable stands for at once, if it does. -/
def getB (R : List (Int × Tm)) (m : Int) : Option Tm := (R.find? fun p => p.1 == m).map (·.2)
theorem get_cons (R : List (Int × Tm)) (n m : Int) (t : Tm) : getB ((n, t) :: R) m = if n = m then some t else getB R m := by
  unfold getB
  rw [List.find?_cons]
  by_cases h : n = m
  · rw [if_pos h]; simp [h]
  · rw [if_neg h]
    have : (n == m) = false := by simpa using h
    simp only [this]
end Go.Proofs.Ytbbbgijlbcmpbaa
/- Has, as chapter 11 says it, over terms that are made whole; a search that keeps a pile and knows what it has seen; what reaches what. Nothing here is walked. -/
namespace Go.Proofs.Ytbbbgijlbcmpbaa

/-- How much is still to be gone into. -/
def left (seen : List Int) : List (Int × Tm) → Nat
  | [] => 0
  | p :: R => (if p.1 ∈ seen then 0 else (occT p.2).length + 2) + left seen R
end Go.Proofs.Ytbbbgijlbcmpbaa
/- Making alike, either way round; terms that are alike but for names. Nothing here is walked. -/
namespace Go.Proofs.Ytbbbgijlbcmpbaa

/-- Where a number stands first. -/
def posI : List Int → Int → Nat
  | [], _ => 0
  | x :: r, m => if x = m then 0 else posI r m + 1
/-- Its variables, numbered by where they first stand. -/
def renV (l : List Int) (base : Int) : Int → Tm := fun m => varV (base + (posI l m : Int))
def renT (base : Int) (t : Tm) : Tm := subT (renV (varsT t []) base) t
theorem posI_map {a : Int → Int} {m : Int} : ∀ l : List Int, (∀ x ∈ l, a x = a m → x = m) → posI (l.map a) (a m) = posI l m
  | [], _ => rfl
  | x :: r, h => by
    rw [List.map_cons, posI, posI, posI_map r fun y hy => h y (by simp [hy])]
    by_cases e : x = m
    · rw [if_pos e, if_pos (by rw [e])]
    · rw [if_neg e, if_neg (fun q => e (h x (by simp) q))]
theorem contains_map {a : Int → Int} {l : List Int} {m : Int} (h : ∀ x ∈ l, a x = a m → x = m) : (l.map a).contains (a m) = l.contains m := by
  rw [Bool.eq_iff_iff]
  simp only [List.contains_iff_mem, List.mem_map]
  constructor
  · rintro ⟨x, hx, e⟩
    rw [← h x hx e]; exact hx
  · intro hm
    exact ⟨m, hm, rfl⟩
mutual
theorem vars_map {a : Int → Int} {D : Int → Prop} (inj : ∀ x y, D x → D y → a x = a y → x = y) : ∀ (t : Tm) (l : List Int), (∀ m ∈ occT t, D m) → (∀ m ∈ l, D m) → varsT (subT (fun m => varV (a m)) t) (l.map a) = (varsT t l).map a ∧ ∀ m ∈ varsT t l, D m
  | .mk k n s ts, l, ht, hl => by
    by_cases hk : k = 0
    · subst hk
      have hn := ht n (by rw [occ_var]; simp)
      rw [sub_var]
      unfold varV
      rw [varsT, varsT, if_pos rfl, if_pos rfl, contains_map fun x hx e => inj x n (hl x hx) hn e]
      by_cases hc : l.contains n = true
      · rw [if_pos hc, if_pos hc]; exact ⟨rfl, hl⟩
      · rw [if_neg hc, if_neg hc]
        refine ⟨by simp, fun m hm => ?_⟩
        rcases List.mem_append.1 hm with hm | hm
        · exact hl m hm
        · simp at hm; subst hm; exact hn
    · rw [sub_not _ hk, varsT, varsT, if_neg hk, if_neg hk]
      rw [occ_not hk] at ht
      exact varss_map inj ts l ht hl
theorem varss_map {a : Int → Int} {D : Int → Prop} (inj : ∀ x y, D x → D y → a x = a y → x = y) : ∀ (ts : List Tm) (l : List Int), (∀ m ∈ occL ts, D m) → (∀ m ∈ l, D m) → varsL (subL (fun m => varV (a m)) ts) (l.map a) = (varsL ts l).map a ∧ ∀ m ∈ varsL ts l, D m
  | [], l, _, hl => by rw [subL, varsL, varsL]; exact ⟨rfl, hl⟩
  | x :: r, l, ht, hl => by
    rw [occL] at ht
    obtain ⟨h1, h2⟩   := vars_map inj x l (fun m hm => ht m (by simp [hm])) hl
    obtain ⟨h3, h4⟩   := varss_map inj r (varsT x l) (fun m hm => ht m (by simp [hm])) h2
    rw [subL, varsL, varsL, h1]
    exact ⟨h3, h4⟩
end
mutual
theorem mem_vars2 {n : Int} : ∀ (t : Tm) (l : List Int), n ∈ varsT t l ↔ n ∈ l ∨ n ∈ occT t
  | .mk k m s ts, l => by
    rw [varsT, occT]
    by_cases hk : k = 0
    · rw [if_pos hk, if_pos hk]
      by_cases hm : l.contains m = true
      · rw [if_pos hm]
        have hm' : m ∈ l := by simpa using hm
        constructor
        · exact Or.inl
        · rintro (h | h)
          · exact h
          · simp at h; subst h; exact hm'
      · rw [if_neg hm]
        simp
    · rw [if_neg hk, if_neg hk]
      exact mem_varss2 ts l
theorem mem_varss2 {n : Int} : ∀ (ts : List Tm) (l : List Int), n ∈ varsL ts l ↔ n ∈ l ∨ n ∈ occL ts
  | [], l => by simp [varsL, occL]
  | x :: r, l => by
    rw [varsL, occL, mem_varss2 r, mem_vars2 x, List.mem_append, or_assoc]
end
mutual
theorem back_var {A B : Int → Tm} : ∀ t : Tm, formedT t = true → subT B (subT A t) = t → ∀ m ∈ occT t, subT B (A m) = varV m
  | .mk k n s ts, hf, h, m, hm => by
    by_cases hk : k = 0
    · subst hk
      rw [occ_var] at hm
      simp at hm
      subst hm
      rw [sub_var] at h
      rw [h]
      exact (formed_var hf).1
    · rw [occ_not hk] at hm
      rw [sub_not _ hk, sub_not _ hk] at h
      injection h with _ _ _ h
      rw [formedT, Bool.and_eq_true] at hf
      exact backs_var ts hf.2 h m hm
theorem backs_var {A B : Int → Tm} : ∀ ts : List Tm, formedL ts = true → subL B (subL A ts) = ts → ∀ m ∈ occL ts, subT B (A m) = varV m
  | [], hf, h, m, hm => by simp [occL] at hm
  | x :: r, hf, h, m, hm => by
    rw [formedL, Bool.and_eq_true] at hf
    rw [subL, subL] at h
    injection h with h1 h2
    rw [occL, List.mem_append] at hm
    rcases hm with hm | hm
    · exact back_var x hf.1 h1 m hm
    · exact backs_var r hf.2 h2 m hm
end
mutual
theorem sub_formed_at {A : Int → Tm} : ∀ t : Tm, formedT (subT A t) = true → ∀ m ∈ occT t, formedT (A m) = true
  | .mk k n s ts, hf, m, hm => by
    by_cases hk : k = 0
    · subst hk
      rw [occ_var] at hm
      simp at hm
      subst hm
      rw [sub_var] at hf
      exact hf
    · rw [occ_not hk] at hm
      rw [sub_not _ hk, formedT, Bool.and_eq_true] at hf
      exact subs_formed_at ts hf.2 m hm
theorem subs_formed_at {A : Int → Tm} : ∀ ts : List Tm, formedL (subL A ts) = true → ∀ m ∈ occL ts, formedT (A m) = true
  | [], hf, m, hm => by simp [occL] at hm
  | x :: r, hf, m, hm => by
    rw [subL, formedL, Bool.and_eq_true] at hf
    rw [occL, List.mem_append] at hm
    rcases hm with hm | hm
    · exact sub_formed_at x hf.1 m hm
    · exact subs_formed_at r hf.2 m hm
end
mutual
theorem size_same {A : Int → Tm} : ∀ t : Tm, formedT t = true → (∀ m ∈ occT t, ∃ j, A m = varV j) → sizeN (subT A t) = sizeN t ∧ depthN (subT A t) = depthN t
  | .mk k n s ts, hf, h => by
    by_cases hk : k = 0
    · subst hk
      obtain ⟨j, hj⟩ := h n (by rw [occ_var]; simp)
      rw [sub_var, hj, (formed_var hf).1]
      unfold varV
      rw [sizeN, sizeN, depthN, depthN]
      exact ⟨rfl, rfl⟩
    · rw [formedT, Bool.and_eq_true] at hf
      rw [occ_not hk] at h
      obtain ⟨e1, e2⟩ := sizes_same ts hf.2 h
      rw [sub_not _ hk, sizeN, sizeN, depthN, depthN, e1, e2]
      exact ⟨rfl, rfl⟩
theorem sizes_same {A : Int → Tm} : ∀ ts : List Tm, formedL ts = true → (∀ m ∈ occL ts, ∃ j, A m = varV j) → sizesN (subL A ts) = sizesN ts ∧ depthsN (subL A ts) = depthsN ts
  | [], _, _ => by rw [subL]; exact ⟨rfl, rfl⟩
  | x :: r, hf, h => by
    rw [formedL, Bool.and_eq_true] at hf
    rw [occL] at h
    obtain ⟨e1, e2⟩ := size_same x hf.1 fun m hm => h m (by simp [hm])
    obtain ⟨e3, e4⟩ := sizes_same r hf.2 fun m hm => h m (by simp [hm])
    rw [subL, sizesN, sizesN, depthsN, depthsN, e1, e2, e3, e4]
    exact ⟨rfl, rfl⟩
end
/-- Each made of the other: alike but for names. -/
theorem variants {A B : Int → Tm} {s u : Tm} (hs : formedT s = true) (hu : formedT u = true) (h1 : subT A s = u) (h2 : subT B u = s) : renT 0 s = renT 0 u ∧ goodT s = goodT u := by
  have hb := back_var (A := A) (B := B) s hs (by rw [h1, h2])
  have hf := sub_formed_at (A := A) s (by rw [h1]; exact hu)
  have hA : ∀ m ∈ occT s, A m = varV (A m).n ∧ B (A m).n = varV m := fun m hm => by
    have e := hb m hm
    have f := hf m hm
    generalize A m = z at *
    obtain ⟨k, n, s', ts⟩ := z
    by_cases hk : k = 0
    · subst hk
      rw [sub_var] at e
      exact ⟨(formed_var f).1, e⟩
    · rw [sub_not _ hk] at e
      unfold varV at e
      injection e with e
      exact absurd e hk
  have hu' : u = subT (fun m => varV (A m).n) s := by rw [← h1]; exact sub_congr s fun m hm => (hA m hm).1
  have hinj : ∀ x y, x ∈ occT s → y ∈ occT s → (A x).n = (A y).n → x = y := fun x y hx hy e => by
    have e1 := (hA x hx).2
    rw [e, (hA y hy).2] at e1
    unfold varV at e1
    injection e1 with _ e2
    exact e2.symm
  have hv := vars_map (a := fun m => (A m).n) (D := fun m => m ∈ occT s) hinj s [] (fun m hm => hm) (fun m hm => by cases hm)
  have hv1 : varsT u [] = (varsT s []).map fun m => (A m).n := by rw [hu']; exact hv.1
  constructor
  · unfold renT
    rw [hv1]
    conv => rhs; rw [hu', sub_sub]
    refine sub_congr s fun m hm => ?_
    rw [sub_varV]
    unfold renV
    rw [posI_map (a := fun m => (A m).n) (m := m) _ fun x hx e => hinj x m (hv.2 x hx) hm e]
  · obtain ⟨e1, e2⟩ := size_same (A := A) s hs fun m hm => ⟨_, (hA m hm).1⟩
    rw [h1] at e1 e2
    unfold goodT
    rw [e1, e2, hs, hu]
end Go.Proofs.Ytbbbgijlbcmpbaa
/- Small facts of ours about endings, byte strings and slices of strings in memory; nothing here speaks of one program. -/
namespace Go.Proofs.Ytbbbgijlbcmpbaa
open Go.RowKit

theorem ret_bool {a b : Bool} (h : a = b) : Ending.returned (.bool a) = .returned (.bool b) := by rw [h]
/-- Whatever lay in W lies in w as it lay. -/
abbrev Ext (W w : World) : Prop := Below W.heap.size W w
theorem Ext.trans' {a b c : World} (h : Below a.heap.size a b) (k : Below b.heap.size b c) : Below a.heap.size a c := h.trans (k.mono h.size)
end Go.Proofs.Ytbbbgijlbcmpbaa
/- How the arguments of a law are opened: from the form's reading to our own predicates. Nothing here speaks of one program. -/
namespace Go.Proofs.Ytbbbgijlbcmpbaa
open Go.RowKit Go.ChangeShapes Go.WideShapes Go.ChangeAt

/-- The law's end: this bool, and nothing that was there has turned. -/
def IsBool (W : World) (b : Bool) (e : Ending) (w' : World) : Prop := e = .returned (.bool b) ∧ Below W.heap.size W w'

section
variable {H : Type} {enc : TypeId × Value → H} {P : Program} {W : World}

theorem add_plain (b o i : Nat) : (⟨b, o, none⟩ : Addr).add i = ⟨b, o + i, none⟩ := by
  unfold Addr.add; split
  · rename_i h; rw [h]; rfl
  · rfl
end
end Go.Proofs.Ytbbbgijlbcmpbaa
/- A stack in memory: its block, its row. -/
namespace Go.Proofs.Ytbbbgijlbcmpbaa
open Go.RowKit

/-- Of the old blocks none has turned but those of F. -/
structure Touch (F : List Nat) (w w' : World) : Prop where
  os : w'.os = w.os
  tape : w'.tape = w.tape
  output : w'.output = w.output
  size : w.heap.size ≤ w'.heap.size
  block : ∀ k, k < w.heap.size → k ∉ F → w'.heap[k]? = w.heap[k]?
theorem Touch.of_below {w w' : World} (h : Below w.heap.size w w') (F : List Nat) : Touch F w w' := ⟨h.os, h.tape, h.output, h.size, fun k hk _ => h.block k hk⟩
theorem Touch.below {F : List Nat} {w w' : World} (h : Touch F w w') {B : Nat} (hB : B ≤ w.heap.size) (hF : ∀ k ∈ F, B ≤ k) : Below B w w' :=
  ⟨h.os, h.tape, h.output, h.size, fun k hk => h.block k (by omega) (fun hm => by have := hF k hm; omega)⟩
theorem Touch.trans {F F' : List Nat} {a b c : World} (h : Touch F a b) (h' : Touch F' b c) (hF : ∀ k ∈ F', k ∈ F ∨ a.heap.size ≤ k) : Touch F a c :=
  ⟨h'.os.trans h.os, h'.tape.trans h.tape, h'.output.trans h.output, Nat.le_trans h.size h'.size, fun k hk hn =>
    (h'.block k (Nat.lt_of_lt_of_le hk h.size) (fun hm => by rcases hF k hm with h1 | h1; exact hn h1; omega)).trans (h.block k hk hn)⟩
section
variable {e tb : TypeId} {F : List Nat} {w : World} {p : Value} {R : Nat} {xs : List Value}
end
section
variable {e tb : TypeId} {W w : World} {p : Value} {R : Nat} {xs : List Value} {G : List Nat}
end
end Go.Proofs.Ytbbbgijlbcmpbaa
/- A slice of whatever elements that came in, opened element by element. Nothing here speaks of one program. -/
namespace Go.Proofs.Ytbbbgijlbcmpbaa
open Go.RowKit Go.ChangeShapes Go.WideShapes Go.ChangeAt Go.Deep

/-- The value reads as these elements, of S cells each. -/
def Elems {α : Type} (S : Nat) (cells : α → List Value) (w : World) (v : Value) (xs : List α) : Prop :=
  ∃ (a : Option Addr) (cap : Nat), v = .slice a xs.length cap ∧ xs.length ≤ cap ∧ cap ≤ maxLen ∧
    (xs = [] ∨ ∃ b off, a = some ⟨b, off, none⟩ ∧ b < w.heap.size ∧ ∀ (i : Nat) (x : α), xs[i]? = some x → ∀ (j : Nat) (u : Value), (cells x)[j]? = some u → w.cell? ⟨b, off + (i * S + j), none⟩ = some u)
section
variable {H : Type} {enc : TypeId × Value → H} {P : Program} {W : World}
end
end Go.Proofs.Ytbbbgijlbcmpbaa
/- Terms in memory. Nothing here speaks of one program. -/
namespace Go.Proofs.Ytbbbgijlbcmpbaa
open Go.RowKit

abbrev BIG : Nat := 140737488351232
def I64 (n : Int) : Prop := -9223372036854775808 ≤ n ∧ n ≤ 9223372036854775807
mutual
/-- The value reads as this term. -/
def TmV (w : World) : Tm → Value → Prop
  | .mk k n s ts, v => ∃ (a : Option Addr) (c : Nat), v = .agg #[.int .i64 k, .int .i64 n, .string s, .slice a ts.length c] ∧ ts.length ≤ c ∧ c ≤ maxLen ∧ ts.length * 56 ≤ BIG ∧ s.size ≤ BIG ∧ I64 k ∧ I64 n ∧
      (ts = [] ∨ ∃ b off, a = some ⟨b, off, none⟩ ∧ b < w.heap.size ∧ TmRow w ts b off)
/-- These terms lie there, one behind the other. -/
def TmRow (w : World) : List Tm → Nat → Nat → Prop
  | [], _, _ => True
  | x :: r, b, off => (∃ c0 c1 c2 c3, w.cell? ⟨b, off, none⟩ = some c0 ∧ w.cell? ⟨b, off + 1, none⟩ = some c1 ∧ w.cell? ⟨b, off + 2, none⟩ = some c2 ∧ w.cell? ⟨b, off + 3, none⟩ = some c3 ∧ TmV w x (.agg #[c0, c1, c2, c3])) ∧ TmRow w r b (off + 4)
end
/-- The value reads as these terms. -/
def Tms (w : World) (v : Value) (l : List Tm) : Prop :=
  ∃ (a : Option Addr) (c : Nat), v = .slice a l.length c ∧ l.length ≤ c ∧ c ≤ maxLen ∧ l.length * 56 ≤ BIG ∧ (l = [] ∨ ∃ b off, a = some ⟨b, off, none⟩ ∧ b < w.heap.size ∧ TmRow w l b off)
theorem tmV_iff {w : World} {k n : Int} {s : ByteArray} {ts : List Tm} {v : Value} : TmV w (.mk k n s ts) v ↔ ∃ u, v = .agg #[.int .i64 k, .int .i64 n, .string s, u] ∧ s.size ≤ BIG ∧ I64 k ∧ I64 n ∧ Tms w u ts := by
  rw [TmV]
  constructor
  · rintro ⟨a, c, h1, h2, h3, h4, h5, h6, h7, h8⟩
    exact ⟨_, h1, h5, h6, h7, a, c, rfl, h2, h3, h4, h8⟩
  · rintro ⟨u, h1, h5, h6, h7, a, c, rfl, h2, h3, h4, h8⟩
    exact ⟨a, c, h1, h2, h3, h4, h5, h6, h7, h8⟩
theorem TmRow.get {w : World} : ∀ {l : List Tm} {b off : Nat}, TmRow w l b off → ∀ (i : Nat) (x : Tm), l[i]? = some x →
    ∃ c0 c1 c2 c3, w.cell? ⟨b, off + i * 4, none⟩ = some c0 ∧ w.cell? ⟨b, off + i * 4 + 1, none⟩ = some c1 ∧ w.cell? ⟨b, off + i * 4 + 2, none⟩ = some c2 ∧ w.cell? ⟨b, off + i * 4 + 3, none⟩ = some c3 ∧ TmV w x (.agg #[c0, c1, c2, c3])
  | [], b, off, _, i, x, hx => by simp at hx
  | y :: r, b, off, h, 0, x, hx => by
    simp at hx
    subst hx
    rw [TmRow] at h
    rw [Nat.zero_mul, Nat.add_zero]
    exact h.1
  | y :: r, b, off, h, i + 1, x, hx => by
    rw [TmRow] at h
    have := TmRow.get h.2 i x (by simpa using hx)
    rw [show off + (i + 1) * 4 = off + 4 + i * 4 by omega]
    exact this
theorem TmRow.mk {w : World} : ∀ {l : List Tm} {b off : Nat}, (∀ (i : Nat) (x : Tm), l[i]? = some x →
    ∃ c0 c1 c2 c3, w.cell? ⟨b, off + i * 4, none⟩ = some c0 ∧ w.cell? ⟨b, off + i * 4 + 1, none⟩ = some c1 ∧ w.cell? ⟨b, off + i * 4 + 2, none⟩ = some c2 ∧ w.cell? ⟨b, off + i * 4 + 3, none⟩ = some c3 ∧ TmV w x (.agg #[c0, c1, c2, c3])) → TmRow w l b off
  | [], b, off, _ => by rw [TmRow]; trivial
  | y :: r, b, off, h => by
    rw [TmRow]
    refine ⟨?_, TmRow.mk fun i x hx => ?_⟩
    · have := h 0 y rfl
      rw [Nat.zero_mul, Nat.add_zero] at this
      exact this
    · have := h (i + 1) x (by simpa using hx)
      rw [show off + (i + 1) * 4 = off + 4 + i * 4 by omega] at this
      exact this
mutual
theorem TmV.ext {w w' : World} (hb : Below w.heap.size w w') : ∀ (x : Tm) (v : Value), TmV w x v → TmV w' x v
  | .mk k n s ts, v, h => by
    rw [TmV] at h ⊢
    obtain ⟨a, c, h1, h2, h3, h4, h5, h6, h7, h8⟩ := h
    refine ⟨a, c, h1, h2, h3, h4, h5, h6, h7, ?_⟩
    rcases h8 with h8 | ⟨b, off, e1, e2, e3⟩
    · exact Or.inl h8
    · exact Or.inr ⟨b, off, e1, Nat.lt_of_lt_of_le e2 hb.size, TmRow.ext hb ts b off e3⟩
theorem TmRow.ext {w w' : World} (hb : Below w.heap.size w w') : ∀ (l : List Tm) (b off : Nat), TmRow w l b off → TmRow w' l b off
  | [], b, off, _ => by rw [TmRow]; trivial
  | x :: r, b, off, h => by
    rw [TmRow] at h ⊢
    obtain ⟨⟨c0, c1, c2, c3, h0, h1, h2, h3, h4⟩, h5⟩ := h
    exact ⟨⟨c0, c1, c2, c3, cell_later hb h0, cell_later hb h1, cell_later hb h2, cell_later hb h3, TmV.ext hb x _ h4⟩, TmRow.ext hb r b (off + 4) h5⟩
end
theorem Tms.ext {w w' : World} {v : Value} {l : List Tm} (h : Tms w v l) (hb : Below w.heap.size w w') : Tms w' v l := by
  obtain ⟨a, c, h1, h2, h3, h4, h5⟩ := h
  refine ⟨a, c, h1, h2, h3, h4, ?_⟩
  rcases h5 with h5 | ⟨b, off, e1, e2, e3⟩
  · exact Or.inl h5
  · exact Or.inr ⟨b, off, e1, Nat.lt_of_lt_of_le e2 hb.size, TmRow.ext hb l b off e3⟩
theorem Tms.nil (w : World) : Tms w (.slice none 0 0) [] := ⟨none, 0, rfl, Nat.le_refl _, Nat.zero_le _, by simp, Or.inl rfl⟩
/-- The i-th of them. -/
theorem Tms.get {w : World} {a : Option Addr} {m c : Nat} {l : List Tm} (h : Tms w (.slice a m c) l) {i : Nat} {x : Tm} (hx : l[i]? = some x) :
    ∃ b off k n s u, a = some ⟨b, off, none⟩ ∧ b < w.heap.size ∧ x.k = k ∧ x.n = n ∧ x.s = s ∧ w.cell? ⟨b, off + i * 4, none⟩ = some (.int .i64 k) ∧ w.cell? ⟨b, off + i * 4 + 1, none⟩ = some (.int .i64 n) ∧ w.cell? ⟨b, off + i * 4 + 2, none⟩ = some (.string s) ∧ w.cell? ⟨b, off + i * 4 + 3, none⟩ = some u ∧ Tms w u x.args ∧
      TmV w x (.agg #[.int .i64 k, .int .i64 n, .string s, u]) := by
  obtain ⟨a', c', e, h1, h2, h3, h4⟩ := h
  cases e
  rcases h4 with rfl | ⟨b, off, rfl, hb, hr⟩
  · simp at hx
  · obtain ⟨c0, c1, c2, c3, d0, d1, d2, d3, d4⟩ := hr.get i x hx
    cases x with
    | mk k n s ts =>
      obtain ⟨u, hu, g1, g2, g3, g4⟩ := tmV_iff.1 d4
      simp only [Value.agg.injEq] at hu
      have hu' := congrArg Array.toList hu
      simp only [List.cons.injEq, and_true] at hu'
      obtain ⟨rfl, rfl, rfl, rfl⟩ := hu'
      exact ⟨b, off, k, n, s, _, rfl, hb, rfl, rfl, rfl, d0, d1, d2, d3, g4, d4⟩
theorem Tms.len {w : World} {v : Value} {l : List Tm} (h : Tms w v l) : ∃ a c, v = .slice a l.length c ∧ l.length ≤ c ∧ c ≤ maxLen ∧ l.length * 56 ≤ BIG := by
  obtain ⟨a, c, h1, h2, h3, h4, _⟩ := h
  exact ⟨a, c, h1, h2, h3, h4⟩
end Go.Proofs.Ytbbbgijlbcmpbaa
/- append of whatever slice to a row of the call's own, of elements of however many cells: also of nothing. Nothing here speaks of one program. -/
namespace Go.Proofs.Ytbbbgijlbcmpbaa
open Go.RowKit

theorem row_formk {w : World} {b e sz n : Nat} {v : Value} {xs : List Value} (h : w.ownsRow b e sz v n xs) : ∃ a c, v = .slice a n c ∧ n ≤ c := by
  rcases h.2 with ⟨rfl, h0⟩ | ⟨g, cap, cur, rfl, _, _, h1, _⟩
  · exact ⟨none, 0, by rw [h0], by omega⟩
  · exact ⟨_, cap, rfl, h1⟩
section
variable {P : Program}
theorem run_append_k (w : World) (base : Nat) (t ty e : TypeId) (i : TypeInfo) (z : Value) (size bytes : Nat) (ht : P.underlying t = some (.slice e)) (hi : P.info? e = some i) (hz : i.zero = some z) (hsize : i.size = size) (hpos : 0 < size) (hby : i.bytes = bytes) (hzs : z.cells.size = size)
    (v : Value) (n : Nat) (xs : List Value) (hown : w.ownsRow base e size v n xs) (ao : Option Addr) (m c : Nat) (news : List Value) (hl : news.length = m * size)
    (hsrc : m = 0 ∨ ∃ ad, ao = some ad ∧ ∀ j u, news[j]? = some u → w.cell? (ad.add j) = some u) (h1 : ∀ u ∈ news, u.oneCell' = true)
    (h63 : n + m ≤ maxLen) (hbytes : (n + m) * bytes ≤ 140737488355328) (hbase : base ≤ w.heap.size) :
    ∃ v' w', (Builtin.append_ #[t, t] ty #[v, .slice ao m c]).run P w = .ok v' w' ∧ w'.ownsRow base e size v' (n + m) (xs ++ news) ∧ w.grownBy w' v.ownBlock ∧ (v'.ownBlock = v.ownBlock ∨ v'.ownBlock = some w.heap.size) := by
  by_cases hm : m = 0
  · subst hm
    obtain rfl : news = [] := List.length_eq_zero_iff.1 (by simpa using hl)
    obtain ⟨a, cc, rfl, hle⟩ := row_formk hown
    have hs : Src P i.size t (.slice ao 0 c) 0 [] w := by
      refine ⟨Or.inl ⟨e, ht⟩, fun w' => rfl, ?_, ?_, by simp, by simp⟩
      · cases ao with
        | none => rfl
        | some ad => exact run_firstCells_some w i.size 0 ad 0 c [] (by simp) (by simp)
      · cases ao with
        | none => rfl
        | some ad => exact run_firstCells_some w.drew i.size 0 ad 0 c [] (by simp) (by simp)
    exact ⟨_, w, run_append_nothing w t t ty e i ht hi a n cc hle _ hs, by simpa using hown, ⟨rfl, rfl, rfl, Nat.le_refl _, fun _ _ _ => rfl⟩, Or.inl rfl⟩
  · rcases hsrc with h0 | ⟨ad, rfl, hc⟩
    · exact absurd h0 hm
    obtain ⟨v', w', r1, r2, r3, _, r5⟩ := run_append_own_at (P := P) w base t ty e i z size bytes ht hi hz hsize hby hzs hpos v n xs hown ad m c news (by omega) hc h1 h63 hbytes hbase
    exact ⟨v', w', r1, r2, r3, r5⟩
theorem wp_append_k {w : World} {o : Oper} {a : Act} {K : Act → World → Prop} {Q : Exit → Act → World → Prop} (s x : Operand) (t : TypeId)
    (ho : o.op = .call { callee := .builtin .append, args := #[s, x], argTypes := #[t, t] })
    (base : Nat) (e : TypeId) (i : TypeInfo) (z : Value) (size bytes : Nat) (ht : P.underlying t = some (.slice e)) (hi : P.info? e = some i) (hz : i.zero = some z) (hsize : i.size = size) (hpos : 0 < size) (hby : i.bytes = bytes) (hzs : z.cells.size = size)
    (v : Value) (n : Nat) (xs : List Value) (hs : a.eval s = v) (hown : w.ownsRow base e size v n xs) (ao : Option Addr) (m c : Nat) (news : List Value) (hx : a.eval x = .slice ao m c) (hl : news.length = m * size)
    (hsrc : m = 0 ∨ ∃ ad, ao = some ad ∧ ∀ j u, news[j]? = some u → w.cell? (ad.add j) = some u) (h1 : ∀ u ∈ news, u.oneCell' = true)
    (h63 : n + m ≤ maxLen) (hbytes : (n + m) * bytes ≤ 140737488355328) (hbase : base ≤ w.heap.size) (N : Nat) (L : List Value) (hN : N = n + m) (hL : L = xs ++ news)
    (h : ∀ (a' : Option Addr) (c' : Nat) (w' : World), w'.ownsRow base e size (.slice a' N c') N L → w.grownBy w' v.ownBlock → ((Value.slice a' N c').ownBlock = v.ownBlock ∨ (Value.slice a' N c').ownBlock = some w.heap.size) → K (a.put o.dst (.slice a' N c')) w') : o.wp P a w K Q := by
  subst hN hL
  obtain ⟨v', w', hr, h2, h3, h4⟩ := run_append_k (P := P) w base t o.type e i z size bytes ht hi hz hsize hpos hby hzs v n xs hown ao m c news hl hsrc h1 h63 hbytes hbase
  obtain ⟨a', c', rfl, _⟩ := row_formk h2
  unfold Oper.wp execOp
  simp only [ho, resolve, invoke, builtin, Sem.run_bind, Sem.run_pure, Result.andThen_ok, List.map_toArray, List.map_cons, List.map_nil, hs, hx, hr]
  exact h a' c' w' h2 h3 h4
theorem wpList_append_k {w : World} {ops : Array Oper} {rest : List Oper} {o : Oper} {a : Act} {Q : Exit → Act → World → Prop} (hgd : o.guard = none) (s x : Operand) (t : TypeId)
    (ho : o.op = .call { callee := .builtin .append, args := #[s, x], argTypes := #[t, t] })
    (base : Nat) (e : TypeId) (i : TypeInfo) (z : Value) (size bytes : Nat) (ht : P.underlying t = some (.slice e)) (hi : P.info? e = some i) (hz : i.zero = some z) (hsize : i.size = size) (hpos : 0 < size) (hby : i.bytes = bytes) (hzs : z.cells.size = size)
    (v : Value) (n : Nat) (xs : List Value) (hs : a.eval s = v) (hown : w.ownsRow base e size v n xs) (ao : Option Addr) (m c : Nat) (news : List Value) (hx : a.eval x = .slice ao m c) (hl : news.length = m * size)
    (hsrc : m = 0 ∨ ∃ ad, ao = some ad ∧ ∀ j u, news[j]? = some u → w.cell? (ad.add j) = some u) (h1 : ∀ u ∈ news, u.oneCell' = true)
    (h63 : n + m ≤ maxLen) (hbytes : (n + m) * bytes ≤ 140737488355328) (hbase : base ≤ w.heap.size) (N : Nat) (L : List Value) (hN : N = n + m) (hL : L = xs ++ news)
    (h : ∀ (a' : Option Addr) (c' : Nat) (w' : World), w'.ownsRow base e size (.slice a' N c') N L → w.grownBy w' v.ownBlock → ((Value.slice a' N c').ownBlock = v.ownBlock ∨ (Value.slice a' N c').ownBlock = some w.heap.size) → wpList P ops Q rest (a.put o.dst (.slice a' N c')) w') :
    wpList P ops Q (o :: rest) a w := by
  refine wpList_plain hgd fun K hK => ?_
  exact wp_append_k s x t ho base e i z size bytes ht hi hz hsize hpos hby hzs v n xs hs hown ao m c news hx hl hsrc h1 h63 hbytes hbase N L hN hL (fun a' c' w' h2 h3 h4 => hK _ _ (h a' c' w' h2 h3 h4))
end
end Go.Proofs.Ytbbbgijlbcmpbaa
/- A row of the call's own, of elements of S cells each, reads as its elements; what is appended to it. Nothing here speaks of one program. -/
namespace Go.Proofs.Ytbbbgijlbcmpbaa
open Go.RowKit

section
variable {α : Type} {S : Nat} {cells : α → List Value}
theorem flat_len (hc : ∀ x, (cells x).length = S) (L : List α) : (L.flatMap cells).length = L.length * S := by
  induction L with
  | nil => simp
  | cons a r ih => rw [List.flatMap_cons, List.length_append, ih, hc, List.length_cons, Nat.add_mul, Nat.one_mul, Nat.add_comm]
theorem flat_get (hc : ∀ x, (cells x).length = S) : ∀ (L : List α) (i : Nat) (x : α), L[i]? = some x → ∀ j, j < S → (L.flatMap cells)[i * S + j]? = (cells x)[j]?
  | [], i, x, h, _, _ => by simp at h
  | a :: r, 0, x, h, j, hj => by
    simp at h
    subst h
    rw [List.flatMap_cons, Nat.zero_mul, Nat.zero_add, List.getElem?_append_left (by rw [hc]; exact hj)]
  | a :: r, i + 1, x, h, j, hj => by
    have e : (i + 1) * S + j = S + (i * S + j) := by rw [Nat.add_mul, Nat.one_mul]; omega
    rw [List.flatMap_cons, List.getElem?_append_right (by rw [hc, e]; omega), hc, e, Nat.add_sub_cancel_left]
    exact flat_get hc r i x (by simpa using h) j hj
/-- What the call owns reads as these. -/
theorem Elems.owned (hc : ∀ x, (cells x).length = S) {w : World} {B : Nat} {e : TypeId} {v : Value} {L : List α} (h : w.ownsRow B e S v L.length (L.flatMap cells)) : Elems S cells w v L := by
  rcases h.2 with ⟨rfl, h0⟩ | ⟨g, cap, cur, rfl, _, hg, h1, h2, h3, h4⟩
  · obtain rfl := List.length_eq_zero_iff.1 h0
    exact ⟨none, 0, rfl, Nat.le_refl _, Nat.zero_le _, Or.inl rfl⟩
  · refine ⟨_, cap, rfl, h1, h2, Or.inr ⟨g, 0, rfl, (Array.getElem?_eq_some_iff.1 hg).1, fun i x hx j u hu => ?_⟩⟩
    have hj : j < S := by have := (List.getElem?_eq_some_iff.1 hu).1; rwa [hc] at this
    have hi := (List.getElem?_eq_some_iff.1 hx).1
    have h5 := flat_get hc L i x hx j hj
    have hle : i * S + S ≤ L.length * S := by
      have : (i + 1) * S ≤ L.length * S := Nat.mul_le_mul_right _ hi
      rwa [Nat.add_mul, Nat.one_mul] at this
    rw [← h4, List.getElem?_take, if_pos (by omega), hu] at h5
    rw [Nat.zero_add, World.cell?, hg]
    simpa using h5
end
theorem cell_new (w : World) (cs : Array Value) (ty : TypeId) (j : Nat) (u : Value) (h : cs.toList[j]? = some u) : (w.alloc (.cells cs ty)).cell? ((⟨w.heap.size, 0, none⟩ : Addr).add j) = some u := by
  have h1 : (w.alloc (.cells cs ty)).heap[w.heap.size]? = some (.cells cs ty) := by
    show (w.heap.push _)[w.heap.size]? = _
    simp
  rw [add_plain, Nat.zero_add, World.cell?, h1]
  simpa using h
end Go.Proofs.Ytbbbgijlbcmpbaa
/- Small facts of ours on worlds: what is laid anew, what is drawn, a row that stays. Nothing here speaks of one program. -/
namespace Go.Proofs.Ytbbbgijlbcmpbaa
open Go.RowKit
theorem bel1' (w : World) (o : Obj) : Below w.heap.size w (w.alloc o) := (Below.refl _ _).alloc (Nat.le_refl _) o
theorem row_ext {w w' : World} {B k n : Nat} {e : TypeId} {v : Value} {xs : List Value} (h : w.ownsRow B e k v n xs) (hb : Below w.heap.size w w') : w'.ownsRow B e k v n xs := by
  obtain ⟨h0, h1⟩ := h
  refine ⟨h0, ?_⟩
  rcases h1 with h1 | ⟨g, cap, cur, rfl, hg, hh, h2⟩
  · exact Or.inl h1
  · exact Or.inr ⟨g, cap, cur, rfl, hg, by rw [hb.block g (Array.getElem?_eq_some_iff.1 hh).1]; exact hh, h2⟩
end Go.Proofs.Ytbbbgijlbcmpbaa
/- A row of terms of the call's own; a term's fields. Nothing here speaks of one program. -/
namespace Go.Proofs.Ytbbbgijlbcmpbaa
open Go.RowKit
set_option linter.unusedVariables false

theorem TmV.full {w : World} {x : Tm} {v : Value} (h : TmV w x v) : ∃ k n s a m c, v = .agg #[.int .i64 k, .int .i64 n, .string s, .slice a m c] := by
  cases x with
  | mk k n s ts =>
    obtain ⟨u, rfl, _, _, _, hu⟩ := tmV_iff.1 h
    obtain ⟨a, c, rfl, _⟩ := hu.len
    exact ⟨_, _, _, _, _, _, rfl⟩
/-- A term beside the value of its Args. -/
abbrev TmP := Tm × Value
def pCells (p : TmP) : List Value := [.int .i64 p.1.k, .int .i64 p.1.n, .string p.1.s, p.2]
def pVal (p : TmP) : Value := .agg #[.int .i64 p.1.k, .int .i64 p.1.n, .string p.1.s, p.2]
theorem pCells_len (p : TmP) : (pCells p).length = 4 := rfl
theorem TmV.pair {w : World} {x : Tm} {v : Value} (h : TmV w x v) : ∃ u, v = pVal (x, u) := by
  cases x with
  | mk k n s ts =>
    obtain ⟨u, rfl, _⟩ := tmV_iff.1 h
    exact ⟨u, rfl⟩
theorem pCells_one (L : List TmP) {w : World} (h : ∀ p ∈ L, TmV w p.1 (pVal p)) : ∀ u ∈ L.flatMap pCells, u.oneCell' = true := by
  intro u hu
  obtain ⟨p, hp, hx⟩ := List.mem_flatMap.1 hu
  have hv := h p hp
  obtain ⟨x, q⟩ := p
  cases x with
  | mk k n s ts =>
    obtain ⟨u', hu', _, _, _, hq⟩ := tmV_iff.1 hv
    have : u' = q := by
      simp only [pVal, Value.agg.injEq] at hu'
      have h2 := congrArg Array.toList hu'
      simp only [List.cons.injEq, and_true] at h2
      exact h2.2.2.2.symm
    subst this
    obtain ⟨a, c, rfl, _⟩ := hq.len
    simp [pCells] at hx
    rcases hx with rfl | rfl | rfl | rfl <;> rfl
def RowP (w : World) (base : Nat) (ty : TypeId) (v : Value) (ps : List TmP) : Prop := w.ownsRow base ty 4 v ps.length (ps.flatMap pCells)
/-- What the call owns reads as these terms. -/
theorem RowP.terms {w : World} {base : Nat} {ty : TypeId} {v : Value} {ps : List TmP} (h : RowP w base ty v ps) (hp : ∀ p ∈ ps, TmV w p.1 (pVal p)) (hl : ps.length * 56 ≤ BIG) : Tms w v (ps.map (·.1)) := by
  obtain ⟨a, c, rfl, h1, h2, h3⟩ := Elems.owned pCells_len h
  refine ⟨a, c, by rw [List.length_map], by rw [List.length_map]; exact h1, h2, by rw [List.length_map]; exact hl, ?_⟩
  rcases h3 with rfl | ⟨b, off, rfl, hb, hc⟩
  · left; rfl
  · refine Or.inr ⟨b, off, rfl, hb, TmRow.mk fun i x hx => ?_⟩
    rw [List.getElem?_map] at hx
    obtain ⟨p, hpi, rfl⟩ := Option.map_eq_some_iff.1 hx
    have hv := hp p (List.mem_of_getElem? hpi)
    exact ⟨_, _, _, _, hc i p hpi 0 _ rfl, by rw [Nat.add_assoc]; exact hc i p hpi 1 _ rfl, by rw [Nat.add_assoc]; exact hc i p hpi 2 _ rfl, by rw [Nat.add_assoc]; exact hc i p hpi 3 _ rfl, hv⟩
end Go.Proofs.Ytbbbgijlbcmpbaa
/- Worlds of which some blocks are not looked at: terms that read without them. Nothing here speaks of one program. -/
namespace Go.Proofs.Ytbbbgijlbcmpbaa
open Go.RowKit
set_option linter.unusedVariables false

/-- The world without these blocks. -/
def hide (D : Nat → Bool) (w : World) : World := { w with heap := w.heap.mapIdx fun i o => if D i then Obj.deferred none else o }
theorem hide_size (D : Nat → Bool) (w : World) : (hide D w).heap.size = w.heap.size := by unfold hide; simp
theorem hide_get (D : Nat → Bool) (w : World) (k : Nat) (h : D k = false) : (hide D w).heap[k]? = w.heap[k]? := by
  unfold hide
  simp only [Array.getElem?_mapIdx]
  cases w.heap[k]? with
  | none => rfl
  | some o => simp [h]
theorem hide_gone (D : Nat → Bool) (w : World) (a : Addr) (h : D a.block = true) : (hide D w).cell? a = none := by
  unfold World.cell? hide
  simp only [Array.getElem?_mapIdx]
  cases w.heap[a.block]? with
  | none => rfl
  | some o => simp [h]
theorem hide_cell (D : Nat → Bool) (w : World) (a : Addr) (h : D a.block = false) : (hide D w).cell? a = w.cell? a := World.cell?_of_block (hide_get D w a.block h)
theorem hide_none (w : World) : hide (fun _ => false) w = w := by
  unfold hide
  have : (w.heap.mapIdx fun i o => if (fun _ => false) i = true then Obj.deferred none else o) = w.heap := by
    apply Array.ext
    · simp
    · intro i h1 h2; simp
  rw [this]
/-- Each cell that is there is there still. -/
def Stays (w w' : World) : Prop := w.heap.size ≤ w'.heap.size ∧ ∀ a v, w.cell? a = some v → w'.cell? a = some v
theorem Stays.trans {a b c : World} (h : Stays a b) (h' : Stays b c) : Stays a c := ⟨Nat.le_trans h.1 h'.1, fun x v hv => h'.2 x v (h.2 x v hv)⟩
theorem Stays.hide {D D' : Nat → Bool} {w w' : World} (hs : w.heap.size ≤ w'.heap.size) (hk : ∀ k, k < w.heap.size → D k = false → D' k = false ∧ w'.heap[k]? = w.heap[k]?) : Stays (hide D w) (hide D' w') := by
  refine ⟨by rw [hide_size, hide_size]; exact hs, fun a v hv => ?_⟩
  have hlt : a.block < w.heap.size := by
    have := World.block_lt_of_cell? _ _ hv
    rwa [hide_size] at this
  cases hd : D a.block with
  | true => rw [hide_gone D w a hd] at hv; cases hv
  | false =>
    obtain ⟨h1, h2⟩ := hk _ hlt hd
    rw [hide_cell D w a hd] at hv
    rw [hide_cell D' w' a h1, World.cell?_of_block h2]
    exact hv
theorem Stays.unhide (D : Nat → Bool) (w : World) : Stays (Go.Proofs.Ytbbbgijlbcmpbaa.hide D w) w := by
  refine ⟨by rw [hide_size]; exact Nat.le_refl _, fun a v hv => ?_⟩
  cases hd : D a.block with
  | true => rw [hide_gone D w a hd] at hv; cases hv
  | false => rwa [hide_cell D w a hd] at hv
/-- Nothing old has turned; of the old blocks the same are hidden. -/
theorem Stays.below {D D' : Nat → Bool} {w w' : World} (hb : Below w.heap.size w w') (hD : ∀ k, k < w.heap.size → D k = false → D' k = false) : Stays (Go.Proofs.Ytbbbgijlbcmpbaa.hide D w) (Go.Proofs.Ytbbbgijlbcmpbaa.hide D' w') :=
  Stays.hide hb.size fun k hk hd => ⟨hD k hk hd, hb.block k hk⟩
theorem Stays.less {D D' : Nat → Bool} {w : World} (hD : ∀ k, D k = false → D' k = false) : Stays (Go.Proofs.Ytbbbgijlbcmpbaa.hide D w) (Go.Proofs.Ytbbbgijlbcmpbaa.hide D' w) :=
  Stays.hide (Nat.le_refl _) fun k _ hd => ⟨hD k hd, rfl⟩
theorem Stays.set {D : Nat → Bool} {w : World} (a : Addr) (v : Value) (h : D a.block = true) : Stays (Go.Proofs.Ytbbbgijlbcmpbaa.hide D w) (Go.Proofs.Ytbbbgijlbcmpbaa.hide D (w.setCell a v)) :=
  Stays.hide (by simp [World.setCell]) fun k _ hd => ⟨hd, Below.heap_setCell w a v k (fun e => by rw [e, h] at hd; cases hd)⟩
mutual
theorem TmV.stay {w w' : World} (hb : Stays w w') : ∀ (x : Tm) (v : Value), TmV w x v → TmV w' x v
  | .mk k n s ts, v, h => by
    rw [TmV] at h ⊢
    obtain ⟨a, c, h1, h2, h3, h4, h5, h6, h7, h8⟩ := h
    refine ⟨a, c, h1, h2, h3, h4, h5, h6, h7, ?_⟩
    rcases h8 with h8 | ⟨b, off, e1, e2, e3⟩
    · exact Or.inl h8
    · exact Or.inr ⟨b, off, e1, Nat.lt_of_lt_of_le e2 hb.1, TmRow.stay hb ts b off e3⟩
theorem TmRow.stay {w w' : World} (hb : Stays w w') : ∀ (l : List Tm) (b off : Nat), TmRow w l b off → TmRow w' l b off
  | [], b, off, _ => by rw [TmRow]; trivial
  | x :: r, b, off, h => by
    rw [TmRow] at h ⊢
    obtain ⟨⟨c0, c1, c2, c3, h0, h1, h2, h3, h4⟩, h5⟩ := h
    exact ⟨⟨c0, c1, c2, c3, hb.2 _ _ h0, hb.2 _ _ h1, hb.2 _ _ h2, hb.2 _ _ h3, TmV.stay hb x _ h4⟩, TmRow.stay hb r b (off + 4) h5⟩
end
theorem Tms.stay {w w' : World} {v : Value} {l : List Tm} (h : Tms w v l) (hb : Stays w w') : Tms w' v l := by
  obtain ⟨a, c, h1, h2, h3, h4, h5⟩ := h
  refine ⟨a, c, h1, h2, h3, h4, ?_⟩
  rcases h5 with h5 | ⟨b, off, e1, e2, e3⟩
  · exact Or.inl h5
  · exact Or.inr ⟨b, off, e1, Nat.lt_of_lt_of_le e2 hb.1, TmRow.stay hb l b off e3⟩
/-- A row of the call's own that is not hidden. -/
theorem RowP.hide {w : World} {base : Nat} {ty : TypeId} {v : Value} {ps : List TmP} {D : Nat → Bool} (h : RowP w base ty v ps) (hD : ∀ k, base ≤ k → (∃ cur, w.heap[k]? = some (.cells cur ty (0, 0))) → D k = false) : RowP (Go.Proofs.Ytbbbgijlbcmpbaa.hide D w) base ty v ps := by
  obtain ⟨h1, h2⟩ := h
  refine ⟨h1, ?_⟩
  rcases h2 with h2 | ⟨g, cap, cur, hv, hg, hh, r⟩
  · exact Or.inl h2
  · exact Or.inr ⟨g, cap, cur, hv, hg, by rw [hide_get D w g (hD g hg ⟨_, hh⟩)]; exact hh, r⟩
def Old (D : Nat → Bool) (w : World) : Prop := ∀ k, w.heap.size ≤ k → D k = false
theorem Old.mono {D : Nat → Bool} {w w' : World} (h : Old D w) (hs : w.heap.size ≤ w'.heap.size) : Old D w' := fun k hk => h k (Nat.le_trans hs hk)
/-- What reads without the hidden blocks reads so later, if nothing old has turned. -/
theorem TmV.later {D : Nat → Bool} {w w' : World} (hb : Below w.heap.size w w') {x : Tm} {v : Value} (h : TmV (hide D w) x v) : TmV (hide D w') x v := TmV.stay (Stays.below hb fun _ _ h => h) x v h
theorem TmV.bare {D : Nat → Bool} {w : World} {x : Tm} {v : Value} (h : TmV (hide D w) x v) : TmV w x v := TmV.stay (Stays.unhide D w) x v h
end Go.Proofs.Ytbbbgijlbcmpbaa
/- Terms: small facts; a term as a parameter. -/
namespace Go.Proofs.Ytbbbgijlbcmpbaa
open Go.RowKit
set_option linter.unusedVariables false

abbrev box4 (k n : Int) (s : ByteArray) (u : Value) (ty : TypeId) : Obj := .cells #[.int .i64 k, .int .i64 n, .string s, u] ty
theorem mem_size {k n : Int} {s : ByteArray} {ts : List Tm} {y : Tm} {N : Nat} (h : sizeN (.mk k n s ts) ≤ N + 1) (hy : y ∈ ts) : sizeN y ≤ N := by
  have := sizes_mem hy
  rw [sizeN] at h
  omega
/-- A term that came in is laid anew as a parameter. -/
theorem box_cells (w : World) (ty : TypeId) (c0 c1 c2 c3 : Value) {wr : World} (hb : Below (w.alloc (.cells #[c0, c1, c2, c3] ty)).heap.size (w.alloc (.cells #[c0, c1, c2, c3] ty)) wr) :
    wr.cell? ⟨w.heap.size, 0, none⟩ = some c0 ∧ wr.cell? ⟨w.heap.size, 1, none⟩ = some c1 ∧ wr.cell? ⟨w.heap.size, 2, none⟩ = some c2 ∧ wr.cell? ⟨w.heap.size, 3, none⟩ = some c3 :=
  ⟨cell_later hb (by simp), cell_later hb (by simp), cell_later hb (by simp), cell_later hb (by simp)⟩
end Go.Proofs.Ytbbbgijlbcmpbaa
/- Package term: the makers, Comp, Size. -/
namespace Go.Proofs.Ytbbbgijlbcmpbaa
open Go.RowKit
set_option linter.unusedVariables false

theorem results_cell1 {fn : Func} {p : Tmp} {ty : TypeId} (h : fn.results = #[.cell p ty]) (tmps : Array Value) (P : Program) (w : World) :
    (results fn tmps).run P w = ((asAddr (tmps.getD p undef)).run P w).andThen fun a w₁ => (loadVar ty a).run P w₁ := by
  simp only [results, h]
  simp [Sem.run_bind, Result.andThen]
/-- The row that is read, beside the values of the Args. -/
theorem TmRow.pairs {w : World} : ∀ {l : List Tm} {b off : Nat}, TmRow w l b off → ∃ ps : List TmP, ps.map (·.1) = l ∧ (∀ p ∈ ps, TmV w p.1 (pVal p)) ∧ ∀ j u, (ps.flatMap pCells)[j]? = some u → w.cell? ⟨b, off + j, none⟩ = some u
  | [], b, off, _ => ⟨[], rfl, fun p h => by simp at h, fun j u h => by simp at h⟩
  | x :: r, b, off, h => by
    rw [TmRow] at h
    obtain ⟨⟨c0, c1, c2, c3, h0, h1, h2, h3, h4⟩, h5⟩ := h
    obtain ⟨ps, e1, e2, e3⟩ := TmRow.pairs h5
    obtain ⟨u, hu⟩ := h4.pair
    rw [hu] at h4
    simp only [pVal, Value.agg.injEq] at hu
    have h2' := congrArg Array.toList hu
    simp only [List.cons.injEq, and_true] at h2'
    obtain ⟨rfl, rfl, rfl, rfl⟩ := h2'
    refine ⟨(x, c3) :: ps, by simp [e1], fun p hp => ?_, fun j u hj => ?_⟩
    · rcases List.mem_cons.1 hp with rfl | hp
      · exact h4
      · exact e2 p hp
    · rw [List.flatMap_cons] at hj
      by_cases hlt : j < 4
      · rw [List.getElem?_append_left (by rw [pCells_len]; exact hlt)] at hj
        match j, hlt with
        | 0, _ => cases hj; exact h0
        | 1, _ => cases hj; exact h1
        | 2, _ => cases hj; exact h2
        | 3, _ => cases hj; exact h3
      · rw [List.getElem?_append_right (by rw [pCells_len]; omega), pCells_len] at hj
        have := e3 _ _ hj
        rw [show off + 4 + (j - 4) = off + j by omega] at this
        exact this
theorem Tms.pairs {w : World} {v : Value} {l : List Tm} (h : Tms w v l) : ∃ (ps : List TmP) (a : Option Addr) (c : Nat), v = .slice a l.length c ∧ ps.length = l.length ∧ ps.map (·.1) = l ∧ (∀ p ∈ ps, TmV w p.1 (pVal p)) ∧ l.length * 56 ≤ BIG ∧ (l.length = 0 ∨ ∃ ad, a = some ad ∧ ∀ j u, (ps.flatMap pCells)[j]? = some u → w.cell? (ad.add j) = some u) := by
  obtain ⟨a, c, h1, h2, h3, h4, h5⟩ := h
  rcases h5 with rfl | ⟨b, off, rfl, hb, hr⟩
  · exact ⟨[], a, c, h1, rfl, rfl, fun p h => by simp at h, h4, Or.inl rfl⟩
  · obtain ⟨ps, e1, e2, e3⟩ := hr.pairs
    exact ⟨ps, _, c, h1, by rw [← e1, List.length_map], e1, e2, h4, Or.inr ⟨_, rfl, fun j u hj => by rw [add_plain]; exact e3 j u hj⟩⟩
theorem infoTerm : (Try.prog.info? 31).map (fun i => (i.zero, i.size, i.bytes)) = some (some (.agg #[.int .i64 0, .int .i64 0, .string ⟨#[]⟩, .slice none 0 0]), 4, 56) := by kernel_rfl
theorem leaf_tm (w : World) {k n : Int} {s : ByteArray} (hk : I64 k) (hn : I64 n) (hs : s.size ≤ BIG) : TmV w (.mk k n s []) (.agg #[.int .i64 k, .int .i64 n, .string s, .slice none 0 0]) :=
  tmV_iff.2 ⟨_, rfl, hs, hk, hn, Tms.nil w⟩
def intT (n : Int) : Tm := .mk 1 n ⟨#[]⟩ []
theorem i64_0 : I64 0 := by unfold I64; omega
theorem i64_1 : I64 1 := by unfold I64; omega
theorem i64_2 : I64 2 := by unfold I64; omega
theorem var_at (w : World) (n : Int) : Calls Try.prog 19 #[.int .i64 n] w fun e w' => e = .returned (.agg #[.int .i64 0, .int .i64 n, .string ⟨#[]⟩, .slice none 0 0]) ∧ Below w.heap.size w w' := by
  go_enter Try.func19, Try.ntmps19
  go_wp2
  refine bodyPost_ret (v := .agg #[.int .i64 0, .int .i64 n, .string ⟨#[]⟩, .slice none 0 0]) (by rw [results_cell1 rfl]; go_simp) rfl ⟨rfl, ?_⟩
  exact bel1' _ _
theorem int_at (w : World) (n : Int) : Calls Try.prog 18 #[.int .i64 n] w fun e w' => e = .returned (.agg #[.int .i64 1, .int .i64 n, .string ⟨#[]⟩, .slice none 0 0]) ∧ Below w.heap.size w w' := by
  go_enter Try.func18, Try.ntmps18
  go_wp2
  refine bodyPost_ret (v := .agg #[.int .i64 1, .int .i64 n, .string ⟨#[]⟩, .slice none 0 0]) (by rw [results_cell1 rfl]; go_simp) rfl ⟨rfl, ?_⟩
  exact bel1' _ _
/-- Four cells of a box set one behind the other. -/
def setFour (w : World) (B : Nat) (v0 v1 v2 v3 : Value) : World := (((w.setCell ⟨B, 0, none⟩ v0).setCell ⟨B, 1, none⟩ v1).setCell ⟨B, 2, none⟩ v2).setCell ⟨B, 3, none⟩ v3
theorem four_below {w0 w : World} {D B : Nat} (v0 v1 v2 v3 : Value) (h : Below D w0 w) (hB : D ≤ B) : Below D w0 (setFour w B v0 v1 v2 v3) :=
  (((h.setCell (p := ⟨B, 0, none⟩) hB v0).setCell (p := ⟨B, 1, none⟩) hB v1).setCell (p := ⟨B, 2, none⟩) hB v2).setCell (p := ⟨B, 3, none⟩) hB v3
theorem four_row {w : World} {base B n k : Nat} {e : TypeId} {v : Value} {xs : List Value} (v0 v1 v2 v3 : Value) (h : w.ownsRow base e k v n xs) (hB : B < base) : (setFour w B v0 v1 v2 v3).ownsRow base e k v n xs :=
  ownsRow_setCell_below (ownsRow_setCell_below (ownsRow_setCell_below (ownsRow_setCell_below h (a := ⟨B, 0, none⟩) hB v0) (a := ⟨B, 1, none⟩) hB v1) (a := ⟨B, 2, none⟩) hB v2) (a := ⟨B, 3, none⟩) hB v3
theorem four_kept {w w4 : World} {c0 c1 c2 c3 : Value} {ty : TypeId} (h : w4.heap[w.heap.size]? = (w.alloc (.cells #[c0, c1, c2, c3] ty)).heap[w.heap.size]?) :
    w4.cell? ⟨w.heap.size, 0, none⟩ = some c0 ∧ w4.cell? ⟨w.heap.size, 1, none⟩ = some c1 ∧ w4.cell? ⟨w.heap.size, 2, none⟩ = some c2 ∧ w4.cell? ⟨w.heap.size, 3, none⟩ = some c3 ∧ ∀ j, w4.frozen? ⟨w.heap.size, j, none⟩ = false := by
  refine ⟨?_, ?_, ?_, ?_, fun j => ?_⟩
  · rw [World.cell?_of_block (w := w.alloc (.cells #[c0, c1, c2, c3] ty)) h]; simp
  · rw [World.cell?_of_block (w := w.alloc (.cells #[c0, c1, c2, c3] ty)) h]; simp
  · rw [World.cell?_of_block (w := w.alloc (.cells #[c0, c1, c2, c3] ty)) h]; simp
  · rw [World.cell?_of_block (w := w.alloc (.cells #[c0, c1, c2, c3] ty)) h]; simp
  · rw [World.frozen?_of_block (w := w.alloc (.cells #[c0, c1, c2, c3] ty)) h]; simp
set_option maxHeartbeats 2000000 in
theorem comp_ps {w : World} {ao : Option Addr} {m c : Nat} (ps : List TmP) (s : ByteArray) (hpl : ps.length = m) (hbig : m * 56 ≤ BIG) (hone : ∀ u ∈ ps.flatMap pCells, u.oneCell' = true)
    (hsrc : m = 0 ∨ ∃ ad, ao = some ad ∧ ∀ j u, (ps.flatMap pCells)[j]? = some u → w.cell? (ad.add j) = some u) :
    Calls Try.prog 20 #[.string s, .slice ao m c] w fun e w' => ∃ a c', e = .returned (.agg #[.int .i64 2, .int .i64 0, .string s, .slice a m c']) ∧ RowP w' (w.heap.size + 1) 31 (.slice a m c') ps ∧ Below w.heap.size w w' := by
  obtain ⟨i0, hi0, hz0, hs0, hb0⟩ := info_parts infoTerm
  have hfl : (ps.flatMap pCells).length = m * 4 := by rw [flat_len pCells_len, hpl]
  have HPL := Lib.hid hpl
  unfold BIG at hbig
  obtain ⟨news, hnews⟩ : ∃ news, ps.flatMap pCells = news := ⟨_, rfl⟩
  rw [hnews] at hfl hone hsrc
  have HN := Lib.hid hnews
  have hsrc' : m = 0 ∨ ∃ ad, ao = some ad ∧ ∀ j u, news[j]? = some u → (w.alloc (.cells #[.int .i64 0, .int .i64 0, .string ⟨#[]⟩, .slice none 0 0] 31)).cell? (ad.add j) = some u := by
    rcases hsrc with h | ⟨ad, e, h⟩
    · exact Or.inl h
    · exact Or.inr ⟨ad, e, fun j u hj => Lib.cell?_alloc_some _ (h j u hj)⟩
  clear hpl hnews hsrc
  go_enter Try.func20, Try.ntmps20
  go_wp2_with (at_builtin; refine wpList_append_k rfl _ _ 29 rfl (w.heap.size + 1) 31 i0 (.agg #[.int .i64 0, .int .i64 0, .string ⟨#[]⟩, .slice none 0 0]) 4 56 Try.underlying29 hi0 hz0 hs0 (by decide) hb0 rfl (.slice none 0 0) 0 [] rfl (World.ownsRow_nil _ _ _ _) ao m c news rfl hfl hsrc' hone (by unfold maxLen; omega) (by omega) (by simp) m news (by omega) rfl ?_; intro a4 c4 w4 hown4 hgrow4 hat4; obtain ⟨e0, e1, e2, e3, g0⟩ := four_kept (hgrow4.block w.heap.size (by simp) (by simp [Value.ownBlock])))
  have hB : Below w.heap.size w w4 := (bel1' w _).grown hgrow4 (by simp) (fun q hq => by simp [Value.ownBlock] at hq)
  refine bodyPost_ret (v := .agg #[.int .i64 2, .int .i64 0, .string s, .slice a4 m c4]) (by rw [results_cell1 rfl]; go_simp) rfl ⟨a4, c4, rfl, ?_⟩
  have hF : Below w.heap.size w (setFour w4 w.heap.size (.int .i64 2) (.int .i64 0) (.string s) (.slice a4 m c4)) := four_below _ _ _ _ hB (Nat.le_refl _)
  refine ⟨?_, hF⟩
  unfold RowP
  rw [HPL.out, HN.out]
  exact four_row _ _ _ _ hown4 (by omega)
end Go.Proofs.Ytbbbgijlbcmpbaa
/- A region that draws its order, walked operation by operation while a condition holds. Nothing here speaks of one program. -/
namespace Go
section
variable {P : Program} {md : Region.Mode} {ops : Array Oper} {Q : Exit → Act → World → Prop} {S : World → Prop}
theorem held_t {i : Nat} {oi : Oper} {fuel : Nat} {listed : Array Bool} {a : Act} {w : World} (hS : S w)
    (h : ∃ v, (∀ w, S w → (execOp a.eval oi).run P w = .ok (.value v) w) ∧ wpAnyH P md ops Q S fuel (listed.setIfInBounds i true) (a.put oi.dst v) w)
    (hi : ops[i]? = some oi := by simp only [List.getElem?_toArray, List.getElem?_cons_zero, List.getElem?_cons_succ]; rfl)
    (hs : Region.noSelect ops = true := by kernel_rfl) (hf : Region.free md ops listed i = true := by kernel_rfl) (hr : (Region.ready md ops listed).contains i = true := by kernel_rfl) (hw : Region.wanted oi (yielded ops a.tmps) = true := by rfl)
    (hQ : ∀ v c a w, Q (.panic c) (a.put oi.dst v) w → Q (.panic c) a w := by exact fun _ _ _ _ h => h) : wpAnyH P md ops Q S (fuel + 1) listed a w := by
  obtain ⟨v, h1, h2⟩ := h
  exact wpAnyH_take hi hs hf hr (hQ v) (Or.inl ⟨hw, h1⟩) hS h2
theorem held_s {i : Nat} {oi : Oper} {fuel : Nat} {listed : Array Bool} {a : Act} {w : World} (hS : S w) (h : wpAnyH P md ops Q S fuel (listed.setIfInBounds i true) (a.put oi.dst undef) w)
    (hi : ops[i]? = some oi := by simp only [List.getElem?_toArray, List.getElem?_cons_zero, List.getElem?_cons_succ]; rfl)
    (hs : Region.noSelect ops = true := by kernel_rfl) (hf : Region.free md ops listed i = true := by kernel_rfl) (hr : (Region.ready md ops listed).contains i = true := by kernel_rfl) (hw : Region.wanted oi (yielded ops a.tmps) = false := by rfl)
    (hQ : ∀ c a w, Q (.panic c) (a.put oi.dst undef) w → Q (.panic c) a w := by exact fun _ _ _ h => h) : wpAnyH P md ops Q S (fuel + 1) listed a w :=
  wpAnyH_take hi hs hf hr hQ (Or.inr ⟨hw, rfl⟩) hS h
theorem held_c (i : Nat) {o : Oper} {fuel : Nat} {listed : Array Bool} {a : Act} {w : World}
    (h : ∀ K' : Act → World → Prop, Shut (∀ a w, S w → (S w → wpAnyH P md ops Q S fuel (listed.setIfInBounds i true) a w) → K' a w) → if Region.wanted o (yielded ops a.tmps) = true then Oper.wp P o a w K' Q else K' (a.put o.dst undef) w)
    (hr : Region.ready md ops listed = [i] := by kernel_rfl) (hi : ops[i]? = some o := by simp only [List.getElem?_toArray, List.getElem?_cons_zero, List.getElem?_cons_succ]; rfl) : wpAnyH P md ops Q S (fuel + 1) listed a w :=
  wpAnyH_ready hr (by simp) (AllReadyH.cons hi h AllReadyH.nil)
end
end Go
