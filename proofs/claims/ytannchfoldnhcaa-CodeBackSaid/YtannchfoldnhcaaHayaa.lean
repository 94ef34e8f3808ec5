import Derived.Lib.Hide
import Derived.WalkKit
import Derived.WalkSpells
import Derived.WalkLawsBesides
import Derived.ProofKit
import Derived.OpenShut
import Derived.SizedLaws
import Derived.SliceStrings
import Derived.Carry
import Derived.Stop.Joined
import Derived.Deep.Slices
set_option linter.unusedVariables false
set_option linter.unusedSimpArgs false
/- Terms as trees, as chapter 7 says them. Nothing here is walked. -/
namespace Go.Proofs.Ytannchfoldnhcaa

inductive Tm where
  | mk (k n : Int) (s : ByteArray) (ts : List Tm)
namespace Tm
def k : Tm → Int | mk k _ _ _ => k
def n : Tm → Int | mk _ n _ _ => n
def s : Tm → ByteArray | mk _ _ s _ => s
def args : Tm → List Tm | mk _ _ _ ts => ts
end Tm
mutual
/-- How many terms it is made of. -/
def sizeN : Tm → Nat
  | .mk _ _ _ ts => sizesN ts + 1
def sizesN : List Tm → Nat
  | [] => 0
  | x :: r => sizeN x + sizesN r
end
mutual
def depthN : Tm → Nat
  | .mk _ _ _ ts => depthsN ts + 1
def depthsN : List Tm → Nat
  | [] => 0
  | x :: r => max (depthN x) (depthsN r)
end
def letterB (c : UInt8) : Bool := c == 9 || c == 10 || (decide (32 ≤ c) && decide (c ≤ 126))
/-- What a term's own fields may be. -/
def plainT (k n : Int) (s : List UInt8) (m : Nat) : Bool :=
  if k = 0 then decide (0 ≤ n) && decide (n < 2147483648) && s.isEmpty && decide (m = 0)
  else if k = 1 then s.isEmpty && decide (m = 0)
  else if k = 2 then decide (n = 0) && decide (s.length ≤ 64) && decide (m ≤ 8) && s.all letterB
  else false
mutual
def formedT : Tm → Bool
  | .mk k n s ts => plainT k n s.data.toList ts.length && formedL ts
def formedL : List Tm → Bool
  | [] => true
  | x :: r => formedT x && formedL r
end
def goodT (t : Tm) : Bool := decide (sizeN t ≤ 2000) && decide (depthN t ≤ 64) && formedT t
mutual
/-- The variables' numbers behind those of 'l', each once. -/
def varsT : Tm → List Int → List Int
  | .mk k n _ ts, l => if k = 0 then (if l.contains n then l else l ++ [n]) else varsL ts l
def varsL : List Tm → List Int → List Int
  | [], l => l
  | x :: r, l => varsL r (varsT x l)
end
mutual
def sameT : Tm → Tm → Bool
  | .mk k n s ts, .mk k' n' s' ts' => k == k' && n == n' && s.data.toList == s'.data.toList && sameL ts ts'
def sameL : List Tm → List Tm → Bool
  | [], [] => true
  | x :: r, y :: q => sameT x y && sameL r q
  | _, _ => false
end
theorem size_pos (t : Tm) : 1 ≤ sizeN t := by cases t; rw [sizeN]; omega
theorem depth_pos (t : Tm) : 1 ≤ depthN t := by cases t; rw [depthN]; omega
theorem sizes_mem : ∀ {l : List Tm} {x : Tm}, x ∈ l → sizeN x ≤ sizesN l
  | y :: r, x, h => by
    rw [sizesN]
    rcases List.mem_cons.1 h with rfl | h
    · omega
    · have := sizes_mem h; omega
theorem formed_mem : ∀ {l : List Tm} {x : Tm}, formedL l = true → x ∈ l → formedT x = true
  | y :: r, x, hf, h => by
    rw [formedL, Bool.and_eq_true] at hf
    rcases List.mem_cons.1 h with rfl | h
    · exact hf.1
    · exact formed_mem hf.2 h
theorem good_parts {t : Tm} (h : goodT t = true) : sizeN t ≤ 2000 ∧ depthN t ≤ 64 ∧ formedT t = true := by
  unfold goodT at h
  simp only [Bool.and_eq_true, decide_eq_true_eq] at h
  exact ⟨h.1.1, h.1.2, h.2⟩
theorem bytes_eq {s t : ByteArray} (h : s.data.toList = t.data.toList) : s = t := by
  obtain ⟨⟨l⟩⟩ := s; obtain ⟨⟨m⟩⟩ := t; simp at h; rw [h]
mutual
theorem same_iff : ∀ (a b : Tm), sameT a b = true ↔ a = b
  | .mk k n s ts, .mk k' n' s' ts' => by
    rw [sameT]
    simp only [Bool.and_eq_true, beq_iff_eq, Tm.mk.injEq]
    rw [sames_iff ts ts']
    constructor
    · rintro ⟨⟨⟨h1, h2⟩, h3⟩, h4⟩; exact ⟨h1, h2, bytes_eq h3, h4⟩
    · rintro ⟨h1, h2, h3, h4⟩; exact ⟨⟨⟨h1, h2⟩, by rw [h3]⟩, h4⟩
theorem sames_iff : ∀ (a b : List Tm), sameL a b = true ↔ a = b
  | [], [] => by simp [sameL]
  | x :: r, y :: q => by
    rw [sameL]
    simp only [Bool.and_eq_true, List.cons.injEq]
    rw [same_iff x y, sames_iff r q]
  | [], y :: q => by simp [sameL]
  | x :: r, [] => by simp [sameL]
end
theorem same_self (a : Tm) : sameT a a = true := (same_iff a a).2 rfl
end Go.Proofs.Ytannchfoldnhcaa
/- What stands for what, as chapter 11 says it: all the way in at once. Nothing here is walked. -/
namespace Go.Proofs.Ytannchfoldnhcaa

def varV (n : Int) : Tm := .mk 0 n ⟨#[]⟩ []
mutual
/-- A term with all that its variables stand for. -/
def subT (S : Int → Tm) : Tm → Tm
  | .mk k n s ts => if k = 0 then S n else .mk k n s (subL S ts)
def subL (S : Int → Tm) : List Tm → List Tm
  | [] => []
  | x :: r => subT S x :: subL S r
end
mutual
/-- The numbers of its variables, each as often as it stands there. -/
def occT : Tm → List Int
  | .mk k n _ ts => if k = 0 then [n] else occL ts
def occL : List Tm → List Int
  | [] => []
  | x :: r => occT x ++ occL r
end
theorem subL_map (S : Int → Tm) : ∀ ts, subL S ts = ts.map (subT S)
  | [] => rfl
  | x :: r => by rw [subL, subL_map S r]; rfl
theorem subL_len (S : Int → Tm) (ts : List Tm) : (subL S ts).length = ts.length := by rw [subL_map, List.length_map]
theorem mem_occL {m : Int} : ∀ {ts : List Tm}, m ∈ occL ts ↔ ∃ x ∈ ts, m ∈ occT x
  | [] => by simp [occL]
  | x :: r => by rw [occL, List.mem_append, mem_occL (ts := r)]; simp
theorem sub_var (S : Int → Tm) (n : Int) (s : ByteArray) (ts : List Tm) : subT S (.mk 0 n s ts) = S n := by rw [subT, if_pos rfl]
theorem sub_not (S : Int → Tm) {k : Int} (h : ¬ k = 0) (n : Int) (s : ByteArray) (ts : List Tm) : subT S (.mk k n s ts) = .mk k n s (subL S ts) := by rw [subT, if_neg h]
theorem occ_var (n : Int) (s : ByteArray) (ts : List Tm) : occT (.mk 0 n s ts) = [n] := by rw [occT, if_pos rfl]
theorem occ_not {k : Int} (h : ¬ k = 0) (n : Int) (s : ByteArray) (ts : List Tm) : occT (.mk k n s ts) = occL ts := by rw [occT, if_neg h]
mutual
theorem sub_sub (A B : Int → Tm) : ∀ t : Tm, subT A (subT B t) = subT (fun m => subT A (B m)) t
  | .mk k n s ts => by
    by_cases h : k = 0
    · subst h; rw [sub_var, sub_var]
    · rw [sub_not _ h, sub_not _ h, sub_not _ h, subs_sub A B ts]
theorem subs_sub (A B : Int → Tm) : ∀ ts : List Tm, subL A (subL B ts) = subL (fun m => subT A (B m)) ts
  | [] => rfl
  | x :: r => by rw [subL, subL, subL, sub_sub A B x, subs_sub A B r]
end
mutual
theorem sub_congr {A B : Int → Tm} : ∀ t : Tm, (∀ m ∈ occT t, A m = B m) → subT A t = subT B t
  | .mk k n s ts, h => by
    by_cases hk : k = 0
    · subst hk; rw [sub_var, sub_var]; exact h n (by rw [occ_var]; simp)
    · rw [sub_not _ hk, sub_not _ hk, subs_congr ts (fun m hm => h m (by rw [occ_not hk]; exact hm))]
theorem subs_congr {A B : Int → Tm} : ∀ ts : List Tm, (∀ m ∈ occL ts, A m = B m) → subL A ts = subL B ts
  | [], _ => rfl
  | x :: r, h => by rw [subL, subL, sub_congr x (fun m hm => h m (by rw [occL]; simp [hm])), subs_congr r (fun m hm => h m (by rw [occL]; simp [hm]))]
end
theorem formed_var {n : Int} {s : ByteArray} {ts : List Tm} (h : formedT (.mk 0 n s ts) = true) : Tm.mk 0 n s ts = varV n ∧ 0 ≤ n ∧ n < 2147483648 := by
  rw [formedT, Bool.and_eq_true] at h
  have h1 := h.1
  unfold plainT at h1
  rw [if_pos rfl] at h1
  simp only [Bool.and_eq_true, decide_eq_true_eq, List.isEmpty_iff] at h1
  refine ⟨?_, h1.1.1.1, h1.1.1.2⟩
  have hs : s = ⟨#[]⟩ := bytes_eq (by rw [h1.1.2])
  have ht : ts = [] := List.length_eq_zero_iff.1 h1.2
  rw [hs, ht]; rfl
theorem var_formed {n : Int} (h0 : 0 ≤ n) (h1 : n < 2147483648) : formedT (varV n) = true := by
  unfold varV
  rw [formedT, formedL]
  simp [plainT, h0, h1]
theorem sub_varV (S : Int → Tm) (n : Int) : subT S (varV n) = S n := by unfold varV; rw [sub_var]
mutual
theorem sub_id {A : Int → Tm} : ∀ t : Tm, formedT t = true → (∀ m ∈ occT t, A m = varV m) → subT A t = t
  | .mk k n s ts, hf, h => by
    by_cases hk : k = 0
    · subst hk
      rw [sub_var, h n (by rw [occ_var]; simp)]
      exact (formed_var hf).1.symm
    · rw [formedT, Bool.and_eq_true] at hf
      rw [sub_not _ hk, subs_id ts hf.2 (fun m hm => h m (by rw [occ_not hk]; exact hm))]
theorem subs_id {A : Int → Tm} : ∀ ts : List Tm, formedL ts = true → (∀ m ∈ occL ts, A m = varV m) → subL A ts = ts
  | [], _, _ => rfl
  | x :: r, hf, h => by
    rw [formedL, Bool.and_eq_true] at hf
    rw [subL, sub_id x hf.1 (fun m hm => h m (by rw [occL]; simp [hm])), subs_id r hf.2 (fun m hm => h m (by rw [occL]; simp [hm]))]
end
mutual
theorem formed_sub {A : Int → Tm} : ∀ t : Tm, formedT t = true → (∀ m ∈ occT t, formedT (A m) = true) → formedT (subT A t) = true
  | .mk k n s ts, hf, h => by
    by_cases hk : k = 0
    · subst hk; rw [sub_var]; exact h n (by rw [occ_var]; simp)
    · rw [formedT, Bool.and_eq_true] at hf
      rw [sub_not _ hk, formedT, Bool.and_eq_true, subL_len]
      exact ⟨hf.1, formeds_sub ts hf.2 (fun m hm => h m (by rw [occ_not hk]; exact hm))⟩
theorem formeds_sub {A : Int → Tm} : ∀ ts : List Tm, formedL ts = true → (∀ m ∈ occL ts, formedT (A m) = true) → formedL (subL A ts) = true
  | [], _, _ => rfl
  | x :: r, hf, h => by
    rw [formedL, Bool.and_eq_true] at hf
    rw [subL, formedL, Bool.and_eq_true]
    exact ⟨formed_sub x hf.1 (fun m hm => h m (by rw [occL]; simp [hm])), formeds_sub r hf.2 (fun m hm => h m (by rw [occL]; simp [hm]))⟩
end
end Go.Proofs.Ytannchfoldnhcaa
/- Has, as chapter 11 says it, over terms that are made whole; a search that keeps a pile and knows what it has seen; what reaches what. Nothing here is walked. -/
namespace Go.Proofs.Ytannchfoldnhcaa

/-- A place of the pile: a term, or the end of what a variable stands for. -/
structure Pl where
  t : Tm
  ends : Bool
  frm : Nat
/-- How much is still to be gone into. -/
def left (seen : List Int) : List (Int × Tm) → Nat
  | [] => 0
  | p :: R => (if p.1 ∈ seen then 0 else (occT p.2).length + 2) + left seen R
end Go.Proofs.Ytannchfoldnhcaa
/- Making alike, either way round; terms that are alike but for names. Nothing here is walked. -/
namespace Go.Proofs.Ytannchfoldnhcaa

/-- Where a number stands first. -/
def posI : List Int → Int → Nat
  | [], _ => 0
  | x :: r, m => if x = m then 0 else posI r m + 1
/-- Its variables, numbered by where they first stand. -/
def renV (l : List Int) (base : Int) : Int → Tm := fun m => varV (base + (posI l m : Int))
def renT (base : Int) (t : Tm) : Tm := subT (renV (varsT t []) base) t
theorem posI_map {a : Int → Int} {m : Int} : ∀ l : List Int, (∀ x ∈ l, a x = a m → x = m) → posI (l.map a) (a m) = posI l m
  | [], _ => rfl
  | x :: r, h => by
    rw [List.map_cons, posI, posI, posI_map r fun y hy => h y (by simp [hy])]
    by_cases e : x = m
    · rw [if_pos e, if_pos (by rw [e])]
    · rw [if_neg e, if_neg (fun q => e (h x (by simp) q))]
theorem contains_map {a : Int → Int} {l : List Int} {m : Int} (h : ∀ x ∈ l, a x = a m → x = m) : (l.map a).contains (a m) = l.contains m := by
  rw [Bool.eq_iff_iff]
  simp only [List.contains_iff_mem, List.mem_map]
  constructor
  · rintro ⟨x, hx, e⟩
    rw [← h x hx e]; exact hx
  · intro hm
    exact ⟨m, hm, rfl⟩
mutual
theorem vars_map {a : Int → Int} {D : Int → Prop} (inj : ∀ x y, D x → D y → a x = a y → x = y) : ∀ (t : Tm) (l : List Int), (∀ m ∈ occT t, D m) → (∀ m ∈ l, D m) → varsT (subT (fun m => varV (a m)) t) (l.map a) = (varsT t l).map a ∧ ∀ m ∈ varsT t l, D m
  | .mk k n s ts, l, ht, hl => by
    by_cases hk : k = 0
    · subst hk
      have hn := ht n (by rw [occ_var]; simp)
      rw [sub_var]
      unfold varV
      rw [varsT, varsT, if_pos rfl, if_pos rfl, contains_map fun x hx e => inj x n (hl x hx) hn e]
      by_cases hc : l.contains n = true
      · rw [if_pos hc, if_pos hc]; exact ⟨rfl, hl⟩
      · rw [if_neg hc, if_neg hc]
        refine ⟨by simp, fun m hm => ?_⟩
        rcases List.mem_append.1 hm with hm | hm
        · exact hl m hm
        · simp at hm; subst hm; exact hn
    · rw [sub_not _ hk, varsT, varsT, if_neg hk, if_neg hk]
      rw [occ_not hk] at ht
      exact varss_map inj ts l ht hl
theorem varss_map {a : Int → Int} {D : Int → Prop} (inj : ∀ x y, D x → D y → a x = a y → x = y) : ∀ (ts : List Tm) (l : List Int), (∀ m ∈ occL ts, D m) → (∀ m ∈ l, D m) → varsL (subL (fun m => varV (a m)) ts) (l.map a) = (varsL ts l).map a ∧ ∀ m ∈ varsL ts l, D m
  | [], l, _, hl => by rw [subL, varsL, varsL]; exact ⟨rfl, hl⟩
  | x :: r, l, ht, hl => by
    rw [occL] at ht
    obtain ⟨h1, h2⟩   := vars_map inj x l (fun m hm => ht m (by simp [hm])) hl
    obtain ⟨h3, h4⟩   := varss_map inj r (varsT x l) (fun m hm => ht m (by simp [hm])) h2
    rw [subL, varsL, varsL, h1]
    exact ⟨h3, h4⟩
end
mutual
theorem mem_vars2 {n : Int} : ∀ (t : Tm) (l : List Int), n ∈ varsT t l ↔ n ∈ l ∨ n ∈ occT t
  | .mk k m s ts, l => by
    rw [varsT, occT]
    by_cases hk : k = 0
    · rw [if_pos hk, if_pos hk]
      by_cases hm : l.contains m = true
      · rw [if_pos hm]
        have hm' : m ∈ l := by simpa using hm
        constructor
        · exact Or.inl
        · rintro (h | h)
          · exact h
          · simp at h; subst h; exact hm'
      · rw [if_neg hm]
        simp
    · rw [if_neg hk, if_neg hk]
      exact mem_varss2 ts l
theorem mem_varss2 {n : Int} : ∀ (ts : List Tm) (l : List Int), n ∈ varsL ts l ↔ n ∈ l ∨ n ∈ occL ts
  | [], l => by simp [varsL, occL]
  | x :: r, l => by
    rw [varsL, occL, mem_varss2 r, mem_vars2 x, List.mem_append, or_assoc]
end
mutual
theorem back_var {A B : Int → Tm} : ∀ t : Tm, formedT t = true → subT B (subT A t) = t → ∀ m ∈ occT t, subT B (A m) = varV m
  | .mk k n s ts, hf, h, m, hm => by
    by_cases hk : k = 0
    · subst hk
      rw [occ_var] at hm
      simp at hm
      subst hm
      rw [sub_var] at h
      rw [h]
      exact (formed_var hf).1
    · rw [occ_not hk] at hm
      rw [sub_not _ hk, sub_not _ hk] at h
      injection h with _ _ _ h
      rw [formedT, Bool.and_eq_true] at hf
      exact backs_var ts hf.2 h m hm
theorem backs_var {A B : Int → Tm} : ∀ ts : List Tm, formedL ts = true → subL B (subL A ts) = ts → ∀ m ∈ occL ts, subT B (A m) = varV m
  | [], hf, h, m, hm => by simp [occL] at hm
  | x :: r, hf, h, m, hm => by
    rw [formedL, Bool.and_eq_true] at hf
    rw [subL, subL] at h
    injection h with h1 h2
    rw [occL, List.mem_append] at hm
    rcases hm with hm | hm
    · exact back_var x hf.1 h1 m hm
    · exact backs_var r hf.2 h2 m hm
end
mutual
theorem sub_formed_at {A : Int → Tm} : ∀ t : Tm, formedT (subT A t) = true → ∀ m ∈ occT t, formedT (A m) = true
  | .mk k n s ts, hf, m, hm => by
    by_cases hk : k = 0
    · subst hk
      rw [occ_var] at hm
      simp at hm
      subst hm
      rw [sub_var] at hf
      exact hf
    · rw [occ_not hk] at hm
      rw [sub_not _ hk, formedT, Bool.and_eq_true] at hf
      exact subs_formed_at ts hf.2 m hm
theorem subs_formed_at {A : Int → Tm} : ∀ ts : List Tm, formedL (subL A ts) = true → ∀ m ∈ occL ts, formedT (A m) = true
  | [], hf, m, hm => by simp [occL] at hm
  | x :: r, hf, m, hm => by
    rw [subL, formedL, Bool.and_eq_true] at hf
    rw [occL, List.mem_append] at hm
    rcases hm with hm | hm
    · exact sub_formed_at x hf.1 m hm
    · exact subs_formed_at r hf.2 m hm
end
mutual
theorem size_same {A : Int → Tm} : ∀ t : Tm, formedT t = true → (∀ m ∈ occT t, ∃ j, A m = varV j) → sizeN (subT A t) = sizeN t ∧ depthN (subT A t) = depthN t
  | .mk k n s ts, hf, h => by
    by_cases hk : k = 0
    · subst hk
      obtain ⟨j, hj⟩ := h n (by rw [occ_var]; simp)
      rw [sub_var, hj, (formed_var hf).1]
      unfold varV
      rw [sizeN, sizeN, depthN, depthN]
      exact ⟨rfl, rfl⟩
    · rw [formedT, Bool.and_eq_true] at hf
      rw [occ_not hk] at h
      obtain ⟨e1, e2⟩ := sizes_same ts hf.2 h
      rw [sub_not _ hk, sizeN, sizeN, depthN, depthN, e1, e2]
      exact ⟨rfl, rfl⟩
theorem sizes_same {A : Int → Tm} : ∀ ts : List Tm, formedL ts = true → (∀ m ∈ occL ts, ∃ j, A m = varV j) → sizesN (subL A ts) = sizesN ts ∧ depthsN (subL A ts) = depthsN ts
  | [], _, _ => by rw [subL]; exact ⟨rfl, rfl⟩
  | x :: r, hf, h => by
    rw [formedL, Bool.and_eq_true] at hf
    rw [occL] at h
    obtain ⟨e1, e2⟩ := size_same x hf.1 fun m hm => h m (by simp [hm])
    obtain ⟨e3, e4⟩ := sizes_same r hf.2 fun m hm => h m (by simp [hm])
    rw [subL, sizesN, sizesN, depthsN, depthsN, e1, e2, e3, e4]
    exact ⟨rfl, rfl⟩
end
/-- Each made of the other: alike but for names. -/
theorem variants {A B : Int → Tm} {s u : Tm} (hs : formedT s = true) (hu : formedT u = true) (h1 : subT A s = u) (h2 : subT B u = s) : renT 0 s = renT 0 u ∧ goodT s = goodT u := by
  have hb := back_var (A := A) (B := B) s hs (by rw [h1, h2])
  have hf := sub_formed_at (A := A) s (by rw [h1]; exact hu)
  have hA : ∀ m ∈ occT s, A m = varV (A m).n ∧ B (A m).n = varV m := fun m hm => by
    have e := hb m hm
    have f := hf m hm
    generalize A m = z at *
    obtain ⟨k, n, s', ts⟩ := z
    by_cases hk : k = 0
    · subst hk
      rw [sub_var] at e
      exact ⟨(formed_var f).1, e⟩
    · rw [sub_not _ hk] at e
      unfold varV at e
      injection e with e
      exact absurd e hk
  have hu' : u = subT (fun m => varV (A m).n) s := by rw [← h1]; exact sub_congr s fun m hm => (hA m hm).1
  have hinj : ∀ x y, x ∈ occT s → y ∈ occT s → (A x).n = (A y).n → x = y := fun x y hx hy e => by
    have e1 := (hA x hx).2
    rw [e, (hA y hy).2] at e1
    unfold varV at e1
    injection e1 with _ e2
    exact e2.symm
  have hv := vars_map (a := fun m => (A m).n) (D := fun m => m ∈ occT s) hinj s [] (fun m hm => hm) (fun m hm => by cases hm)
  have hv1 : varsT u [] = (varsT s []).map fun m => (A m).n := by rw [hu']; exact hv.1
  constructor
  · unfold renT
    rw [hv1]
    conv => rhs; rw [hu', sub_sub]
    refine sub_congr s fun m hm => ?_
    rw [sub_varV]
    unfold renV
    rw [posI_map (a := fun m => (A m).n) (m := m) _ fun x hx e => hinj x m (hv.2 x hx) hm e]
  · obtain ⟨e1, e2⟩ := size_same (A := A) s hs fun m hm => ⟨_, (hA m hm).1⟩
    rw [h1] at e1 e2
    unfold goodT
    rw [e1, e2, hs, hu]
end Go.Proofs.Ytannchfoldnhcaa
/- What says more than another, as chapter 13 says it: a term with terms in place of its variables. Nothing here is walked. -/
namespace Go.Proofs.Ytannchfoldnhcaa

theorem pos_at {n : Int} : ∀ {l : List Int}, n ∈ l → l[posI l n]? = some n
  | x :: r, h => by
    rw [posI]
    by_cases e : x = n
    · rw [if_pos e]; simp [e]
    · rw [if_neg e]
      have hr : n ∈ r := by
        rcases List.mem_cons.1 h with h | h
        · exact absurd h.symm e
        · exact h
      simpa using pos_at hr
theorem pos_lt {n : Int} {l : List Int} (h : n ∈ l) : posI l n < l.length := by
  have := pos_at h
  exact (List.getElem?_eq_some_iff.1 this).1
/-- The way back from the numbers. -/
def backV (l : List Int) (base : Int) : Int → Tm := fun m => varV ((l[(m - base).toNat]?).getD 0)
theorem back_ren {t : Tm} (hf : formedT t = true) (base : Int) : subT (backV (varsT t []) base) (renT base t) = t := by
  unfold renT
  rw [sub_sub]
  refine sub_id t hf fun m hm => ?_
  unfold renV
  rw [sub_varV]
  unfold backV
  rw [show (base + (posI (varsT t []) m : Int) - base).toNat = posI (varsT t []) m by omega, pos_at ((mem_vars2 t []).2 (Or.inr hm))]
  rfl
mutual
theorem vars_nodup : ∀ (t : Tm) (l : List Int), l.Nodup → (varsT t l).Nodup
  | .mk k n s ts, l, h => by
    rw [varsT]
    by_cases hk : k = 0
    · rw [if_pos hk]
      by_cases hc : l.contains n = true
      · rw [if_pos hc]; exact h
      · rw [if_neg hc]
        have hc' : ¬ n ∈ l := by simpa using hc
        rw [List.nodup_append]
        exact ⟨h, by simp, fun a ha b hb => by simp at hb; subst hb; exact fun e => hc' (e ▸ ha)⟩
    · rw [if_neg hk]
      exact varss_nodup ts l h
theorem varss_nodup : ∀ (ts : List Tm) (l : List Int), l.Nodup → (varsL ts l).Nodup
  | [], l, h => by rw [varsL]; exact h
  | x :: r, l, h => by rw [varsL]; exact varss_nodup r _ (vars_nodup x l h)
end
/-- In a row each stands where it stands. -/
theorem pos_row : ∀ {l : List Int}, l.Nodup → ∀ (base : Int), l.map (fun m => base + (posI l m : Int)) = (List.range l.length).map (fun (i : Nat) => base + (i : Int)) := by
  intro l h base
  apply List.ext_getElem?
  intro i
  simp only [List.getElem?_map]
  by_cases hi : i < l.length
  · rw [List.getElem?_eq_getElem hi, List.getElem?_range hi]
    simp only [Option.map_some, Option.some.injEq]
    have hm := pos_at (List.getElem_mem hi)
    have hii : posI l l[i] = i := (List.getElem?_inj (i := posI l l[i]) (j := i) (pos_lt (List.getElem_mem hi)) h).1 (by rw [hm, List.getElem?_eq_getElem hi])
    omega
  · rw [List.getElem?_eq_none (by omega), List.getElem?_eq_none (by simp; omega)]
    rfl
theorem ren_formed {t : Tm} (hf : formedT t = true) {base : Int} (h0 : 0 ≤ base) (h1 : base + ((varsT t []).length : Int) ≤ 2147483648) : formedT (renT base t) = true := by
  unfold renT
  refine formed_sub t hf fun m hm => ?_
  have := pos_lt ((mem_vars2 t []).2 (Or.inr hm))
  exact var_formed (by omega) (by omega)
theorem ren_same {t : Tm} (hf : formedT t = true) {base : Int} (h0 : 0 ≤ base) (h1 : base + ((varsT t []).length : Int) ≤ 2147483648) : renT 0 (renT base t) = renT 0 t ∧ goodT (renT base t) = goodT t := by
  obtain ⟨e1, e2⟩ := variants (A := renV (varsT t []) base) (B := backV (varsT t []) base) hf (ren_formed hf h0 h1) rfl (back_ren hf base)
  exact ⟨e1.symm, e2.symm⟩
end Go.Proofs.Ytannchfoldnhcaa
/- The term of a variable 0, a name (of chapter 14's pure text nothing else is wanted here). Nothing here is walked. -/
namespace Go.Proofs.Ytannchfoldnhcaa
def zeroT : Tm := .mk 0 0 ⟨#[]⟩ []
def nameT (s : ByteArray) (ts : List Tm) : Tm := .mk 2 0 s ts
end Go.Proofs.Ytannchfoldnhcaa
/- Chapter 15, what a head's steps are and that they make the head again. Nothing here is walked. -/
namespace Go.Proofs.Ytannchfoldnhcaa
set_option linter.unusedVariables false

structure InsM where
  op : ByteArray
  a : Int
  b : Int
  c : Int
  n : Int
  s : ByteArray
structure CodeM where
  ar : Int
  sl : Int
  rg : Int
  l : List InsM
def opVar : ByteArray := ⟨#[118, 97, 114]⟩
def opVal : ByteArray := ⟨#[118, 97, 108]⟩
def opInt : ByteArray := ⟨#[105, 110, 116]⟩
def opAtom : ByteArray := ⟨#[97, 116, 111, 109]⟩
def opComp : ByteArray := ⟨#[99, 111, 109, 112]⟩
/-- The step of the i-th register. -/
def stepI (vs seen : List Int) (i next : Nat) (t : Tm) : InsM :=
  if t.k = 0 then ⟨if seen.contains t.n then opVal else opVar, i, (posI vs t.n : Nat), 0, 0, ⟨#[]⟩⟩
  else if t.k = 1 then ⟨opInt, i, 0, 0, t.n, ⟨#[]⟩⟩
  else if t.args.length = 0 then ⟨opAtom, i, 0, 0, 0, t.s⟩
  else ⟨opComp, i, (t.args.length : Nat), (next : Nat), 0, t.s⟩
def seenI (seen : List Int) (t : Tm) : List Int := if t.k = 0 then (if seen.contains t.n then seen else seen ++ [t.n]) else seen
/-- The steps of the registers from the i-th on, in which these terms stand. -/
def flatI (vs : List Int) : Nat → List Tm → Nat → Nat → List Int → List InsM
  | 0, _, _, _, _ => []
  | _ + 1, [], _, _, _ => []
  | K + 1, t :: q, i, next, seen => stepI vs seen i next t :: flatI vs K (q ++ t.args) (i + 1) (next + t.args.length) (seenI seen t)
/-- What stands in them, and behind. -/
def bfsT : Nat → List Tm → List Tm
  | 0, _ => []
  | _ + 1, [] => []
  | K + 1, t :: q => t :: bfsT K (q ++ t.args)
def headC (t : Tm) : CodeM := ⟨(t.args.length : Nat), ((varsT t []).length : Nat), (sizesN t.args : Nat), flatI (varsT t []) (sizesN t.args) t.args 0 t.args.length []⟩
def zeroC : CodeM := ⟨0, 0, 0, []⟩
def headCE (t : Tm) : CodeM × Int := if goodT t = true ∧ t.k = 2 then (headC t, 0) else (zeroC, 1)
theorem sizes_app : ∀ a b : List Tm, sizesN (a ++ b) = sizesN a + sizesN b
  | [], b => by rw [List.nil_append, sizesN]; omega
  | x :: r, b => by rw [List.cons_append, sizesN, sizesN, sizes_app r b]; omega
theorem size_kids (t : Tm) : sizeN t = sizesN t.args + 1 := by cases t; rw [sizeN]; rfl
theorem cflat_size : ∀ (vs : List Int) (K : Nat) (q : List Tm) (i next : Nat) (seen : List Int), sizesN q ≤ K → (flatI vs K q i next seen).length = sizesN q
  | vs, 0, q, i, next, seen, h => by rw [flatI, List.length_nil]; omega
  | vs, K + 1, [], i, next, seen, h => by rw [flatI, sizesN]; rfl
  | vs, K + 1, t :: q, i, next, seen, h => by
    have hk := size_kids t
    rw [sizesN] at h
    rw [flatI, List.length_cons, cflat_size vs K _ _ _ _ (by rw [sizes_app]; omega), sizes_app, sizesN]
    omega
theorem bfs_take : ∀ (K : Nat) (q : List Tm), sizesN q ≤ K → (bfsT K q).take q.length = q
  | 0, q, h => by
    cases q with
    | nil => rfl
    | cons t q => rw [sizesN] at h; have := size_pos t; omega
  | K + 1, [], h => by simp
  | K + 1, t :: q, h => by
    have hk := size_kids t
    rw [sizesN] at h
    have ih := bfs_take K (q ++ t.args) (by rw [sizes_app]; omega)
    have h2 := congrArg (List.take q.length) ih
    rw [List.take_take, List.take_left, List.length_append, Nat.min_eq_left (by omega)] at h2
    rw [bfsT, List.length_cons, List.take_succ_cons, h2]
theorem bfs_kids {K : Nat} {q args : List Tm} (h : sizesN (q ++ args) ≤ K) : ((bfsT K (q ++ args)).drop q.length).take args.length = args := by
  have h1 := bfs_take K (q ++ args) h
  have h2 := congrArg (List.drop q.length) h1
  rw [List.drop_left, List.drop_take, List.length_append, Nat.add_sub_cancel_left] at h2
  exact h2
/-- A register's term, the ones behind it being known. -/
def insT (ts : List Tm) (i : Nat) (x : InsM) : Tm :=
  if x.op = opVar ∨ x.op = opVal then varV x.b else if x.op = opInt then .mk 1 x.n ⟨#[]⟩ [] else if x.op = opAtom then nameT x.s []
  else nameT x.s ((ts.drop (x.c.toNat - (i + 1))).take x.b.toNat)
def backsT : List InsM → Nat → List Tm
  | [], _ => []
  | x :: r, i => insT (backsT r (i + 1)) i x :: backsT r (i + 1)
theorem formed_kids {t : Tm} (h : formedT t = true) : (t.k = 0 ∧ t = varV t.n) ∨ (t.k = 1 ∧ t = .mk 1 t.n ⟨#[]⟩ []) ∨ (t.k = 2 ∧ t = nameT t.s t.args) := by
  obtain ⟨k, n, s, ts⟩ := t
  rw [formedT, Bool.and_eq_true] at h
  have hp := h.1
  unfold plainT at hp
  by_cases h0 : k = 0
  · rw [if_pos h0] at hp
    simp only [Bool.and_eq_true, decide_eq_true_eq, List.isEmpty_iff] at hp
    left
    refine ⟨h0, ?_⟩
    subst h0
    obtain rfl : ts = [] := List.length_eq_zero_iff.1 hp.2
    obtain rfl : s = ⟨#[]⟩ := bytes_eq hp.1.2
    rfl
  · rw [if_neg h0] at hp
    by_cases h1 : k = 1
    · rw [if_pos h1] at hp
      simp only [Bool.and_eq_true, decide_eq_true_eq, List.isEmpty_iff] at hp
      right; left
      refine ⟨h1, ?_⟩
      subst h1
      obtain rfl : ts = [] := List.length_eq_zero_iff.1 hp.2
      obtain rfl : s = ⟨#[]⟩ := bytes_eq hp.1
      rfl
    · rw [if_neg h1] at hp
      by_cases h2 : k = 2
      · rw [if_pos h2] at hp
        simp only [Bool.and_eq_true, decide_eq_true_eq] at hp
        right; right
        refine ⟨h2, ?_⟩
        subst h2
        obtain rfl : n = 0 := hp.1.1.1
        rfl
      · rw [if_neg h2] at hp; cases hp
theorem formedL_app : ∀ (a b : List Tm), formedL (a ++ b) = (formedL a && formedL b)
  | [], b => by rw [List.nil_append, formedL]; rfl
  | x :: r, b => by rw [List.cons_append, formedL, formedL, formedL_app r b, Bool.and_assoc]
theorem formed_argsL {t : Tm} (h : formedT t = true) : formedL t.args = true := by
  obtain ⟨k, n, s, ts⟩ := t
  rw [formedT, Bool.and_eq_true] at h
  exact h.2
theorem sub_name (A : Int → Tm) (s : ByteArray) (ts : List Tm) : subT A (nameT s ts) = nameT s (ts.map (subT A)) := by
  unfold nameT
  rw [sub_not _ (by omega), subL_map]
/-- The steps make the terms again, but for names. -/
theorem backs_flat (vs : List Int) : ∀ (K : Nat) (q : List Tm) (i next : Nat) (seen : List Int), sizesN q ≤ K → next = i + q.length → formedL q = true → backsT (flatI vs K q i next seen) i = (bfsT K q).map (subT (renV vs 0))
  | 0, q, i, next, seen, h, hn, hf => by rw [flatI, bfsT, backsT]; rfl
  | K + 1, [], i, next, seen, h, hn, hf => by rw [flatI, bfsT, backsT]; rfl
  | K + 1, t :: q, i, next, seen, h, hn, hf => by
    have hk := size_kids t
    rw [sizesN] at h
    rw [formedL, Bool.and_eq_true] at hf
    have hs : sizesN (q ++ t.args) ≤ K := by rw [sizes_app]; omega
    have ih := backs_flat vs K (q ++ t.args) (i + 1) (next + t.args.length) (seenI seen t) hs (by rw [hn, List.length_cons, List.length_append]; omega) (by rw [formedL_app, hf.2, formed_argsL hf.1]; rfl)
    rw [flatI, bfsT, backsT, ih, List.map_cons]
    congr 1
    rcases formed_kids hf.1 with ⟨h0, e⟩ | ⟨h1, e⟩ | ⟨h2, e⟩
    · have hsub : subT (renV vs 0) t = varV (posI vs t.n : Nat) := by
        have h3 : subT (renV vs 0) (varV t.n) = varV (posI vs t.n : Nat) := by
          unfold varV
          rw [sub_var]
          unfold renV varV
          rw [Int.zero_add]
        exact (congrArg (subT (renV vs 0)) e).trans h3
      rw [hsub]
      by_cases hc : seen.contains t.n = true
      · have hst : stepI vs seen i next t = ⟨opVal, i, (posI vs t.n : Nat), 0, 0, ⟨#[]⟩⟩ := by unfold stepI; rw [if_pos h0, if_pos hc]
        rw [hst]
        show (if opVal = opVar ∨ opVal = opVal then _ else _) = _
        rw [if_pos (Or.inr rfl)]
      · have hst : stepI vs seen i next t = ⟨opVar, i, (posI vs t.n : Nat), 0, 0, ⟨#[]⟩⟩ := by unfold stepI; rw [if_pos h0, if_neg hc]
        rw [hst]
        show (if opVar = opVar ∨ opVar = opVal then _ else _) = _
        rw [if_pos (Or.inl rfl)]
    · have hsub : subT (renV vs 0) t = .mk 1 t.n ⟨#[]⟩ [] := by
        have h3 : subT (renV vs 0) (.mk 1 t.n ⟨#[]⟩ []) = .mk 1 t.n ⟨#[]⟩ [] := by rw [sub_not _ (by decide), subL]
        exact (congrArg (subT (renV vs 0)) e).trans h3
      have hst : stepI vs seen i next t = ⟨opInt, i, 0, 0, t.n, ⟨#[]⟩⟩ := by unfold stepI; rw [if_neg (by rw [h1]; decide), if_pos h1]
      rw [hsub, hst]
      show (if opInt = opVar ∨ opInt = opVal then _ else if opInt = opInt then _ else _) = _
      rw [if_neg (by decide), if_pos rfl]
    · have hsub : subT (renV vs 0) t = nameT t.s (t.args.map (subT (renV vs 0))) := (congrArg (subT (renV vs 0)) e).trans (sub_name _ _ _)
      rw [hsub]
      have k0 : ¬ t.k = 0 := by rw [h2]; decide
      have k1 : ¬ t.k = 1 := by rw [h2]; decide
      by_cases ha : t.args.length = 0
      · have hst : stepI vs seen i next t = ⟨opAtom, i, 0, 0, 0, t.s⟩ := by unfold stepI; rw [if_neg k0, if_neg k1, if_pos ha]
        rw [hst, List.length_eq_zero_iff.1 ha]
        show (if opAtom = opVar ∨ opAtom = opVal then _ else if opAtom = opInt then _ else if opAtom = opAtom then _ else _) = _
        rw [if_neg (by decide), if_neg (by decide), if_pos rfl]
        rfl
      · have hst : stepI vs seen i next t = ⟨opComp, i, (t.args.length : Nat), (next : Nat), 0, t.s⟩ := by unfold stepI; rw [if_neg k0, if_neg k1, if_neg ha]
        rw [hst]
        show (if opComp = opVar ∨ opComp = opVal then _ else if opComp = opInt then _ else if opComp = opAtom then _ else _) = _
        rw [if_neg (by decide), if_neg (by decide), if_neg (by decide)]
        have hd : ((next : Nat) : Int).toNat - (i + 1) = q.length := by rw [Int.toNat_natCast, hn, List.length_cons]; omega
        show nameT t.s (List.take ((t.args.length : Nat) : Int).toNat (List.drop (((next : Nat) : Int).toNat - (i + 1)) _)) = _
        rw [hd, Int.toNat_natCast, ← List.map_drop, ← List.map_take, bfs_kids hs]
/-- The term that steps make, of that name. -/
def backC (c : CodeM) (name : ByteArray) : Tm := nameT name ((backsT c.l 0).take c.ar.toNat)
theorem back_head {t : Tm} (hg : goodT t = true) (hk : t.k = 2) : backC (headC t) t.s = renT 0 t := by
  have hf := (good_parts hg).2.2
  have he : t = nameT t.s t.args := by
    rcases formed_kids hf with ⟨h, _⟩ | ⟨h, _⟩ | ⟨_, h⟩
    · omega
    · omega
    · exact h
  unfold backC headC
  show nameT t.s (List.take ((t.args.length : Nat) : Int).toNat (backsT (flatI (varsT t []) (sizesN t.args) t.args 0 t.args.length []) 0)) = _
  rw [backs_flat _ _ _ _ _ _ (Nat.le_refl _) (by omega) (formed_argsL hf), Int.toNat_natCast, ← List.map_take, bfs_take _ _ (Nat.le_refl _)]
  unfold renT
  have h2 := sub_name (renV (varsT t []) 0) t.s t.args
  rw [← he] at h2
  exact h2.symm
end Go.Proofs.Ytannchfoldnhcaa
/- Chapter 15, what steps may be; a head's steps may be. Nothing here is walked. -/
namespace Go.Proofs.Ytannchfoldnhcaa
set_option linter.unusedVariables false

def nmOk (s : ByteArray) : Bool := plainT 2 0 s.data.toList 0
def noS (s : ByteArray) : Bool := s.data.toList.isEmpty
/-- A step of the i-th register that may be, next being the first register that nobody has, these slots having been met. -/
def insOk (sl : Int) (i next : Nat) (seen : List Int) (x : InsM) : Bool :=
  x.a == (i : Int) && (if x.op = opVar then decide (0 ≤ x.b) && decide (x.b < sl) && !seen.contains x.b && x.c == 0 && x.n == 0 && noS x.s
    else if x.op = opVal then seen.contains x.b && x.c == 0 && x.n == 0 && noS x.s
    else if x.op = opInt then x.b == 0 && x.c == 0 && noS x.s
    else if x.op = opAtom then x.b == 0 && x.c == 0 && x.n == 0 && nmOk x.s
    else if x.op = opComp then decide (1 ≤ x.b) && decide (x.b ≤ 8) && x.c == (next : Int) && x.n == 0 && nmOk x.s
    else false)
def goC (sl : Int) : List InsM → Nat → Nat → List Int → Option (Nat × List Int)
  | [], _, next, seen => some (next, seen)
  | x :: r, i, next, seen => if insOk sl i next seen x = true then goC sl r (i + 1) (if x.op = opComp then next + x.b.toNat else next) (if x.op = opVar then seen ++ [x.b] else seen) else none
def goodC (c : CodeM) : Bool := decide (0 ≤ c.ar) && decide (c.ar ≤ 8) && decide (c.rg ≤ 2000) && ((c.l.length : Nat) : Int) == c.rg && (match goC c.sl c.l 0 c.ar.toNat [] with
  | some (next, seen) => ((next : Nat) : Int) == c.rg && ((seen.length : Nat) : Int) == c.sl
  | none => false)
/-- The variables met, all the way. -/
def seenF : Nat → List Tm → List Int → List Int
  | 0, _, seen => seen
  | _ + 1, [], seen => seen
  | K + 1, t :: q, seen => seenF K (q ++ t.args) (seenI seen t)
theorem mem_seenI {seen : List Int} {t : Tm} {n : Int} : n ∈ seenI seen t ↔ n ∈ seen ∨ (t.k = 0 ∧ n = t.n) := by
  unfold seenI
  by_cases h0 : t.k = 0
  · rw [if_pos h0]
    by_cases hc : seen.contains t.n = true
    · rw [if_pos hc]
      exact ⟨Or.inl, fun h => h.elim id (fun h => by rw [h.2]; simpa using hc)⟩
    · rw [if_neg hc, List.mem_append, List.mem_singleton]
      exact ⟨fun h => h.imp id (fun h => ⟨h0, h⟩), fun h => h.imp id (fun h => h.2)⟩
  · rw [if_neg h0]
    exact ⟨Or.inl, fun h => h.elim id (fun h => absurd h.1 h0)⟩
theorem nodup_seenI {seen : List Int} {t : Tm} (h : seen.Nodup) : (seenI seen t).Nodup := by
  unfold seenI
  by_cases h0 : t.k = 0
  · rw [if_pos h0]
    by_cases hc : seen.contains t.n = true
    · rw [if_pos hc]; exact h
    · rw [if_neg hc]
      have hm : t.n ∉ seen := fun hm => hc (by simpa using hm)
      exact List.nodup_append.2 ⟨h, by simp, fun a ha b hb => by simp at hb; subst hb; exact fun e => hm (e ▸ ha)⟩
  · rw [if_neg h0]; exact h
theorem occL_app : ∀ a b : List Tm, occL (a ++ b) = occL a ++ occL b
  | [], b => by rw [List.nil_append, occL, List.nil_append]
  | x :: r, b => by rw [List.cons_append, occL, occL, occL_app r b, List.append_assoc]
theorem occ_kids {t : Tm} (h : formedT t = true) {n : Int} : n ∈ occT t ↔ (t.k = 0 ∧ n = t.n) ∨ n ∈ occL t.args := by
  rcases formed_kids h with ⟨h0, e⟩ | ⟨h1, e⟩ | ⟨h2, e⟩
  · rw [e]
    unfold varV
    rw [occ_var]
    simp [Tm.k, Tm.n, Tm.args, occL]
  · have : occT t = occL t.args := by rw [e, occ_not (by decide)]; rfl
    rw [this]
    exact ⟨Or.inr, fun h => h.elim (fun h => by omega) id⟩
  · have : occT t = occL t.args := by
      have h3 : occT (nameT t.s t.args) = occL t.args := by unfold nameT; rw [occ_not (by decide)]
      rw [← e] at h3
      exact h3
    rw [this]
    exact ⟨Or.inr, fun h => h.elim (fun h => by omega) id⟩
theorem seenF_mem : ∀ (K : Nat) (q : List Tm) (seen : List Int) (n : Int), sizesN q ≤ K → formedL q = true → (n ∈ seenF K q seen ↔ n ∈ seen ∨ n ∈ occL q)
  | 0, q, seen, n, h, hf => by
    cases q with
    | nil => rw [seenF, occL]; simp
    | cons t q => rw [sizesN] at h; have := size_pos t; omega
  | K + 1, [], seen, n, h, hf => by rw [seenF, occL]; simp
  | K + 1, t :: q, seen, n, h, hf => by
    have hk := size_kids t
    rw [sizesN] at h
    rw [formedL, Bool.and_eq_true] at hf
    rw [seenF, seenF_mem K _ _ n (by rw [sizes_app]; omega) (by rw [formedL_app, hf.2, formed_argsL hf.1]; rfl), mem_seenI, occL_app, List.mem_append, occL, List.mem_append, occ_kids hf.1]
    constructor
    · rintro ((h | h) | h | h)
      · exact Or.inl h
      · exact Or.inr (Or.inl (Or.inl h))
      · exact Or.inr (Or.inr h)
      · exact Or.inr (Or.inl (Or.inr h))
    · rintro (h | (h | h) | h)
      · exact Or.inl (Or.inl h)
      · exact Or.inl (Or.inr h)
      · exact Or.inr (Or.inr h)
      · exact Or.inr (Or.inl h)
theorem seenF_nodup : ∀ (K : Nat) (q : List Tm) (seen : List Int), seen.Nodup → (seenF K q seen).Nodup
  | 0, q, seen, h => by rw [seenF]; exact h
  | K + 1, [], seen, h => by rw [seenF]; exact h
  | K + 1, t :: q, seen, h => by rw [seenF]; exact seenF_nodup K _ _ (nodup_seenI h)
theorem pos_inj {l : List Int} {x y : Int} (hx : x ∈ l) (hy : y ∈ l) (h : posI l x = posI l y) : x = y := by
  have h1 := pos_at hx
  have h2 := pos_at hy
  rw [h, h2] at h1
  injection h1 with h1
  exact h1.symm
def slotI (vs : List Int) (n : Int) : Int := (posI vs n : Nat)
theorem slot_contains {vs seen : List Int} (hs : ∀ x ∈ seen, x ∈ vs) {n : Int} (hn : n ∈ vs) : (seen.map (slotI vs)).contains (slotI vs n) = seen.contains n := by
  rw [Bool.eq_iff_iff]
  simp only [List.contains_iff_mem, List.mem_map]
  constructor
  · rintro ⟨x, hx, e⟩
    have : x = n := pos_inj (hs x hx) hn (by unfold slotI at e; omega)
    rw [← this]; exact hx
  · intro h; exact ⟨n, h, rfl⟩
theorem plain_kids {t : Tm} (h : formedT t = true) (hk : t.k = 2) : nmOk t.s = true ∧ t.args.length ≤ 8 := by
  obtain ⟨k, n, s, ts⟩ := t
  obtain rfl : k = 2 := hk
  rw [formedT, Bool.and_eq_true] at h
  have hp := h.1
  unfold plainT at hp
  rw [if_neg (by decide), if_neg (by decide), if_pos rfl] at hp
  simp only [Bool.and_eq_true, decide_eq_true_eq] at hp
  refine ⟨?_, hp.1.2⟩
  show plainT 2 0 s.data.toList 0 = true
  unfold plainT
  rw [if_neg (by decide), if_neg (by decide), if_pos rfl]
  simp only [Bool.and_eq_true, decide_eq_true_eq]
  exact ⟨⟨⟨trivial, hp.1.1.2⟩, by omega⟩, hp.2⟩
/-- A head's steps go through. -/
theorem go_flat (vs : List Int) : ∀ (K : Nat) (q : List Tm) (i next : Nat) (seen : List Int), sizesN q ≤ K → next = i + q.length → formedL q = true → (∀ n ∈ occL q, n ∈ vs) → (∀ n ∈ seen, n ∈ vs) →
    goC (vs.length : Nat) (flatI vs K q i next seen) i next (seen.map (slotI vs)) = some (i + sizesN q, (seenF K q seen).map (slotI vs))
  | 0, q, i, next, seen, h, hn, hf, ho, hs => by
    cases q with
    | nil => rw [flatI, goC, seenF, sizesN, hn]; rfl
    | cons t q => rw [sizesN] at h; have := size_pos t; omega
  | K + 1, [], i, next, seen, h, hn, hf, ho, hs => by rw [flatI, goC, seenF, sizesN, hn]; rfl
  | K + 1, t :: q, i, next, seen, h, hn, hf, ho, hs => by
    have hk := size_kids t
    rw [sizesN] at h
    rw [formedL, Bool.and_eq_true] at hf
    have hoc : ∀ n, n ∈ occT t ∨ n ∈ occL q → n ∈ vs := fun n h => ho n (by rw [occL, List.mem_append]; exact h)
    have ih := go_flat vs K (q ++ t.args) (i + 1) (next + t.args.length) (seenI seen t) (by rw [sizes_app]; omega) (by rw [hn, List.length_cons, List.length_append]; omega) (by rw [formedL_app, hf.2, formed_argsL hf.1]; rfl)
      (fun n h => by
        rw [occL_app, List.mem_append] at h
        rcases h with h | h
        · exact hoc n (Or.inr h)
        · exact hoc n (Or.inl ((occ_kids hf.1).2 (Or.inr h))))
      (fun n h => by
        rcases mem_seenI.1 h with h | h
        · exact hs n h
        · exact hoc n (Or.inl ((occ_kids hf.1).2 (Or.inl h))))
    have hsum : i + 1 + sizesN (q ++ t.args) = i + sizesN (t :: q) := by rw [sizes_app, sizesN]; omega
    rw [hsum] at ih
    rw [flatI, goC, seenF]
    rcases formed_kids hf.1 with ⟨h0, e⟩ | ⟨h1, e⟩ | ⟨h2, e⟩
    · have hv : t.n ∈ vs := hoc _ (Or.inl ((occ_kids hf.1).2 (Or.inl ⟨h0, rfl⟩)))
      have hlt : slotI vs t.n < (vs.length : Nat) := by have := pos_lt hv; unfold slotI; omega
      have hge : 0 ≤ slotI vs t.n := by unfold slotI; omega
      have hal : t.args.length = 0 := by rw [e]; rfl
      rw [hal, Nat.add_zero] at ih
      by_cases hc : seen.contains t.n = true
      · have hst : stepI vs seen i next t = ⟨opVal, i, slotI vs t.n, 0, 0, ⟨#[]⟩⟩ := by unfold stepI; rw [if_pos h0, if_pos hc]; rfl
        have hok : insOk (vs.length : Nat) i next (seen.map (slotI vs)) ⟨opVal, i, slotI vs t.n, 0, 0, ⟨#[]⟩⟩ = true := by
          show ((i : Int) == (i : Int) && (if opVal = opVar then _ else if opVal = opVal then ((seen.map (slotI vs)).contains (slotI vs t.n) && (0 : Int) == 0 && (0 : Int) == 0 && noS ⟨#[]⟩) else _)) = true
          rw [if_neg (by decide), if_pos rfl, slot_contains hs hv, hc]
          simp [noS]
        rw [hst, if_pos hok]
        show goC _ _ (i + 1) (if opVal = opComp then _ else next) (if opVal = opVar then _ else _) = _
        rw [if_neg (by decide), if_neg (by decide), hal, Nat.add_zero]
        have hsi : seenI seen t = seen := by unfold seenI; rw [if_pos h0, if_pos hc]
        rw [hsi] at ih ⊢
        exact ih
      · have hcf : seen.contains t.n = false := by simpa using hc
        have hst : stepI vs seen i next t = ⟨opVar, i, slotI vs t.n, 0, 0, ⟨#[]⟩⟩ := by unfold stepI; rw [if_pos h0, if_neg hc]; rfl
        have hok : insOk (vs.length : Nat) i next (seen.map (slotI vs)) ⟨opVar, i, slotI vs t.n, 0, 0, ⟨#[]⟩⟩ = true := by
          show ((i : Int) == (i : Int) && (if opVar = opVar then (decide (0 ≤ slotI vs t.n) && decide (slotI vs t.n < (vs.length : Nat)) && !(seen.map (slotI vs)).contains (slotI vs t.n) && (0 : Int) == 0 && (0 : Int) == 0 && noS ⟨#[]⟩) else _)) = true
          rw [if_pos rfl, slot_contains hs hv, hcf]
          simp [noS, hge, hlt]
        rw [hst, if_pos hok]
        show goC _ _ (i + 1) (if opVar = opComp then _ else next) (if opVar = opVar then _ else _) = _
        rw [if_neg (by decide), if_pos rfl, hal, Nat.add_zero]
        have hsi : seenI seen t = seen ++ [t.n] := by unfold seenI; rw [if_pos h0, if_neg hc]
        rw [hsi] at ih ⊢
        rw [List.map_append] at ih
        exact ih
    · have k0 : ¬ t.k = 0 := by rw [h1]; decide
      have hal : t.args.length = 0 := by rw [e]; rfl
      rw [hal, Nat.add_zero] at ih
      have hst : stepI vs seen i next t = ⟨opInt, i, 0, 0, t.n, ⟨#[]⟩⟩ := by unfold stepI; rw [if_neg k0, if_pos h1]
      have hok : insOk (vs.length : Nat) i next (seen.map (slotI vs)) ⟨opInt, i, 0, 0, t.n, ⟨#[]⟩⟩ = true := by
        show ((i : Int) == (i : Int) && (if opInt = opVar then _ else if opInt = opVal then _ else if opInt = opInt then ((0 : Int) == 0 && (0 : Int) == 0 && noS ⟨#[]⟩) else _)) = true
        rw [if_neg (by decide), if_neg (by decide), if_pos rfl]
        simp [noS]
      rw [hst, if_pos hok]
      show goC _ _ (i + 1) (if opInt = opComp then _ else next) (if opInt = opVar then _ else _) = _
      rw [if_neg (by decide), if_neg (by decide), hal, Nat.add_zero]
      have hsi : seenI seen t = seen := by unfold seenI; rw [if_neg k0]
      rw [hsi] at ih ⊢
      exact ih
    · have k0 : ¬ t.k = 0 := by rw [h2]; decide
      have k1 : ¬ t.k = 1 := by rw [h2]; decide
      have hsi : seenI seen t = seen := by unfold seenI; rw [if_neg k0]
      obtain ⟨hnm, h8⟩ := plain_kids hf.1 h2
      rw [hsi] at ih ⊢
      by_cases ha : t.args.length = 0
      · have hst : stepI vs seen i next t = ⟨opAtom, i, 0, 0, 0, t.s⟩ := by unfold stepI; rw [if_neg k0, if_neg k1, if_pos ha]
        have hok : insOk (vs.length : Nat) i next (seen.map (slotI vs)) ⟨opAtom, i, 0, 0, 0, t.s⟩ = true := by
          show ((i : Int) == (i : Int) && (if opAtom = opVar then _ else if opAtom = opVal then _ else if opAtom = opInt then _ else if opAtom = opAtom then ((0 : Int) == 0 && (0 : Int) == 0 && (0 : Int) == 0 && nmOk t.s) else _)) = true
          rw [if_neg (by decide), if_neg (by decide), if_neg (by decide), if_pos rfl, hnm]
          simp
        rw [ha, Nat.add_zero] at ih
        rw [hst, if_pos hok]
        show goC _ _ (i + 1) (if opAtom = opComp then _ else next) (if opAtom = opVar then _ else _) = _
        rw [if_neg (by decide), if_neg (by decide), ha, Nat.add_zero]
        exact ih
      · have hst : stepI vs seen i next t = ⟨opComp, i, (t.args.length : Nat), (next : Nat), 0, t.s⟩ := by unfold stepI; rw [if_neg k0, if_neg k1, if_neg ha]
        have hok : insOk (vs.length : Nat) i next (seen.map (slotI vs)) ⟨opComp, i, (t.args.length : Nat), (next : Nat), 0, t.s⟩ = true := by
          show ((i : Int) == (i : Int) && (if opComp = opVar then _ else if opComp = opVal then _ else if opComp = opInt then _ else if opComp = opAtom then _ else if opComp = opComp then (decide ((1 : Int) ≤ (t.args.length : Nat)) && decide (((t.args.length : Nat) : Int) ≤ 8) && ((next : Nat) : Int) == (next : Int) && (0 : Int) == 0 && nmOk t.s) else false)) = true
          rw [if_neg (by decide), if_neg (by decide), if_neg (by decide), if_neg (by decide), if_pos rfl, hnm]
          have h1 : (1 : Int) ≤ (t.args.length : Nat) := by omega
          have h3 : ((t.args.length : Nat) : Int) ≤ 8 := by omega
          simp only [decide_eq_true h1, decide_eq_true h3]
          simp
        rw [hst, if_pos hok]
        show goC _ _ (i + 1) (if opComp = opComp then next + ((t.args.length : Nat) : Int).toNat else next) (if opComp = opVar then _ else _) = _
        rw [if_pos rfl, if_neg (by decide), Int.toNat_natCast]
        exact ih
theorem head_good {t : Tm} (hg : goodT t = true) (hk : t.k = 2) : goodC (headC t) = true := by
  obtain ⟨g1, _, hf⟩ := good_parts hg
  obtain ⟨_, h8⟩ := plain_kids hf hk
  have hsz := size_kids t
  have hlen : (flatI (varsT t []) (sizesN t.args) t.args 0 t.args.length []).length = sizesN t.args := cflat_size _ _ _ _ _ _ (Nat.le_refl _)
  have hocc : ∀ n, n ∈ occL t.args ↔ n ∈ varsT t [] := fun n => by
    rw [mem_vars2, occ_kids hf]
    constructor
    · exact fun h => Or.inr (Or.inr h)
    · rintro (h | h | h)
      · cases h
      · omega
      · exact h
  have hgo := go_flat (varsT t []) (sizesN t.args) t.args 0 t.args.length [] (Nat.le_refl _) (by omega) (formed_argsL hf) (fun n h => (hocc n).1 h) (fun n h => by cases h)
  have hperm : (seenF (sizesN t.args) t.args []).Perm (varsT t []) := by
    rw [List.perm_ext_iff_of_nodup (seenF_nodup _ _ _ List.nodup_nil) (vars_nodup t [] List.nodup_nil)]
    intro n
    rw [seenF_mem _ _ _ n (Nat.le_refl _) (formed_argsL hf), ← hocc n]
    simp
  have hl := hperm.length_eq
  show (decide (0 ≤ ((t.args.length : Nat) : Int)) && decide (((t.args.length : Nat) : Int) ≤ 8) && decide (((sizesN t.args : Nat) : Int) ≤ 2000) && (((flatI (varsT t []) (sizesN t.args) t.args 0 t.args.length []).length : Nat) : Int) == ((sizesN t.args : Nat) : Int) &&
    (match goC ((varsT t []).length : Nat) (flatI (varsT t []) (sizesN t.args) t.args 0 t.args.length []) 0 ((t.args.length : Nat) : Int).toNat [] with
      | some (next, seen) => ((next : Nat) : Int) == ((sizesN t.args : Nat) : Int) && ((seen.length : Nat) : Int) == (((varsT t []).length : Nat) : Int)
      | none => false)) = true
  rw [List.map_nil] at hgo
  rw [Int.toNat_natCast, hgo, hlen]
  have a1 : (0 : Int) ≤ (t.args.length : Nat) := by omega
  have a2 : ((t.args.length : Nat) : Int) ≤ 8 := by omega
  have a3 : ((sizesN t.args : Nat) : Int) ≤ 2000 := by omega
  simp only [decide_eq_true a1, decide_eq_true a2, decide_eq_true a3, List.length_map, hl, Nat.zero_add]
  simp
end Go.Proofs.Ytannchfoldnhcaa
/- Chapter 15, CodeMatch's lists; Back's answer for a head's steps. Nothing here is walked. -/
namespace Go.Proofs.Ytannchfoldnhcaa
set_option linter.unusedVariables false

mutual
theorem cvars_len : ∀ (t : Tm) (l : List Int), (varsT t l).length ≤ l.length + sizeN t
  | .mk k n s ts, l => by
    rw [varsT, sizeN]
    by_cases hk : k = 0
    · rw [if_pos hk]
      split
      · omega
      · simp
    · rw [if_neg hk]
      have := cvarss_len ts l
      omega
theorem cvarss_len : ∀ (ts : List Tm) (l : List Int), (varsL ts l).length ≤ l.length + sizesN ts
  | [], l => by rw [varsL, sizesN]; omega
  | x :: r, l => by
    rw [varsL, sizesN]
    have h1 := cvars_len x l
    have h2 := cvarss_len r (varsT x l)
    omega
end
/-- Alike but for names (as chapter 11's Alike). -/
def alikeQ (x y : Tm) : Bool := goodT x && goodT y && sameT (renT 0 x) (renT 0 y)
/-- What Back answers. -/
def backCE (c : CodeM) (name : ByteArray) : Tm × Int := if goodC c = true ∧ goodT (backC c name) = true then (backC c name, 0) else (zeroT, 1)
theorem backCE_head {t : Tm} (hg : goodT t = true) (hk : t.k = 2) : backCE (headC t) t.s = (renT 0 t, 0) ∧ alikeQ (renT 0 t) t = true := by
  have hf := (good_parts hg).2.2
  have hl : (varsT t []).length ≤ 2000 := by
    have h1 := cvars_len t []
    have h2 := (good_parts hg).1
    simp at h1
    omega
  have hs := ren_same hf (base := 0) (by omega) (by omega)
  constructor
  · unfold backCE
    rw [back_head hg hk, if_pos ⟨head_good hg hk, by rw [hs.2]; exact hg⟩]
  · unfold alikeQ
    rw [hs.2, hg, hs.1, same_self]
    rfl
theorem head_nums {t : Tm} (hk : t.k = 2) : (headC t).ar = (t.args.length : Nat) ∧ (headC t).sl = ((varsT t []).length : Nat) ∧ (headC t).rg = (sizeN t : Int) - 1 := by
  refine ⟨rfl, rfl, ?_⟩
  have := size_kids t
  show ((sizesN t.args : Nat) : Int) = _
  omega
end Go.Proofs.Ytannchfoldnhcaa
/- Small facts of ours about endings, byte strings and slices of strings in memory; nothing here speaks of one program. -/
namespace Go.Proofs.Ytannchfoldnhcaa
open Go.RowKit

theorem ret_bool {a b : Bool} (h : a = b) : Ending.returned (.bool a) = .returned (.bool b) := by rw [h]
theorem ret_int {k : IntKind} {a b : Int} (h : a = b) : Ending.returned (.int k a) = .returned (.int k b) := by rw [h]
/-- Whatever lay in W lies in w as it lay. -/
abbrev Ext (W w : World) : Prop := Below W.heap.size W w
theorem Ext.trans' {a b c : World} (h : Below a.heap.size a b) (k : Below b.heap.size b c) : Below a.heap.size a c := h.trans (k.mono h.size)
end Go.Proofs.Ytannchfoldnhcaa
/- How the arguments of a law are opened: from the form's reading to our own predicates. Nothing here speaks of one program. -/
namespace Go.Proofs.Ytannchfoldnhcaa
open Go.RowKit Go.ChangeShapes Go.WideShapes Go.ChangeAt

/-- The law's end: this bool, and nothing that was there has turned. -/
def IsBool (W : World) (b : Bool) (e : Ending) (w' : World) : Prop := e = .returned (.bool b) ∧ Below W.heap.size W w'

section
variable {H : Type} {enc : TypeId × Value → H} {P : Program} {W : World}

theorem weights_ok {ts : List TypeId} {ds : List (DataW H)} (h : (DataW.weightsEach P ts ds).all (· ≤ reachBytes) = true) {j : Nat} {t : TypeId} {d : DataW H} (ht : ts[j]? = some t) (hd : ds[j]? = some d) :
    ∀ n ∈ d.weights P t, n ≤ 140737488351232 := fun n hn => by
  have := List.all_eq_true.1 h n (DataW.weights_mem_each ht hd n hn)
  have e : reachBytes = 140737488351232 := by decide
  simpa [e] using this
theorem weights_all_mem {e : TypeId} : ∀ {l : List (DataW H)} {d : DataW H}, d ∈ l → ∀ n ∈ d.weights P e, n ∈ DataW.weightsAll P e l
  | a :: r, d, h, n, hn => by
    simp only [DataW.weightsAll, List.mem_append]
    rcases List.mem_cons.1 h with rfl | h
    · exact Or.inl hn
    · exact Or.inr (weights_all_mem h n hn)

theorem lt_of_trod {t : TypeId} {v : Value} {d : DataW H} {ps : List MemPlace} (h : DataW.Trod enc P W 0 (fun _ => true) true t v d ps) : ∀ x ∈ ps, x.block < W.heap.size := by
  obtain ⟨m, hm⟩ := h; exact DataW.trod_lt m _ _ _ hm

theorem add_plain (b o i : Nat) : (⟨b, o, none⟩ : Addr).add i = ⟨b, o + i, none⟩ := by
  unfold Addr.add; split
  · rename_i h; rw [h]; rfl
  · rfl
theorem spot_of_cell {w : World} {x : Addr} {v : Value} (h : w.cell? (x.add 0) = some v) : x.spot = none := by
  rcases x with ⟨xb, xo, xs⟩
  cases xs with
  | none => rfl
  | some q =>
    exfalso
    rw [show (⟨xb, xo, some q⟩ : Addr).add 0 = ⟨xb, xo, some q⟩ from rfl] at h
    unfold World.cell? at h
    split at h <;> simp at h
end
end Go.Proofs.Ytannchfoldnhcaa
/- A slice of whatever elements that came in, opened element by element. Nothing here speaks of one program. -/
namespace Go.Proofs.Ytannchfoldnhcaa
open Go.RowKit Go.ChangeShapes Go.WideShapes Go.ChangeAt Go.Deep

/-- The value reads as these elements, of S cells each. -/
def Elems {α : Type} (S : Nat) (cells : α → List Value) (w : World) (v : Value) (xs : List α) : Prop :=
  ∃ (a : Option Addr) (cap : Nat), v = .slice a xs.length cap ∧ xs.length ≤ cap ∧ cap ≤ maxLen ∧
    (xs = [] ∨ ∃ b off, a = some ⟨b, off, none⟩ ∧ b < w.heap.size ∧ ∀ (i : Nat) (x : α), xs[i]? = some x → ∀ (j : Nat) (u : Value), (cells x)[j]? = some u → w.cell? ⟨b, off + (i * S + j), none⟩ = some u)
theorem Elems.ext {α : Type} {S : Nat} {cells : α → List Value} {w w' : World} {v : Value} {xs : List α} (h : Elems S cells w v xs) (hb : Below w.heap.size w w') : Elems S cells w' v xs := by
  obtain ⟨a, cap, h1, h2, h3, h6⟩ := h
  refine ⟨a, cap, h1, h2, h3, ?_⟩
  rcases h6 with h6 | ⟨b, off, e1, e2, e3⟩
  · exact Or.inl h6
  · exact Or.inr ⟨b, off, e1, Nat.lt_of_lt_of_le e2 hb.size, fun i x hx j u hu => cell_later hb (e3 i x hx j u hu)⟩

theorem list_choose {α : Type} {Q : Nat → α → Prop} : ∀ n : Nat, (∀ i, i < n → ∃ x, Q i x) → ∃ xs : List α, xs.length = n ∧ ∀ i x, xs[i]? = some x → Q i x
  | 0, _ => ⟨[], rfl, by simp⟩
  | n + 1, h => by
    obtain ⟨xs, hl, hx⟩ := list_choose n (fun i hi => h i (by omega))
    obtain ⟨y, hy⟩ := h n (by omega)
    refine ⟨xs ++ [y], by simp [hl], fun i x hi => ?_⟩
    by_cases hlt : i < xs.length
    · rw [List.getElem?_append_left hlt] at hi; exact hx i x hi
    · rw [List.getElem?_append_right (by omega)] at hi
      have hm := (List.getElem?_eq_some_iff.1 hi).1
      simp at hm
      have e : i = n := by omega
      subst e
      rw [hl, Nat.sub_self] at hi
      simp at hi; subst hi; exact hy

section
variable {H : Type} {enc : TypeId × Value → H} {P : Program} {W : World}
end
end Go.Proofs.Ytannchfoldnhcaa
