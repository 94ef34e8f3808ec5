import Derived.Lib.Hide
import Derived.WalkKit
import Derived.WalkSpells
import Derived.WalkLawsBesides
import Derived.ProofKit
import Derived.OpenShut
import Derived.SizedLaws
import Derived.SliceStrings
import Derived.Carry
import Derived.Stop.Joined
import Derived.Maps.AppendAt
import Derived.Deep.Upon
import Derived.Deep.AppendSrc
import Derived.Laws.CopyOwn
import Derived.Laws.CopyRow
import Derived.Laws.Pointers
import Derived.Deep.OwnRows
import Derived.Deep.QuietTactic
import Derived.BigQuiet
import Derived.OwnWalk
import Derived.Test.YtjhoekhfikcanaaRows
import Derived.Deep.Slices
set_option linter.unusedVariables false
set_option linter.unusedSimpArgs false
/- Terms as trees, as chapter 7 says them. Nothing here is walked. -/
namespace Go.Proofs.Ytjhoekhfikcanaa

inductive Tm where
  | mk (k n : Int) (s : ByteArray) (ts : List Tm)
namespace Tm
def k : Tm → Int | mk k _ _ _ => k
def n : Tm → Int | mk _ n _ _ => n
def s : Tm → ByteArray | mk _ _ s _ => s
def args : Tm → List Tm | mk _ _ _ ts => ts
end Tm
mutual
/-- How many terms it is made of. -/
def sizeN : Tm → Nat
  | .mk _ _ _ ts => sizesN ts + 1
def sizesN : List Tm → Nat
  | [] => 0
  | x :: r => sizeN x + sizesN r
end
mutual
def depthN : Tm → Nat
  | .mk _ _ _ ts => depthsN ts + 1
def depthsN : List Tm → Nat
  | [] => 0
  | x :: r => max (depthN x) (depthsN r)
end
def letterB (c : UInt8) : Bool := c == 9 || c == 10 || (decide (32 ≤ c) && decide (c ≤ 126))
/-- What a term's own fields may be. -/
def plainT (k n : Int) (s : List UInt8) (m : Nat) : Bool :=
  if k = 0 then decide (0 ≤ n) && decide (n < 2147483648) && s.isEmpty && decide (m = 0)
  else if k = 1 then s.isEmpty && decide (m = 0)
  else if k = 2 then decide (n = 0) && decide (s.length ≤ 64) && decide (m ≤ 8) && s.all letterB
  else false
mutual
def formedT : Tm → Bool
  | .mk k n s ts => plainT k n s.data.toList ts.length && formedL ts
def formedL : List Tm → Bool
  | [] => true
  | x :: r => formedT x && formedL r
end
def goodT (t : Tm) : Bool := decide (sizeN t ≤ 2000) && decide (depthN t ≤ 64) && formedT t
mutual
def sameT : Tm → Tm → Bool
  | .mk k n s ts, .mk k' n' s' ts' => k == k' && n == n' && s.data.toList == s'.data.toList && sameL ts ts'
def sameL : List Tm → List Tm → Bool
  | [], [] => true
  | x :: r, y :: q => sameT x y && sameL r q
  | _, _ => false
end
theorem size_pos (t : Tm) : 1 ≤ sizeN t := by cases t; rw [sizeN]; omega
theorem depth_pos (t : Tm) : 1 ≤ depthN t := by cases t; rw [depthN]; omega
theorem sizes_mem : ∀ {l : List Tm} {x : Tm}, x ∈ l → sizeN x ≤ sizesN l
  | y :: r, x, h => by
    rw [sizesN]
    rcases List.mem_cons.1 h with rfl | h
    · omega
    · have := sizes_mem h; omega
theorem depths_mem : ∀ {l : List Tm} {x : Tm}, x ∈ l → depthN x ≤ depthsN l
  | y :: r, x, h => by
    rw [depthsN]
    rcases List.mem_cons.1 h with rfl | h
    · omega
    · have := depths_mem h; omega
theorem formed_mem : ∀ {l : List Tm} {x : Tm}, formedL l = true → x ∈ l → formedT x = true
  | y :: r, x, hf, h => by
    rw [formedL, Bool.and_eq_true] at hf
    rcases List.mem_cons.1 h with rfl | h
    · exact hf.1
    · exact formed_mem hf.2 h
theorem good_parts {t : Tm} (h : goodT t = true) : sizeN t ≤ 2000 ∧ depthN t ≤ 64 ∧ formedT t = true := by
  unfold goodT at h
  simp only [Bool.and_eq_true, decide_eq_true_eq] at h
  exact ⟨h.1.1, h.1.2, h.2⟩
theorem good_of {t : Tm} (h1 : sizeN t ≤ 2000) (h2 : depthN t ≤ 64) (h3 : formedT t = true) : goodT t = true := by
  unfold goodT
  simp [h1, h2, h3]
/-- An Arg of a good one is good. -/
theorem good_arg {t x : Tm} (h : goodT t = true) (hx : x ∈ t.args) : goodT x = true := by
  obtain ⟨h1, h2, h3⟩ := good_parts h
  cases t with
  | mk k n s ts =>
    have hx' : x ∈ ts := hx
    rw [sizeN] at h1
    rw [depthN] at h2
    rw [formedT, Bool.and_eq_true] at h3
    have a := sizes_mem hx'
    have b := depths_mem hx'
    exact good_of (by omega) (by omega) (formed_mem h3.2 hx')
theorem bytes_eq {s t : ByteArray} (h : s.data.toList = t.data.toList) : s = t := by
  obtain ⟨⟨l⟩⟩ := s; obtain ⟨⟨m⟩⟩ := t; simp at h; rw [h]
mutual
theorem same_iff : ∀ (a b : Tm), sameT a b = true ↔ a = b
  | .mk k n s ts, .mk k' n' s' ts' => by
    rw [sameT]
    simp only [Bool.and_eq_true, beq_iff_eq, Tm.mk.injEq]
    rw [sames_iff ts ts']
    constructor
    · rintro ⟨⟨⟨h1, h2⟩, h3⟩, h4⟩; exact ⟨h1, h2, bytes_eq h3, h4⟩
    · rintro ⟨h1, h2, h3, h4⟩; exact ⟨⟨⟨h1, h2⟩, by rw [h3]⟩, h4⟩
theorem sames_iff : ∀ (a b : List Tm), sameL a b = true ↔ a = b
  | [], [] => by simp [sameL]
  | x :: r, y :: q => by
    rw [sameL]
    simp only [Bool.and_eq_true, List.cons.injEq]
    rw [same_iff x y, sames_iff r q]
  | [], y :: q => by simp [sameL]
  | x :: r, [] => by simp [sameL]
end
theorem same_self (a : Tm) : sameT a a = true := (same_iff a a).2 rfl
end Go.Proofs.Ytjhoekhfikcanaa
/- What stands for what, as chapter 11 says it: all the way in at once. Nothing here is walked. -/
namespace Go.Proofs.Ytjhoekhfikcanaa

def varV (n : Int) : Tm := .mk 0 n ⟨#[]⟩ []
mutual
/-- A term with all that its variables stand for. -/
def subT (S : Int → Tm) : Tm → Tm
  | .mk k n s ts => if k = 0 then S n else .mk k n s (subL S ts)
def subL (S : Int → Tm) : List Tm → List Tm
  | [] => []
  | x :: r => subT S x :: subL S r
end
mutual
/-- The numbers of its variables, each as often as it stands there. -/
def occT : Tm → List Int
  | .mk k n _ ts => if k = 0 then [n] else occL ts
def occL : List Tm → List Int
  | [] => []
  | x :: r => occT x ++ occL r
end
theorem subL_map (S : Int → Tm) : ∀ ts, subL S ts = ts.map (subT S)
  | [] => rfl
  | x :: r => by rw [subL, subL_map S r]; rfl
theorem subL_len (S : Int → Tm) (ts : List Tm) : (subL S ts).length = ts.length := by rw [subL_map, List.length_map]
theorem mem_occL {m : Int} : ∀ {ts : List Tm}, m ∈ occL ts ↔ ∃ x ∈ ts, m ∈ occT x
  | [] => by simp [occL]
  | x :: r => by rw [occL, List.mem_append, mem_occL (ts := r)]; simp
theorem sub_var (S : Int → Tm) (n : Int) (s : ByteArray) (ts : List Tm) : subT S (.mk 0 n s ts) = S n := by rw [subT, if_pos rfl]
theorem sub_not (S : Int → Tm) {k : Int} (h : ¬ k = 0) (n : Int) (s : ByteArray) (ts : List Tm) : subT S (.mk k n s ts) = .mk k n s (subL S ts) := by rw [subT, if_neg h]
theorem occ_var (n : Int) (s : ByteArray) (ts : List Tm) : occT (.mk 0 n s ts) = [n] := by rw [occT, if_pos rfl]
theorem occ_not {k : Int} (h : ¬ k = 0) (n : Int) (s : ByteArray) (ts : List Tm) : occT (.mk k n s ts) = occL ts := by rw [occT, if_neg h]
mutual
theorem sub_sub (A B : Int → Tm) : ∀ t : Tm, subT A (subT B t) = subT (fun m => subT A (B m)) t
  | .mk k n s ts => by
    by_cases h : k = 0
    · subst h; rw [sub_var, sub_var]
    · rw [sub_not _ h, sub_not _ h, sub_not _ h, subs_sub A B ts]
theorem subs_sub (A B : Int → Tm) : ∀ ts : List Tm, subL A (subL B ts) = subL (fun m => subT A (B m)) ts
  | [] => rfl
  | x :: r => by rw [subL, subL, subL, sub_sub A B x, subs_sub A B r]
end
theorem formed_var {n : Int} {s : ByteArray} {ts : List Tm} (h : formedT (.mk 0 n s ts) = true) : Tm.mk 0 n s ts = varV n ∧ 0 ≤ n ∧ n < 2147483648 := by
  rw [formedT, Bool.and_eq_true] at h
  have h1 := h.1
  unfold plainT at h1
  rw [if_pos rfl] at h1
  simp only [Bool.and_eq_true, decide_eq_true_eq, List.isEmpty_iff] at h1
  refine ⟨?_, h1.1.1.1, h1.1.1.2⟩
  have hs : s = ⟨#[]⟩ := bytes_eq (by rw [h1.1.2])
  have ht : ts = [] := List.length_eq_zero_iff.1 h1.2
  rw [hs, ht]; rfl
theorem var_formed {n : Int} (h0 : 0 ≤ n) (h1 : n < 2147483648) : formedT (varV n) = true := by
  unfold varV
  rw [formedT, formedL]
  simp [plainT, h0, h1]
theorem var_good {n : Int} (h0 : 0 ≤ n) (h1 : n < 2147483648) : goodT (varV n) = true :=
  good_of (by unfold varV; rw [sizeN, sizesN]; omega) (by unfold varV; rw [depthN, depthsN]; omega) (var_formed h0 h1)
theorem occ_varV (n : Int) : occT (varV n) = [n] := by unfold varV; rw [occ_var]
theorem sub_varV (S : Int → Tm) (n : Int) : subT S (varV n) = S n := by unfold varV; rw [sub_var]
mutual
theorem sub_id {A : Int → Tm} : ∀ t : Tm, formedT t = true → (∀ m ∈ occT t, A m = varV m) → subT A t = t
  | .mk k n s ts, hf, h => by
    by_cases hk : k = 0
    · subst hk
      rw [sub_var, h n (by rw [occ_var]; simp)]
      exact (formed_var hf).1.symm
    · rw [formedT, Bool.and_eq_true] at hf
      rw [sub_not _ hk, subs_id ts hf.2 (fun m hm => h m (by rw [occ_not hk]; exact hm))]
theorem subs_id {A : Int → Tm} : ∀ ts : List Tm, formedL ts = true → (∀ m ∈ occL ts, A m = varV m) → subL A ts = ts
  | [], _, _ => rfl
  | x :: r, hf, h => by
    rw [formedL, Bool.and_eq_true] at hf
    rw [subL, sub_id x hf.1 (fun m hm => h m (by rw [occL]; simp [hm])), subs_id r hf.2 (fun m hm => h m (by rw [occL]; simp [hm]))]
end
mutual
theorem occ_sub {A : Int → Tm} {m : Int} : ∀ t : Tm, m ∈ occT (subT A t) ↔ ∃ j ∈ occT t, m ∈ occT (A j)
  | .mk k n s ts => by
    by_cases hk : k = 0
    · subst hk; rw [sub_var, occ_var]; simp
    · rw [sub_not _ hk, occ_not hk, occ_not hk]; exact occs_sub ts
theorem occs_sub {A : Int → Tm} {m : Int} : ∀ ts : List Tm, m ∈ occL (subL A ts) ↔ ∃ j ∈ occL ts, m ∈ occT (A j)
  | [] => by simp [subL, occL]
  | x :: r => by
    rw [subL, occL, occL, List.mem_append, occ_sub x, occs_sub r]
    constructor
    · rintro (⟨j, h1, h2⟩ | ⟨j, h1, h2⟩)
      · exact ⟨j, by simp [h1], h2⟩
      · exact ⟨j, by simp [h1], h2⟩
    · rintro ⟨j, h1, h2⟩
      rcases List.mem_append.1 h1 with h | h
      · exact Or.inl ⟨j, h, h2⟩
      · exact Or.inr ⟨j, h, h2⟩
end
mutual
theorem formed_sub {A : Int → Tm} : ∀ t : Tm, formedT t = true → (∀ m ∈ occT t, formedT (A m) = true) → formedT (subT A t) = true
  | .mk k n s ts, hf, h => by
    by_cases hk : k = 0
    · subst hk; rw [sub_var]; exact h n (by rw [occ_var]; simp)
    · rw [formedT, Bool.and_eq_true] at hf
      rw [sub_not _ hk, formedT, Bool.and_eq_true, subL_len]
      exact ⟨hf.1, formeds_sub ts hf.2 (fun m hm => h m (by rw [occ_not hk]; exact hm))⟩
theorem formeds_sub {A : Int → Tm} : ∀ ts : List Tm, formedL ts = true → (∀ m ∈ occL ts, formedT (A m) = true) → formedL (subL A ts) = true
  | [], _, _ => rfl
  | x :: r, hf, h => by
    rw [formedL, Bool.and_eq_true] at hf
    rw [subL, formedL, Bool.and_eq_true]
    exact ⟨formed_sub x hf.1 (fun m hm => h m (by rw [occL]; simp [hm])), formeds_sub r hf.2 (fun m hm => h m (by rw [occL]; simp [hm]))⟩
end
/-- One that stands for a term. -/
def oneV (n : Int) (u : Tm) : Int → Tm := fun m => if m = n then u else varV m
theorem oneV_self (n : Int) (u : Tm) : oneV n u n = u := if_pos rfl
theorem oneV_ne {n m : Int} (u : Tm) (h : ¬ m = n) : oneV n u m = varV m := if_neg h
/-- What each stands for, all the way in: the last that was set stands first. -/
def fullB : List (Int × Tm) → Int → Tm
  | [], m => varV m
  | (n, t) :: R, m => subT (oneV n (subT (fullB R) t)) (fullB R m)
def domB (R : List (Int × Tm)) : List Int := R.map (·.1)
/-- They were set so: N were given. -/
def Tri (N : Nat) : List (Int × Tm) → Prop
  | [] => True
  | (n, t) :: R => Tri N R ∧ 0 ≤ n ∧ n < N ∧ ¬ n ∈ domB R ∧ goodT t = true ∧ (∀ m ∈ occT t, 0 ≤ m ∧ m < N) ∧ ¬ n ∈ occT (subT (fullB R) t)
theorem Tri.more {N : Nat} : ∀ {R : List (Int × Tm)}, Tri N R → Tri (N + 1) R
  | [], _ => trivial
  | (n, t) :: R, h => by
    obtain ⟨h1, h2, h3, h4, h5, h6, h7⟩ := h
    exact ⟨h1.more, h2, by omega, h4, h5, fun m hm => by have := h6 m hm; omega, h7⟩
theorem Tri.drop {N : Nat} : ∀ (k : Nat) {R : List (Int × Tm)}, Tri N R → Tri N (R.drop k)
  | 0, R, h => h
  | k + 1, [], _ => trivial
  | k + 1, p :: R, h => by rw [List.drop_succ_cons]; exact Tri.drop k h.1
theorem Tri.mem {N : Nat} : ∀ {R : List (Int × Tm)}, Tri N R → ∀ {p : Int × Tm}, p ∈ R → 0 ≤ p.1 ∧ p.1 < N ∧ goodT p.2 = true ∧ ∀ m ∈ occT p.2, 0 ≤ m ∧ m < N
  | q :: R, h, p, hp => by
    obtain ⟨h1, h2, h3, h4, h5, h6, h7⟩ := h
    rcases List.mem_cons.1 hp with rfl | hp
    · exact ⟨h2, h3, h5, h6⟩
    · exact Tri.mem h1 hp
theorem full_free {m : Int} : ∀ {R : List (Int × Tm)}, ¬ m ∈ domB R → fullB R m = varV m
  | [], _ => rfl
  | (n, t) :: R, h => by
    have h1 : ¬ m = n := fun e => h (by simp [domB, e])
    have h2 : ¬ m ∈ domB R := fun e => h (by simp [domB] at e ⊢; exact Or.inr e)
    rw [fullB, full_free h2, sub_varV, oneV_ne _ h1]
theorem full_range {N : Nat} : ∀ {R : List (Int × Tm)}, Tri N R → ∀ (m : Int), 0 ≤ m → m < N → ∀ j ∈ occT (fullB R m), 0 ≤ j ∧ j < N
  | [], _, m, h0, h1, j, hj => by
    rw [fullB, occ_varV] at hj; simp at hj; subst hj; exact ⟨h0, h1⟩
  | (n, t) :: R, h, m, h0, h1, j, hj => by
    obtain ⟨g1, g2, g3, g4, g5, g6, g7⟩ := h
    rw [fullB, occ_sub] at hj
    obtain ⟨i, hi, hj⟩ := hj
    by_cases e : i = n
    · rw [e, oneV_self] at hj
      obtain ⟨q, hq, hj⟩ := (occ_sub t).1 hj
      have := g6 q hq
      exact full_range g1 q this.1 this.2 j hj
    · rw [oneV_ne _ e, occ_varV] at hj
      simp at hj
      subst hj
      exact full_range g1 m h0 h1 _ hi
theorem full_formed {N : Nat} (hN : N ≤ 65536) : ∀ {R : List (Int × Tm)}, Tri N R → ∀ (m : Int), 0 ≤ m → m < N → formedT (fullB R m) = true
  | [], _, m, h0, h1 => by rw [fullB]; exact var_formed h0 (by omega)
  | (n, t) :: R, h, m, h0, h1 => by
    have hT := h
    obtain ⟨g1, g2, g3, g4, g5, g6, g7⟩ := h
    rw [fullB]
    refine formed_sub _ (full_formed hN g1 m h0 h1) fun i hi => ?_
    by_cases e : i = n
    · rw [e, oneV_self]
      exact formed_sub _ (good_parts g5).2.2 fun q hq => full_formed hN g1 q (g6 q hq).1 (g6 q hq).2
    · rw [oneV_ne _ e]
      have := full_range g1 m h0 h1 i hi
      exact var_formed this.1 (by omega)
theorem subfull_formed {N : Nat} (hN : N ≤ 65536) {R : List (Int × Tm)} (h : Tri N R) {t : Tm} (hf : formedT t = true) (ho : ∀ m ∈ occT t, 0 ≤ m ∧ m < N) : formedT (subT (fullB R) t) = true :=
  formed_sub _ hf fun m hm => full_formed hN h m (ho m hm).1 (ho m hm).2
/-- Made so, and made so again. -/
theorem sub_cons (R : List (Int × Tm)) (n : Int) (t u : Tm) : subT (fullB ((n, t) :: R)) u = subT (oneV n (subT (fullB R) t)) (subT (fullB R) u) := by
  rw [sub_sub]
  rfl
theorem full_set {N : Nat} (hN : N ≤ 65536) {R : List (Int × Tm)} {n : Int} {t : Tm} (h : Tri N ((n, t) :: R)) : subT (fullB ((n, t) :: R)) t = subT (fullB R) t ∧ fullB ((n, t) :: R) n = subT (fullB R) t := by
  obtain ⟨g1, g2, g3, g4, g5, g6, g7⟩ := h
  constructor
  · rw [sub_cons]
    exact sub_id _ (subfull_formed hN g1 (good_parts g5).2.2 g6) fun m hm => oneV_ne _ (fun e => g7 (e ▸ hm))
  · rw [fullB, full_free g4, sub_varV, oneV_self]
/-- Each stands for what its term stands for. -/
theorem full_mem {N : Nat} (hN : N ≤ 65536) : ∀ {R : List (Int × Tm)}, Tri N R → ∀ {p : Int × Tm}, p ∈ R → fullB R p.1 = subT (fullB R) p.2
  | (n, t) :: R, h, p, hp => by
    obtain ⟨e1, e2⟩ := full_set hN h
    rcases List.mem_cons.1 hp with rfl | hp
    · rw [e1, e2]
    · rw [sub_cons, ← full_mem hN h.1 hp]
      rfl
/-- A height: what a term's variables stand for lies lower. -/
def maxOn (r : Int → Nat) : List Int → Nat
  | [] => 0
  | x :: l => max (r x) (maxOn r l)
theorem le_maxOn (r : Int → Nat) : ∀ {l : List Int} {x : Int}, x ∈ l → r x ≤ maxOn r l
  | y :: l, x, h => by
    rw [maxOn]
    rcases List.mem_cons.1 h with rfl | h
    · omega
    · have := le_maxOn r h; omega
theorem high {N : Nat} (hN : N ≤ 65536) : ∀ {R : List (Int × Tm)}, Tri N R → ∃ r : Int → Nat, ∀ p ∈ R, ∀ j ∈ occT p.2, r j < r p.1
  | [], _ => ⟨fun _ => 0, fun p hp => by cases hp⟩
  | (n, t) :: R, h => by
    have hT := h
    obtain ⟨g1, g2, g3, g4, g5, g6, g7⟩ := h
    obtain ⟨r, hr⟩ := high hN g1
    refine ⟨fun m => if n ∈ occT (fullB R m) then r m + maxOn r (occT t) + 1 else r m, fun p hp j hj => ?_⟩
    rcases List.mem_cons.1 hp with rfl | hp
    · have h1 : ¬ n ∈ occT (fullB R j) := fun e => g7 ((occ_sub t).2 ⟨j, hj, e⟩)
      have h2 : n ∈ occT (fullB R n) := by rw [full_free g4, occ_varV]; simp
      simp only [if_neg h1, if_pos h2]
      have : r j ≤ maxOn r (occT t) := le_maxOn r hj
      show r j < r n + maxOn r (occT t) + 1
      omega
    · have := hr p hp j hj
      have hs : n ∈ occT (fullB R j) → n ∈ occT (fullB R p.1) := fun e => by
        rw [full_mem hN g1 hp]
        exact (occ_sub _).2 ⟨j, hj, e⟩
      by_cases c : n ∈ occT (fullB R j)
      · simp only [if_pos c, if_pos (hs c)]; omega
      · simp only [if_neg c]
        split <;> omega
/-- What a variable stands for at once, if it does. -/
def getB (R : List (Int × Tm)) (m : Int) : Option Tm := (R.find? fun p => p.1 == m).map (·.2)
theorem get_mem {R : List (Int × Tm)} {m : Int} {t : Tm} (h : getB R m = some t) : (m, t) ∈ R := by
  unfold getB at h
  obtain ⟨p, hp, rfl⟩ := Option.map_eq_some_iff.1 h
  have h1 := List.find?_some hp
  have h2 := List.mem_of_find?_eq_some hp
  simp at h1
  subst h1
  exact h2
theorem get_none {R : List (Int × Tm)} {m : Int} : getB R m = none ↔ ¬ m ∈ domB R := by
  unfold getB domB
  rw [Option.map_eq_none_iff, List.find?_eq_none]
  simp only [List.mem_map, not_exists, not_and, beq_iff_eq]
theorem get_cons (R : List (Int × Tm)) (n m : Int) (t : Tm) : getB ((n, t) :: R) m = if n = m then some t else getB R m := by
  unfold getB
  rw [List.find?_cons]
  by_cases h : n = m
  · rw [if_pos h]; simp [h]
  · rw [if_neg h]
    have : (n == m) = false := by simpa using h
    simp only [this]
end Go.Proofs.Ytjhoekhfikcanaa
/- Has, as chapter 11 says it, over terms that are made whole; a search that keeps a pile and knows what it has seen; what reaches what. Nothing here is walked. -/
namespace Go.Proofs.Ytjhoekhfikcanaa

mutual
/-- Looked at from left to right: c are counted. -/
def hasF (n : Int) (most : Nat) : Tm → Nat → Bool × Nat
  | .mk k m _ ts, c => if most < c + 1 then (true, c + 1) else if k = 0 then (if m = n then (true, c + 1) else (false, c + 1)) else hasL n most ts (c + 1)
def hasL (n : Int) (most : Nat) : List Tm → Nat → Bool × Nat
  | [], c => (false, c)
  | x :: r, c => if (hasF n most x c).1 then hasF n most x c else hasL n most r (hasF n most x c).2
end
theorem hasL_append (n : Int) (most : Nat) : ∀ (a b : List Tm) (c : Nat), hasL n most (a ++ b) c = if (hasL n most a c).1 then hasL n most a c else hasL n most b (hasL n most a c).2
  | [], b, c => by simp [hasL]
  | x :: r, b, c => by
    rw [List.cons_append, hasL, hasL]
    by_cases h : (hasF n most x c).1 = true
    · simp [h]
    · simp only [h, if_false, Bool.false_eq_true]
      rw [hasL_append n most r b]
mutual
/-- What stays below the most and is not found. -/
theorem hasF_not {n : Int} {most : Nat} : ∀ (t : Tm) (c : Nat), formedT t = true → ¬ n ∈ occT t → c ≤ most → hasF n most t c = if c + sizeN t ≤ most then (false, c + sizeN t) else (true, most + 1)
  | .mk k m s ts, c, hf, h, hc => by
    rw [hasF, sizeN]
    by_cases h1 : most < c + 1
    · rw [if_pos h1, if_neg (by omega)]
      rw [show c + 1 = most + 1 by omega]
    · rw [if_neg h1]
      by_cases hk : k = 0
      · subst hk
        have hv := (formed_var hf).1
        have hts : ts = [] := by unfold varV at hv; simp at hv; exact hv.2
        subst hts
        have hmn : ¬ m = n := fun e => h (by rw [occ_var, e]; simp)
        rw [if_pos rfl, if_neg hmn, sizesN, if_pos (by omega)]
      · rw [if_neg hk]
        rw [occ_not hk] at h
        rw [formedT, Bool.and_eq_true] at hf
        rw [hasL_not ts (c + 1) hf.2 h (by omega), show c + 1 + sizesN ts = c + (sizesN ts + 1) by omega]
theorem hasL_not {n : Int} {most : Nat} : ∀ (ts : List Tm) (c : Nat), formedL ts = true → ¬ n ∈ occL ts → c ≤ most → hasL n most ts c = if c + sizesN ts ≤ most then (false, c + sizesN ts) else (true, most + 1)
  | [], c, _, _, hc => by rw [hasL, sizesN, if_pos (by omega)]; simp
  | x :: r, c, hf, h, hc => by
    rw [formedL, Bool.and_eq_true] at hf
    rw [occL, List.mem_append, not_or] at h
    rw [hasL, hasF_not x c hf.1 h.1 hc, sizesN]
    by_cases h1 : c + sizeN x ≤ most
    · rw [if_pos h1]
      simp only [Bool.false_eq_true, if_false]
      rw [hasL_not r _ hf.2 h.2 h1, show c + sizeN x + sizesN r = c + (sizeN x + sizesN r) by omega]
    · rw [if_neg h1]
      have : ¬ c + (sizeN x + sizesN r) ≤ most := by omega
      rw [if_neg this]
      rfl
end
/-- A place of the pile: a term, or the end of what a variable stands for. -/
structure Pl where
  t : Tm
  ends : Bool
  frm : Nat
/-- Those still to be looked at, the next first. -/
def pendL (S : Int → Tm) : List Pl → List Tm
  | [] => []
  | p :: r => if p.ends then pendL S r else subT S p.t :: pendL S r
/-- The ends stand where they should. -/
def EO (S : Int → Tm) (n : Int) : Nat → Prop → List Pl → Prop
  | _, _, [] => True
  | c, A, p :: r => (p.ends = true → (∃ m, p.t = varV m ∧ c = p.frm + sizeN (S m) ∧ (n ∈ occT (S m) → A)) ∧ EO S n c A r) ∧
      (p.ends = false → EO S n (c + sizeN (subT S p.t)) (A ∨ n ∈ occT (subT S p.t)) r)
theorem EO.weak {S : Int → Tm} {n : Int} : ∀ {l : List Pl} {c : Nat} {A B : Prop}, (A → B) → EO S n c A l → EO S n c B l
  | [], _, _, _, _, _ => trivial
  | p :: r, c, A, B, hab, h => by
    refine ⟨fun he => ?_, fun he => ?_⟩
    · obtain ⟨⟨m, h1, h2, h3⟩, h4⟩ := h.1 he
      exact ⟨⟨m, h1, h2, fun x => hab (h3 x)⟩, h4.weak hab⟩
    · exact (h.2 he).weak (fun x => x.elim (fun y => Or.inl (hab y)) Or.inr)
def asPl (t : Tm) : Pl := ⟨t, false, 0⟩
theorem pend_as (S : Int → Tm) (r : List Pl) : ∀ ts : List Tm, pendL S (ts.map asPl ++ r) = subL S ts ++ pendL S r
  | [] => by simp [subL]
  | x :: q => by
    rw [List.map_cons, List.cons_append, pendL, subL, pend_as S r q]
    simp [asPl]
theorem EO.args {S : Int → Tm} {n : Int} {r : List Pl} : ∀ (ts : List Tm) {c : Nat} {A : Prop}, EO S n (c + sizesN (subL S ts)) (A ∨ n ∈ occL (subL S ts)) r → EO S n c A (ts.map asPl ++ r)
  | [], c, A, h => by
    rw [subL, sizesN, occL] at h
    exact h.weak (by simp)
  | x :: q, c, A, h => by
    rw [List.map_cons, List.cons_append]
    refine ⟨fun he => (by cases he), fun _ => EO.args q ?_⟩
    rw [subL, sizesN, occL] at h
    show EO S n (c + sizeN (subT S x) + sizesN (subL S q)) _ r
    rw [show c + sizeN (subT S x) + sizesN (subL S q) = c + (sizeN (subT S x) + sizesN (subL S q)) by omega]
    refine h.weak ?_
    rw [List.mem_append]
    show _ → (A ∨ n ∈ occT (subT S x)) ∨ n ∈ occL (subL S q)
    rintro (h | h | h)
    · exact Or.inl (Or.inl h)
    · exact Or.inl (Or.inr h)
    · exact Or.inr h
/-- In which variables one that was seen may still be reached: the pile has one that lies lower. -/
structure Reach (R : List (Int × Tm)) (r : Int → Nat) (n : Int) (A : Prop) (pile seen : List Int) : Prop where
  orig : A → ∃ u ∈ pile, n ∈ occT (fullB R u)
  back : ∀ u ∈ pile, n ∈ occT (fullB R u) → A
  seen : ∀ v ∈ seen, n ∈ occT (fullB R v) → ∃ u ∈ pile, n ∈ occT (fullB R u) ∧ r u < r v
theorem Reach.done {R : List (Int × Tm)} {r : Int → Nat} {n : Int} {A : Prop} {seen : List Int} (h : Reach R r n A [] seen) : ¬ A := fun a => by
  obtain ⟨u, hu, _⟩ := h.orig a
  cases hu
/-- One is taken off that doesn't reach n, or was seen. -/
theorem Reach.skip {R : List (Int × Tm)} {r : Int → Nat} {n v : Int} {A : Prop} {pile seen : List Int} (h : Reach R r n A (pile ++ [v]) seen) (hv : v ∈ seen ∨ ¬ n ∈ occT (fullB R v)) : Reach R r n A pile seen := by
  have key : ∀ (B : Int → Prop), (∃ u ∈ pile ++ [v], n ∈ occT (fullB R u) ∧ B u) → (∀ u, B v → r u < r v → B u) → ∃ u ∈ pile, n ∈ occT (fullB R u) ∧ B u := by
    intro B ⟨u, hu, hn, hB⟩ hmono
    rcases List.mem_append.1 hu with hu | hu
    · exact ⟨u, hu, hn, hB⟩
    · simp at hu
      subst hu
      rcases hv with hv | hv
      · obtain ⟨x, hx, hnx, hr⟩ := h.seen u hv hn
        rcases List.mem_append.1 hx with hx | hx
        · exact ⟨x, hx, hnx, hmono x hB hr⟩
        · simp at hx
          subst hx
          omega
      · exact absurd hn hv
  refine ⟨fun a => ?_, fun u hu => h.back u (by simp [hu]), fun x hx hn => ?_⟩
  · obtain ⟨u, hu, hn⟩ := h.orig a
    obtain ⟨y, h1, h2, _⟩ := key (fun _ => True) ⟨u, hu, hn, trivial⟩ (fun _ _ _ => trivial)
    exact ⟨y, h1, h2⟩
  · exact key (fun u => r u < r x) (h.seen x hx hn) (fun u h1 h2 => by omega)
/-- One is gone into. -/
theorem Reach.into {N : Nat} (hN : N ≤ 65536) {R : List (Int × Tm)} {r : Int → Nat} {n v : Int} {t : Tm} {A : Prop} {pile seen : List Int} (hT : Tri N R) (hr : ∀ p ∈ R, ∀ j ∈ occT p.2, r j < r p.1) (hm : (v, t) ∈ R)
    (h : Reach R r n A (pile ++ [v]) seen) : Reach R r n A (pile ++ occT t) (seen ++ [v]) := by
  have hfull : fullB R v = subT (fullB R) t := full_mem hN hT hm
  have down : n ∈ occT (fullB R v) → ∃ u ∈ occT t, n ∈ occT (fullB R u) := fun hn => by
    rw [hfull] at hn
    exact (occ_sub t).1 hn
  have low : ∀ u ∈ occT t, r u < r v := fun u hu => hr _ hm u hu
  have key : ∀ (B : Int → Prop), (∃ u ∈ pile ++ [v], n ∈ occT (fullB R u) ∧ B u) → (∀ u, B v → r u < r v → B u) → ∃ u ∈ pile ++ occT t, n ∈ occT (fullB R u) ∧ B u := by
    intro B ⟨u, hu, hn, hB⟩ hmono
    rcases List.mem_append.1 hu with hu | hu
    · exact ⟨u, by simp [hu], hn, hB⟩
    · simp at hu
      subst hu
      obtain ⟨x, hx, hnx⟩ := down hn
      exact ⟨x, by simp [hx], hnx, hmono x hB (low x hx)⟩
  refine ⟨fun a => ?_, fun u hu hn => ?_, fun x hx hn => ?_⟩
  · obtain ⟨u, hu, hn⟩ := h.orig a
    obtain ⟨y, h1, h2, _⟩ := key (fun _ => True) ⟨u, hu, hn, trivial⟩ (fun _ _ _ => trivial)
    exact ⟨y, h1, h2⟩
  · rcases List.mem_append.1 hu with hu | hu
    · exact h.back u (by simp [hu]) hn
    · refine h.back v (by simp) ?_
      rw [hfull]
      exact (occ_sub t).2 ⟨u, hu, hn⟩
  · rcases List.mem_append.1 hx with hx | hx
    · exact key (fun u => r u < r x) (h.seen x hx hn) (fun u h1 h2 => by omega)
    · simp at hx
      subst hx
      obtain ⟨y, hy, hny⟩ := down hn
      exact ⟨y, by simp [hy], hny, low y hy⟩
theorem Reach.start (R : List (Int × Tm)) (r : Int → Nat) (n : Int) (t : Tm) : Reach R r n (n ∈ occT (subT (fullB R) t)) (occT t) [] :=
  ⟨fun a => (occ_sub t).1 a, fun u hu hn => (occ_sub t).2 ⟨u, hu, hn⟩, fun v hv => by cases hv⟩
/-- How much is still to be gone into. -/
def left (seen : List Int) : List (Int × Tm) → Nat
  | [] => 0
  | p :: R => (if p.1 ∈ seen then 0 else (occT p.2).length + 2) + left seen R
theorem left_same {seen : List Int} {v : Int} : ∀ {R : List (Int × Tm)}, ¬ v ∈ domB R → left (seen ++ [v]) R = left seen R
  | [], _ => rfl
  | p :: R, h => by
    have h1 : ¬ p.1 = v := fun e => h (by simp [domB, e])
    have h2 : ¬ v ∈ domB R := fun e => h (by simp [domB] at e ⊢; exact Or.inr e)
    rw [left, left, left_same h2]
    by_cases hs : p.1 ∈ seen
    · rw [if_pos hs, if_pos (by simp [hs])]
    · rw [if_neg hs, if_neg (by simp [hs, h1])]
theorem left_less {N : Nat} {seen : List Int} {v : Int} {t : Tm} (hs : ¬ v ∈ seen) : ∀ {R : List (Int × Tm)}, Tri N R → (v, t) ∈ R → left (seen ++ [v]) R + (occT t).length + 2 = left seen R
  | (n, u) :: R, hT, h => by
    obtain ⟨g1, g2, g3, g4, _⟩ := hT
    rw [left, left]
    rcases List.mem_cons.1 h with e | h
    · cases e
      rw [if_pos (by simp), if_neg hs, left_same g4]
      simp only
      omega
    · have hne : ¬ n = v := fun e => g4 (by rw [e]; unfold domB; exact List.mem_map.2 ⟨_, h, rfl⟩)
      have := left_less hs g1 h
      by_cases hn : n ∈ seen
      · rw [if_pos hn, if_pos (by simp [hn])]
        omega
      · rw [if_neg hn, if_neg (by simp [hn, hne])]
        simp only
        omega
mutual
theorem occ_len : ∀ t : Tm, (occT t).length ≤ sizeN t
  | .mk k n s ts => by
    rw [occT, sizeN]
    have := occs_len ts
    split <;> simp <;> omega
theorem occs_len : ∀ ts : List Tm, (occL ts).length ≤ sizesN ts
  | [] => by simp [occL]
  | x :: r => by
    rw [occL, sizesN, List.length_append]
    have := occ_len x
    have := occs_len r
    omega
end
theorem dom_len {N : Nat} : ∀ {R : List (Int × Tm)}, Tri N R → R.length ≤ N := by
  intro R h
  have hn : (domB R).Nodup := by
    induction R with
    | nil => exact List.nodup_nil
    | cons p R ih =>
      obtain ⟨g1, g2, g3, g4, _⟩ := h
      exact List.nodup_cons.2 ⟨g4, ih g1⟩
  have hs : ∀ x ∈ domB R, x ∈ (List.range N).map (Int.ofNat) := by
    intro x hx
    obtain ⟨p, hp, rfl⟩ := List.mem_map.1 hx
    have := h.mem hp
    exact List.mem_map.2 ⟨p.1.toNat, List.mem_range.2 (by omega), by simp; omega⟩
  have := hn.length_le_of_subset hs
  simpa [domB] using this
theorem left_le {N : Nat} {seen : List Int} : ∀ {R : List (Int × Tm)}, Tri N R → left seen R ≤ R.length * 2002
  | [], _ => by simp [left]
  | (n, t) :: R, h => by
    obtain ⟨g1, g2, g3, g4, g5, _⟩ := h
    have := left_le (seen := seen) g1
    have := occ_len t
    have := (good_parts g5).1
    rw [left, List.length_cons]
    split
    · omega
    · simp only; omega
end Go.Proofs.Ytjhoekhfikcanaa
/- Small facts of ours about endings, byte strings and slices of strings in memory; nothing here speaks of one program. -/
namespace Go.Proofs.Ytjhoekhfikcanaa
open Go.RowKit

theorem ret_bool {a b : Bool} (h : a = b) : Ending.returned (.bool a) = .returned (.bool b) := by rw [h]
/-- Whatever lay in W lies in w as it lay. -/
abbrev Ext (W w : World) : Prop := Below W.heap.size W w
theorem Ext.trans' {a b c : World} (h : Below a.heap.size a b) (k : Below b.heap.size b c) : Below a.heap.size a c := h.trans (k.mono h.size)
end Go.Proofs.Ytjhoekhfikcanaa
/- How the arguments of a law are opened: from the form's reading to our own predicates. Nothing here speaks of one program. -/
namespace Go.Proofs.Ytjhoekhfikcanaa
open Go.RowKit Go.ChangeShapes Go.WideShapes Go.ChangeAt

section
variable {H : Type} {enc : TypeId × Value → H} {P : Program} {W : World}

theorem add_plain (b o i : Nat) : (⟨b, o, none⟩ : Addr).add i = ⟨b, o + i, none⟩ := by
  unfold Addr.add; split
  · rename_i h; rw [h]; rfl
  · rfl
end
end Go.Proofs.Ytjhoekhfikcanaa
/- append of whatever slice to a row of the call's own: also of nothing. Nothing here speaks of one program. -/
namespace Go.Proofs.Ytjhoekhfikcanaa
open Go.RowKit

theorem row_form {w : World} {b e sz n : Nat} {v : Value} {xs : List Value} (h : w.ownsRow b e sz v n xs) : ∃ a c, v = .slice a n c ∧ n ≤ c := by
  rcases h.2 with ⟨rfl, h0⟩ | ⟨g, cap, cur, rfl, _, _, h1, _⟩
  · exact ⟨none, 0, by rw [h0], by omega⟩
  · exact ⟨_, cap, rfl, h1⟩
section
variable {P : Program}
theorem run_append_any (w : World) (base : Nat) (t ty e : TypeId) (i : TypeInfo) (z : Value) (bytes : Nat) (ht : P.underlying t = some (.slice e)) (hi : P.info? e = some i) (hz : i.zero = some z) (hsize : i.size = 1) (hby : i.bytes = bytes) (hzs : z.cells.size = 1)
    (v : Value) (n : Nat) (xs : List Value) (hown : w.ownsRow base e 1 v n xs) (ao : Option Addr) (m c : Nat) (news : List Value) (hl : news.length = m)
    (hsrc : m = 0 ∨ ∃ ad, ao = some ad ∧ ∀ j u, news[j]? = some u → w.cell? (ad.add j) = some u) (h1 : ∀ u ∈ news, u.oneCell' = true)
    (h63 : n + m ≤ maxLen) (hbytes : (n + m) * bytes ≤ 140737488355328) (hbase : base ≤ w.heap.size) :
    ∃ v' w', (Builtin.append_ #[t, t] ty #[v, .slice ao m c]).run P w = .ok v' w' ∧ w'.ownsRow base e 1 v' (n + m) (xs ++ news) ∧ w.grownBy w' v.ownBlock ∧ (v'.ownBlock = v.ownBlock ∨ v'.ownBlock = some w.heap.size) := by
  by_cases hm : m = 0
  · subst hm
    obtain rfl : news = [] := List.length_eq_zero_iff.1 hl
    obtain ⟨a, cc, rfl, hle⟩ := row_form hown
    have hs : Src P i.size t (.slice ao 0 c) 0 [] w := by
      refine ⟨Or.inl ⟨e, ht⟩, fun w' => rfl, ?_, ?_, by simp, by simp⟩
      · cases ao with
        | none => rfl
        | some ad => exact run_firstCells_some w i.size 0 ad 0 c [] (by simp) (by simp)
      · cases ao with
        | none => rfl
        | some ad => exact run_firstCells_some w.drew i.size 0 ad 0 c [] (by simp) (by simp)
    exact ⟨_, w, run_append_nothing w t t ty e i ht hi a n cc hle _ hs, by simpa using hown, ⟨rfl, rfl, rfl, Nat.le_refl _, fun _ _ _ => rfl⟩, Or.inl rfl⟩
  · rcases hsrc with h0 | ⟨ad, rfl, hc⟩
    · exact absurd h0 hm
    obtain ⟨v', w', r1, r2, r3, _, r5⟩ := run_append_own_at (P := P) w base t ty e i z 1 bytes ht hi hz hsize hby hzs (by omega) v n xs hown ad m c news (by omega) hc h1 h63 hbytes hbase
    exact ⟨v', w', r1, r2, r3, r5⟩
theorem wp_append_any {w : World} {o : Oper} {a : Act} {K : Act → World → Prop} {Q : Exit → Act → World → Prop} (s x : Operand) (t : TypeId)
    (ho : o.op = .call { callee := .builtin .append, args := #[s, x], argTypes := #[t, t] })
    (base : Nat) (e : TypeId) (i : TypeInfo) (z : Value) (bytes : Nat) (ht : P.underlying t = some (.slice e)) (hi : P.info? e = some i) (hz : i.zero = some z) (hsize : i.size = 1) (hby : i.bytes = bytes) (hzs : z.cells.size = 1)
    (v : Value) (n : Nat) (xs : List Value) (hs : a.eval s = v) (hown : w.ownsRow base e 1 v n xs) (ao : Option Addr) (m c : Nat) (news : List Value) (hx : a.eval x = .slice ao m c) (hl : news.length = m)
    (hsrc : m = 0 ∨ ∃ ad, ao = some ad ∧ ∀ j u, news[j]? = some u → w.cell? (ad.add j) = some u) (h1 : ∀ u ∈ news, u.oneCell' = true)
    (h63 : n + m ≤ maxLen) (hbytes : (n + m) * bytes ≤ 140737488355328) (hbase : base ≤ w.heap.size) (N : Nat) (L : List Value) (hN : N = n + m) (hL : L = xs ++ news)
    (h : ∀ (a' : Option Addr) (c' : Nat) (w' : World), w'.ownsRow base e 1 (.slice a' N c') N L → w.grownBy w' v.ownBlock → ((Value.slice a' N c').ownBlock = v.ownBlock ∨ (Value.slice a' N c').ownBlock = some w.heap.size) → K (a.put o.dst (.slice a' N c')) w') : o.wp P a w K Q := by
  subst hN hL
  obtain ⟨v', w', hr, h2, h3, h4⟩ := run_append_any (P := P) w base t o.type e i z bytes ht hi hz hsize hby hzs v n xs hown ao m c news hl hsrc h1 h63 hbytes hbase
  obtain ⟨a', c', rfl, _⟩ := row_form h2
  unfold Oper.wp execOp
  simp only [ho, resolve, invoke, builtin, Sem.run_bind, Sem.run_pure, Result.andThen_ok, List.map_toArray, List.map_cons, List.map_nil, hs, hx, hr]
  exact h a' c' w' h2 h3 h4
theorem wpList_append_any {w : World} {ops : Array Oper} {rest : List Oper} {o : Oper} {a : Act} {Q : Exit → Act → World → Prop} (hgd : o.guard = none) (s x : Operand) (t : TypeId)
    (ho : o.op = .call { callee := .builtin .append, args := #[s, x], argTypes := #[t, t] })
    (base : Nat) (e : TypeId) (i : TypeInfo) (z : Value) (bytes : Nat) (ht : P.underlying t = some (.slice e)) (hi : P.info? e = some i) (hz : i.zero = some z) (hsize : i.size = 1) (hby : i.bytes = bytes) (hzs : z.cells.size = 1)
    (v : Value) (n : Nat) (xs : List Value) (hs : a.eval s = v) (hown : w.ownsRow base e 1 v n xs) (ao : Option Addr) (m c : Nat) (news : List Value) (hx : a.eval x = .slice ao m c) (hl : news.length = m)
    (hsrc : m = 0 ∨ ∃ ad, ao = some ad ∧ ∀ j u, news[j]? = some u → w.cell? (ad.add j) = some u) (h1 : ∀ u ∈ news, u.oneCell' = true)
    (h63 : n + m ≤ maxLen) (hbytes : (n + m) * bytes ≤ 140737488355328) (hbase : base ≤ w.heap.size) (N : Nat) (L : List Value) (hN : N = n + m) (hL : L = xs ++ news)
    (h : ∀ (a' : Option Addr) (c' : Nat) (w' : World), w'.ownsRow base e 1 (.slice a' N c') N L → w.grownBy w' v.ownBlock → ((Value.slice a' N c').ownBlock = v.ownBlock ∨ (Value.slice a' N c').ownBlock = some w.heap.size) → wpList P ops Q rest (a.put o.dst (.slice a' N c')) w') :
    wpList P ops Q (o :: rest) a w := by
  refine wpList_plain hgd fun K hK => ?_
  exact wp_append_any s x t ho base e i z bytes ht hi hz hsize hby hzs v n xs hs hown ao m c news hx hl hsrc h1 h63 hbytes hbase N L hN hL (fun a' c' w' h2 h3 h4 => hK _ _ (h a' c' w' h2 h3 h4))
end
end Go.Proofs.Ytjhoekhfikcanaa
/- A stack in memory: its block, its row. -/
namespace Go.Proofs.Ytjhoekhfikcanaa
open Go.RowKit

/-- Of the old blocks none has turned but those of F. -/
structure Touch (F : List Nat) (w w' : World) : Prop where
  os : w'.os = w.os
  tape : w'.tape = w.tape
  output : w'.output = w.output
  size : w.heap.size ≤ w'.heap.size
  block : ∀ k, k < w.heap.size → k ∉ F → w'.heap[k]? = w.heap[k]?
theorem Touch.of_below {w w' : World} (h : Below w.heap.size w w') (F : List Nat) : Touch F w w' := ⟨h.os, h.tape, h.output, h.size, fun k hk _ => h.block k hk⟩
theorem Touch.below {F : List Nat} {w w' : World} (h : Touch F w w') {B : Nat} (hB : B ≤ w.heap.size) (hF : ∀ k ∈ F, B ≤ k) : Below B w w' :=
  ⟨h.os, h.tape, h.output, h.size, fun k hk => h.block k (by omega) (fun hm => by have := hF k hm; omega)⟩
theorem Touch.trans {F F' : List Nat} {a b c : World} (h : Touch F a b) (h' : Touch F' b c) (hF : ∀ k ∈ F', k ∈ F ∨ a.heap.size ≤ k) : Touch F a c :=
  ⟨h'.os.trans h.os, h'.tape.trans h.tape, h'.output.trans h.output, Nat.le_trans h.size h'.size, fun k hk hn =>
    (h'.block k (Nat.lt_of_lt_of_le hk h.size) (fun hm => by rcases hF k hm with h1 | h1; exact hn h1; omega)).trans (h.block k hk hn)⟩
theorem Touch.sub {F F' : List Nat} {a b : World} (h : Touch F a b) (hs : ∀ k ∈ F, k ∈ F') : Touch F' a b := ⟨h.os, h.tape, h.output, h.size, fun k hk hn => h.block k hk (fun hm => hn (hs k hm))⟩
theorem belN {B : Nat} {a w : World} (h : Below B a w) (n : Nat) : Below B a (w.drewN n) := ⟨h.os, h.tape, h.output, h.size, h.block⟩
theorem blk_cell {w : World} {b t : Nat} {cs : Array Value} {fz : Nat × Nat} (h : w.heap[b]? = some (.cells cs t fz)) (i : Nat) : w.cell? ⟨b, i, none⟩ = cs[i]? := by simp [World.cell?, h]
theorem blk_froz {w : World} {b t : Nat} {cs : Array Value} (h : w.heap[b]? = some (.cells cs t (0, 0))) (i : Nat) : w.frozen? ⟨b, i, none⟩ = false := by simp [World.frozen?, h]
theorem blk_set {w : World} {b t : Nat} {x y : Value} (h : w.heap[b]? = some (.cells #[x, y] t (0, 0))) (u : Value) : (w.setCell ⟨b, 1, none⟩ u).heap[b]? = some (.cells #[x, u] t (0, 0)) := by
  simp [World.setCell, Array.getElem?_modify, h]
theorem heap_set_other (w : World) (a : Addr) (u : Value) (k : Nat) (h : k ≠ a.block) : (w.setCell a u).heap[k]? = w.heap[k]? := Below.heap_setCell w a u k h
theorem touch_set {w : World} {bt : Nat} {F : List Nat} {u : Value} : Touch (bt :: F) w (w.setCell ⟨bt, 1, none⟩ u) :=
  ⟨rfl, rfl, rfl, by simp [World.setCell], fun k _ hn => heap_set_other _ _ _ _ (fun e => hn (by simp [e]))⟩
theorem owns_row_block {w w' : World} {base e size n : Nat} {v : Value} {xs : List Value} (h : w.ownsRow base e size v n xs) (hb : ∀ k, v.ownBlock = some k → w'.heap[k]? = w.heap[k]?) : w'.ownsRow base e size v n xs := by
  refine ⟨h.1, ?_⟩
  rcases h.2 with h2 | ⟨g, cap, cur, rfl, h3, h4, h5⟩
  · exact Or.inl h2
  · exact Or.inr ⟨g, cap, cur, rfl, h3, (hb g rfl).trans h4, h5⟩
theorem row_cells {w : World} {e : TypeId} {v : Value} {xs : List Value} (hr : w.ownsRow 0 e 1 v xs.length xs) :
    (v = .slice none 0 0 ∧ xs = []) ∨ ∃ g c cur, v = .slice (some ⟨g, 0, none⟩) xs.length c ∧ w.heap[g]? = some (.cells cur e (0, 0)) ∧ xs.length ≤ c ∧ c ≤ maxLen ∧ cur.size = c ∧ cur.toList.take xs.length = xs := by
  rcases hr.2 with ⟨rfl, h0⟩ | ⟨g, cap, cur, rfl, hg, hh, hc1, hc2, hc3, hc4⟩
  · exact Or.inl ⟨rfl, List.length_eq_zero_iff.1 h0⟩
  · exact Or.inr ⟨g, cap, cur, rfl, hh, hc1, hc2, by simpa using hc3, by simpa using hc4⟩
theorem cells_row {w : World} {e : TypeId} {g c : Nat} {cur : Array Value} {xs : List Value} (hh : w.heap[g]? = some (.cells cur e (0, 0))) (h1 : xs.length ≤ c) (h2 : c ≤ maxLen) (h3 : cur.size = c) (h4 : cur.toList.take xs.length = xs) :
    w.ownsRow 0 e 1 (.slice (some ⟨g, 0, none⟩) xs.length c) xs.length xs := ⟨by simp, Or.inr ⟨g, c, cur, rfl, Nat.zero_le _, hh, h1, h2, by simpa using h3, by simpa using h4⟩⟩
theorem cur_at {cur : Array Value} {xs : List Value} (h4 : cur.toList.take xs.length = xs) {i : Nat} {x : Value} (hx : xs[i]? = some x) : cur[i]? = some x := by
  have hi := (List.getElem?_eq_some_iff.1 hx).1
  have h5 : (cur.toList.take xs.length)[i]? = some x := by rw [h4]; exact hx
  rw [List.getElem?_take, if_pos hi] at h5
  simpa using h5

/-- p is a stack at w: room for R, these on it, the first first; F: its blocks. -/
def IsStk (e tb : TypeId) (F : List Nat) (w : World) (p : Value) (R : Nat) (xs : List Value) : Prop :=
  ∃ bt v, p = .pointer (some ⟨bt, 0, none⟩) ∧ v.ownBlock ≠ some bt ∧ F = bt :: v.ownBlock.toList ∧ w.heap[bt]? = some (.cells #[.int .i64 (R : Int), v] tb (0, 0)) ∧ w.ownsRow 0 e 1 v xs.length xs ∧
    (∀ x ∈ xs, x.oneCell' = true) ∧ 1 ≤ R ∧ R ≤ 65536 ∧ xs.length ≤ R
section
variable {e tb : TypeId} {F : List Nat} {w : World} {p : Value} {R : Nat} {xs : List Value}
theorem IsStk.lt (h : IsStk e tb F w p R xs) : ∀ k ∈ F, k < w.heap.size := by
  obtain ⟨bt, v, rfl, h1, rfl, hb, hr, _⟩ := h
  intro k hk
  simp only [List.mem_cons, Option.mem_toList] at hk
  rcases hk with rfl | hk
  · exact (Array.getElem?_eq_some_iff.1 hb).1
  · exact (hr.lt k hk).2
theorem IsStk.keep {w' : World} (h : IsStk e tb F w p R xs) (hb : ∀ k ∈ F, w'.heap[k]? = w.heap[k]?) : IsStk e tb F w' p R xs := by
  obtain ⟨bt, v, rfl, h1, rfl, hbt, hr, hN⟩ := h
  exact ⟨bt, v, rfl, h1, rfl, (hb bt (by simp)).trans hbt, owns_row_block hr (fun k hk => hb k (by simp [hk])), hN⟩
theorem IsStk.ext {w' : World} (h : IsStk e tb F w p R xs) (hb : Below w.heap.size w w') : IsStk e tb F w' p R xs := h.keep (fun k hk => hb.block k (h.lt k hk))
theorem IsStk.room (h : IsStk e tb F w p R xs) : 1 ≤ R ∧ R ≤ 65536 ∧ xs.length ≤ R := by obtain ⟨bt, v, rfl, h1, rfl, hbt, hr, hN, h3⟩ := h; exact h3
end
section
variable {e tb : TypeId} {W w : World} {p : Value} {R : Nat} {xs : List Value} {G : List Nat}
end
theorem run_clear_row {P : Program} (w : World) (t e ty : TypeId) (z : Value) (ht : P.underlying t = some (.slice e)) (hv : ∀ w, (zeroValue e).run P w = .ok z w) (hz : z.cells = #[z]) (h1 : z.oneCell' = true) (g o n c : Nat) (cur : Array Value) (tt : TypeId)
    (hg : w.heap[g]? = some (.cells cur tt (0, 0))) (hn : 0 < n) (hfit : o + n ≤ cur.size) :
    (Builtin.clear_ #[t] ty #[.slice (some ⟨g, o, none⟩) n c]).run P w = .ok (.tuple #[]) (w.setRow g (cur.toList.take o ++ List.replicate n z ++ cur.toList.drop (o + n)).toArray) := by
  have hzc : (Builtin.zeroCells z.cells n).toList = List.replicate n z := by
    rw [hz]
    simp [Builtin.zeroCells]
    apply List.ext_getElem
    · simp
    · intro i h1 h2
      simp [Nat.mod_one]
  have hst := run_storeCells_at P g o tt (List.replicate n z) 0 cur w hg (by simpa using hfit) (by intro v hv'; rw [List.eq_of_mem_replicate hv']; exact h1)
  simp only [Nat.add_zero, List.length_replicate] at hst
  obtain ⟨m, rfl⟩ : ∃ m, n = m + 1 := ⟨n - 1, by omega⟩
  simp [Builtin.clear_, run_underlying ht, hv, hzc, hst]
theorem run_clear_none {P : Program} (w : World) (t e ty : TypeId) (ht : P.underlying t = some (.slice e)) (a : Option Addr) (c : Nat) :
    (Builtin.clear_ #[t] ty #[.slice a 0 c]).run P w = .ok (.tuple #[]) w := by
  cases a <;> simp [Builtin.clear_, run_underlying ht]
end Go.Proofs.Ytjhoekhfikcanaa
/- Stacks of int64: New, Mark, At, Top, cut, Pop. -/
namespace Go.Proofs.Ytjhoekhfikcanaa
open Go.RowKit

/-- p is a stack. -/
abbrev StkL (F : List Nat) (w : World) (p : Value) (R : Nat) (xs : List Value) : Prop := IsStk 2 115 F w p R xs
theorem infoL : (Try.prog.info? 2).map (fun i => (i.zero, i.size, i.bytes)) = some (some (.int .i64 0), 1, 8) := by kernel_rfl

theorem new_doneL (w : World) {R : Nat} {x : Int} (hx : x = R) (hR : 1 ≤ R ∧ R ≤ 65536) :
    StkL [w.heap.size] (w.alloc (.cells #[.int .i64 x, .slice none 0 0] 115)) (.pointer (some ⟨w.heap.size, 0, none⟩)) R [] ∧
      Below w.heap.size w (w.alloc (.cells #[.int .i64 x, .slice none 0 0] 115)) ∧ ∀ k ∈ [w.heap.size], w.heap.size ≤ k := by
  subst hx
  exact ⟨⟨w.heap.size, .slice none 0 0, rfl, by simp [Value.ownBlock], rfl, heap_alloc_new w _, World.ownsRow_nil _ _ _ _, by simp, hR.1, hR.2, by simp⟩, (Below.refl _ _).alloc (Nat.le_refl _) _, by simp⟩
theorem newL (m : Int) (R : Nat) (hR : (R : Int) = max 1 (min m 65536)) (w : World) :
    Calls Try.prog 59 #[.int .i64 m] w fun e w' => ∃ p, e = .returned p ∧ ∃ F, StkL F w' p R [] ∧ Below w.heap.size w w' ∧ ∀ k ∈ F, w.heap.size ≤ k := by
  go_enter Try.func59, Try.ntmps59
  go_wp2
  all_goals go_ret
  all_goals exact ⟨_, rfl, _, new_doneL (R := R) w (by omega) (by omega)⟩

section
variable {F : List Nat} {w : World} {p : Value} {R : Nat} {xs : List Value}
theorem markL (h : StkL F w p R xs) : Calls Try.prog 65 #[p] w fun e w' => e = .returned (.int .i64 xs.length) ∧ w = w' := by
  obtain ⟨bt, v, rfl, h1, rfl, hbt, hr, hN, hR⟩ := h
  have c1 : w.cell? ⟨bt, 1, none⟩ = some v := by simp [blk_cell hbt]
  obtain ⟨a, c, rfl, _⟩ := row_form hr
  clear hbt hN hr h1
  go_enter Try.func65, Try.ntmps65
  go_wp2
  go_ret
  exact ⟨rfl, rfl⟩
theorem storedL {bt g c n : Nat} {v : Value} {ys : List Value} (hb : w.heap[bt]? = some (.cells #[.int .i64 (R : Int), v] 115 (0, 0))) (hn : ys.length = n)
    (hr : w.ownsRow 0 2 1 (.slice (some ⟨g, 0, none⟩) ys.length c) ys.length ys) (hgb : g ≠ bt) (h1 : ∀ x ∈ ys, x.oneCell' = true) (hR : 1 ≤ R ∧ R ≤ 65536 ∧ ys.length ≤ R) :
    StkL [bt, g] (w.setCell ⟨bt, 1, none⟩ (.slice (some ⟨g, 0, none⟩) n c)) (.pointer (some ⟨bt, 0, none⟩)) R ys := by
  subst hn
  exact ⟨bt, _, rfl, by simpa [Value.ownBlock] using hgb, rfl, blk_set hb _, owns_row_block hr (fun k hk => heap_set_other _ _ _ _ (fun e => by simp [Value.ownBlock] at hk; simp at e; omega)), h1, hR⟩

set_option maxHeartbeats 400000 in
theorem cutL (h : StkL F w p R xs) (n : Nat) (hn : n ≤ xs.length) :
    Calls Try.prog 73 #[p, .int .i64 n] w fun e w' => e = .returned (.tuple #[]) ∧ StkL F w' p R (xs.take n) ∧ Touch F w w' := by
  have hroom := h.room
  obtain ⟨bt, v, rfl, h1, rfl, hbt, hr, hN, hR⟩ := h
  have c1 : w.cell? ⟨bt, 1, none⟩ = some v := by simp [blk_cell hbt]
  have f1 : w.frozen? ⟨bt, 1, none⟩ = false := blk_froz hbt 1
  have hl : (xs.take n).length = n := by simp; omega
  have hcl0 := fun w ty => run_clear_none (P := Try.prog) w 51 2 ty Try.underlying51
  rcases row_cells hr with ⟨rfl, rfl⟩ | ⟨g, c, cur, rfl, hg, hc1, hc2, hc3, hc4⟩
  · obtain rfl : n = 0 := by simpa using hn
    have HB := Lib.hid hbt
    clear hbt hN hr h1
    go_enter Try.func73, Try.ntmps73
    go_wp2
    all_goals go_end0
    all_goals exact ⟨rfl, ⟨bt, _, rfl, by simp [Value.ownBlock], rfl, blk_set HB.out _, World.ownsRow_nil _ _ _ _, by simp, hR.1, hR.2.1, by simp⟩, touch_set⟩
  have hgb : g ≠ bt := fun e => h1 (by rw [e]; rfl)
  have HB := Lib.hid hbt
  have HG := Lib.hid hg
  have H4 := Lib.hid hc4
  have HN := Lib.hid hN
  clear hbt hN hr h1 hg hc4
  unfold maxLen at hc2
  by_cases hlt : n < xs.length
  · have hcl : ∀ ty c', (Builtin.clear_ #[51] ty #[.slice (some ⟨g, n, none⟩) (xs.length - n) c']).run Try.prog w = .ok (.tuple #[]) (w.setRow g (cur.toList.take n ++ List.replicate (xs.length - n) (.int .i64 0 : Value) ++ cur.toList.drop (n + (xs.length - n))).toArray) :=
      fun ty c' => run_clear_row w _ _ ty _ Try.underlying51 (fun w => by kernel_rfl) rfl rfl g n (xs.length - n) c' cur 2 HG.out (by omega) (by omega)
    generalize hcur : (cur.toList.take n ++ List.replicate (xs.length - n) (.int .i64 0 : Value) ++ cur.toList.drop (n + (xs.length - n))).toArray = cur' at hcl
    have hb2 : (w.setRow g cur').heap[bt]? = some (.cells #[.int .i64 (R : Int), .slice (some ⟨g, 0, none⟩) xs.length c] 115 (0, 0)) := (setRow_other w g bt cur' (fun e => hgb e.symm)).trans HB.out
    have hg2 : (w.setRow g cur').heap[g]? = some (.cells cur' 2 (0, 0)) := setRow_heap w g _ _ _ _ HG.out
    have hT : Touch [bt, g] w (w.setRow g cur') := ⟨rfl, rfl, rfl, by simp [World.setRow], fun k _ hn => setRow_other w g k cur' (by simp at hn; exact hn.2)⟩
    have hsz : cur'.size = c := by rw [← hcur, List.size_toArray]; simp; omega
    have htk : cur'.toList.take n = xs.take n := by
      rw [← hcur, List.append_assoc, List.take_append_of_le_length (by simp; omega), List.take_take, Nat.min_self]
      have := congrArg (List.take n) H4.out
      rw [List.take_take, Nat.min_eq_left (by omega)] at this
      exact this
    have c1' : (w.setRow g cur').cell? ⟨bt, 1, none⟩ = some (.slice (some ⟨g, 0, none⟩) xs.length c) := by simp [blk_cell hb2]
    have f1' : (w.setRow g cur').frozen? ⟨bt, 1, none⟩ = false := blk_froz hb2 1
    have HD := Lib.hid (And.intro (storedL (n := n) hb2 hl (cells_row (xs := xs.take n) hg2 (by omega) (by unfold maxLen; omega) hsz (by rw [hl]; exact htk)) hgb (fun x hx => HN.out x (List.mem_of_mem_take hx)) ⟨hR.1, hR.2.1, by omega⟩) hT)
    clear hb2 hg2 hT hsz htk hcl0
    have hlt' : ¬ (xs.length < n) := by omega
    go_enter Try.func73, Try.ntmps73
    go_wp2
    all_goals go_end0
    all_goals exact ⟨rfl, HD.out.1, HD.out.2.trans (F' := [bt]) touch_set (fun k hk => Or.inl (by simp at hk; simp [hk]))⟩
  · obtain rfl : n = xs.length := by omega
    have HD := Lib.hid (storedL (n := xs.length) HB.out (by simp) (cells_row (xs := xs) HG.out hc1 (by unfold maxLen; omega) hc3 H4.out) hgb HN.out ⟨hR.1, hR.2.1, by omega⟩)
    rw [List.take_length]
    by_cases hcap : c = xs.length
    · subst hcap
      go_enter Try.func73, Try.ntmps73
      go_wp2
      all_goals go_end0
      all_goals exact ⟨rfl, HD.out, touch_set⟩
    have hcap' : xs.length < c := by omega
    go_enter Try.func73, Try.ntmps73
    go_wp2
    all_goals go_end0
    all_goals exact ⟨rfl, HD.out, touch_set⟩
end
end Go.Proofs.Ytjhoekhfikcanaa
/- A slice of whatever elements that came in, opened element by element. Nothing here speaks of one program. -/
namespace Go.Proofs.Ytjhoekhfikcanaa
open Go.RowKit Go.ChangeShapes Go.WideShapes Go.ChangeAt Go.Deep

/-- The value reads as these elements, of S cells each. -/
def Elems {α : Type} (S : Nat) (cells : α → List Value) (w : World) (v : Value) (xs : List α) : Prop :=
  ∃ (a : Option Addr) (cap : Nat), v = .slice a xs.length cap ∧ xs.length ≤ cap ∧ cap ≤ maxLen ∧
    (xs = [] ∨ ∃ b off, a = some ⟨b, off, none⟩ ∧ b < w.heap.size ∧ ∀ (i : Nat) (x : α), xs[i]? = some x → ∀ (j : Nat) (u : Value), (cells x)[j]? = some u → w.cell? ⟨b, off + (i * S + j), none⟩ = some u)
section
variable {H : Type} {enc : TypeId × Value → H} {P : Program} {W : World}
end
end Go.Proofs.Ytjhoekhfikcanaa
/- Terms in memory. Nothing here speaks of one program. -/
namespace Go.Proofs.Ytjhoekhfikcanaa
open Go.RowKit

abbrev BIG : Nat := 140737488351232
def I64 (n : Int) : Prop := -9223372036854775808 ≤ n ∧ n ≤ 9223372036854775807
mutual
/-- The value reads as this term. -/
def TmV (w : World) : Tm → Value → Prop
  | .mk k n s ts, v => ∃ (a : Option Addr) (c : Nat), v = .agg #[.int .i64 k, .int .i64 n, .string s, .slice a ts.length c] ∧ ts.length ≤ c ∧ c ≤ maxLen ∧ ts.length * 56 ≤ BIG ∧ s.size ≤ BIG ∧ I64 k ∧ I64 n ∧
      (ts = [] ∨ ∃ b off, a = some ⟨b, off, none⟩ ∧ b < w.heap.size ∧ TmRow w ts b off)
/-- These terms lie there, one behind the other. -/
def TmRow (w : World) : List Tm → Nat → Nat → Prop
  | [], _, _ => True
  | x :: r, b, off => (∃ c0 c1 c2 c3, w.cell? ⟨b, off, none⟩ = some c0 ∧ w.cell? ⟨b, off + 1, none⟩ = some c1 ∧ w.cell? ⟨b, off + 2, none⟩ = some c2 ∧ w.cell? ⟨b, off + 3, none⟩ = some c3 ∧ TmV w x (.agg #[c0, c1, c2, c3])) ∧ TmRow w r b (off + 4)
end
/-- The value reads as these terms. -/
def Tms (w : World) (v : Value) (l : List Tm) : Prop :=
  ∃ (a : Option Addr) (c : Nat), v = .slice a l.length c ∧ l.length ≤ c ∧ c ≤ maxLen ∧ l.length * 56 ≤ BIG ∧ (l = [] ∨ ∃ b off, a = some ⟨b, off, none⟩ ∧ b < w.heap.size ∧ TmRow w l b off)
theorem tmV_iff {w : World} {k n : Int} {s : ByteArray} {ts : List Tm} {v : Value} : TmV w (.mk k n s ts) v ↔ ∃ u, v = .agg #[.int .i64 k, .int .i64 n, .string s, u] ∧ s.size ≤ BIG ∧ I64 k ∧ I64 n ∧ Tms w u ts := by
  rw [TmV]
  constructor
  · rintro ⟨a, c, h1, h2, h3, h4, h5, h6, h7, h8⟩
    exact ⟨_, h1, h5, h6, h7, a, c, rfl, h2, h3, h4, h8⟩
  · rintro ⟨u, h1, h5, h6, h7, a, c, rfl, h2, h3, h4, h8⟩
    exact ⟨a, c, h1, h2, h3, h4, h5, h6, h7, h8⟩
theorem TmRow.get {w : World} : ∀ {l : List Tm} {b off : Nat}, TmRow w l b off → ∀ (i : Nat) (x : Tm), l[i]? = some x →
    ∃ c0 c1 c2 c3, w.cell? ⟨b, off + i * 4, none⟩ = some c0 ∧ w.cell? ⟨b, off + i * 4 + 1, none⟩ = some c1 ∧ w.cell? ⟨b, off + i * 4 + 2, none⟩ = some c2 ∧ w.cell? ⟨b, off + i * 4 + 3, none⟩ = some c3 ∧ TmV w x (.agg #[c0, c1, c2, c3])
  | [], b, off, _, i, x, hx => by simp at hx
  | y :: r, b, off, h, 0, x, hx => by
    simp at hx
    subst hx
    rw [TmRow] at h
    rw [Nat.zero_mul, Nat.add_zero]
    exact h.1
  | y :: r, b, off, h, i + 1, x, hx => by
    rw [TmRow] at h
    have := TmRow.get h.2 i x (by simpa using hx)
    rw [show off + (i + 1) * 4 = off + 4 + i * 4 by omega]
    exact this
theorem TmRow.mk {w : World} : ∀ {l : List Tm} {b off : Nat}, (∀ (i : Nat) (x : Tm), l[i]? = some x →
    ∃ c0 c1 c2 c3, w.cell? ⟨b, off + i * 4, none⟩ = some c0 ∧ w.cell? ⟨b, off + i * 4 + 1, none⟩ = some c1 ∧ w.cell? ⟨b, off + i * 4 + 2, none⟩ = some c2 ∧ w.cell? ⟨b, off + i * 4 + 3, none⟩ = some c3 ∧ TmV w x (.agg #[c0, c1, c2, c3])) → TmRow w l b off
  | [], b, off, _ => by rw [TmRow]; trivial
  | y :: r, b, off, h => by
    rw [TmRow]
    refine ⟨?_, TmRow.mk fun i x hx => ?_⟩
    · have := h 0 y rfl
      rw [Nat.zero_mul, Nat.add_zero] at this
      exact this
    · have := h (i + 1) x (by simpa using hx)
      rw [show off + (i + 1) * 4 = off + 4 + i * 4 by omega] at this
      exact this
mutual
theorem TmV.ext {w w' : World} (hb : Below w.heap.size w w') : ∀ (x : Tm) (v : Value), TmV w x v → TmV w' x v
  | .mk k n s ts, v, h => by
    rw [TmV] at h ⊢
    obtain ⟨a, c, h1, h2, h3, h4, h5, h6, h7, h8⟩ := h
    refine ⟨a, c, h1, h2, h3, h4, h5, h6, h7, ?_⟩
    rcases h8 with h8 | ⟨b, off, e1, e2, e3⟩
    · exact Or.inl h8
    · exact Or.inr ⟨b, off, e1, Nat.lt_of_lt_of_le e2 hb.size, TmRow.ext hb ts b off e3⟩
theorem TmRow.ext {w w' : World} (hb : Below w.heap.size w w') : ∀ (l : List Tm) (b off : Nat), TmRow w l b off → TmRow w' l b off
  | [], b, off, _ => by rw [TmRow]; trivial
  | x :: r, b, off, h => by
    rw [TmRow] at h ⊢
    obtain ⟨⟨c0, c1, c2, c3, h0, h1, h2, h3, h4⟩, h5⟩ := h
    exact ⟨⟨c0, c1, c2, c3, cell_later hb h0, cell_later hb h1, cell_later hb h2, cell_later hb h3, TmV.ext hb x _ h4⟩, TmRow.ext hb r b (off + 4) h5⟩
end
theorem Tms.ext {w w' : World} {v : Value} {l : List Tm} (h : Tms w v l) (hb : Below w.heap.size w w') : Tms w' v l := by
  obtain ⟨a, c, h1, h2, h3, h4, h5⟩ := h
  refine ⟨a, c, h1, h2, h3, h4, ?_⟩
  rcases h5 with h5 | ⟨b, off, e1, e2, e3⟩
  · exact Or.inl h5
  · exact Or.inr ⟨b, off, e1, Nat.lt_of_lt_of_le e2 hb.size, TmRow.ext hb l b off e3⟩
theorem Tms.nil (w : World) : Tms w (.slice none 0 0) [] := ⟨none, 0, rfl, Nat.le_refl _, Nat.zero_le _, by simp, Or.inl rfl⟩
/-- The i-th of them. -/
theorem Tms.get {w : World} {a : Option Addr} {m c : Nat} {l : List Tm} (h : Tms w (.slice a m c) l) {i : Nat} {x : Tm} (hx : l[i]? = some x) :
    ∃ b off k n s u, a = some ⟨b, off, none⟩ ∧ b < w.heap.size ∧ x.k = k ∧ x.n = n ∧ x.s = s ∧ w.cell? ⟨b, off + i * 4, none⟩ = some (.int .i64 k) ∧ w.cell? ⟨b, off + i * 4 + 1, none⟩ = some (.int .i64 n) ∧ w.cell? ⟨b, off + i * 4 + 2, none⟩ = some (.string s) ∧ w.cell? ⟨b, off + i * 4 + 3, none⟩ = some u ∧ Tms w u x.args ∧
      TmV w x (.agg #[.int .i64 k, .int .i64 n, .string s, u]) := by
  obtain ⟨a', c', e, h1, h2, h3, h4⟩ := h
  cases e
  rcases h4 with rfl | ⟨b, off, rfl, hb, hr⟩
  · simp at hx
  · obtain ⟨c0, c1, c2, c3, d0, d1, d2, d3, d4⟩ := hr.get i x hx
    cases x with
    | mk k n s ts =>
      obtain ⟨u, hu, g1, g2, g3, g4⟩ := tmV_iff.1 d4
      simp only [Value.agg.injEq] at hu
      have hu' := congrArg Array.toList hu
      simp only [List.cons.injEq, and_true] at hu'
      obtain ⟨rfl, rfl, rfl, rfl⟩ := hu'
      exact ⟨b, off, k, n, s, _, rfl, hb, rfl, rfl, rfl, d0, d1, d2, d3, g4, d4⟩
theorem Tms.len {w : World} {v : Value} {l : List Tm} (h : Tms w v l) : ∃ a c, v = .slice a l.length c ∧ l.length ≤ c ∧ c ≤ maxLen ∧ l.length * 56 ≤ BIG := by
  obtain ⟨a, c, h1, h2, h3, h4, _⟩ := h
  exact ⟨a, c, h1, h2, h3, h4⟩
end Go.Proofs.Ytjhoekhfikcanaa
