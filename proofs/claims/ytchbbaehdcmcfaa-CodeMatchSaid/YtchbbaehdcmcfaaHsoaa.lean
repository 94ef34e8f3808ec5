import Derived.Lib.Hide
import Derived.WalkKit
set_option linter.unusedVariables false
set_option linter.unusedSimpArgs false
/- Terms as trees, as chapter 7 says them. Nothing here is walked. -/
namespace Go.Proofs.Ytchbbaehdcmcfaa
inductive Tm where
 | mk (k n : Int) (s : ByteArray) (ts : List Tm)
namespace Tm
def k : Tm → Int | mk k _ _ _ => k
def n : Tm → Int | mk _ n _ _ => n
def s : Tm → ByteArray | mk _ _ s _ => s
def args : Tm → List Tm | mk _ _ _ ts => ts
end Tm
mutual
def sizeN : Tm → Nat
 | .mk _ _ _ ts => sizesN ts + 1
def sizesN : List Tm → Nat
 | [] => 0
 | x :: r => sizeN x + sizesN r
end
mutual
def depthN : Tm → Nat
 | .mk _ _ _ ts => depthsN ts + 1
def depthsN : List Tm → Nat
 | [] => 0
 | x :: r => max (depthN x) (depthsN r)
end
def letterB (c : UInt8) : Bool := c == 9 || c == 10 || (decide (32 ≤ c) && decide (c ≤ 126))
def plainT (k n : Int) (s : List UInt8) (m : Nat) : Bool :=
 if k = 0 then decide (0 ≤ n) && decide (n < 2147483648) && s.isEmpty && decide (m = 0)
 else if k = 1 then s.isEmpty && decide (m = 0)
 else if k = 2 then decide (n = 0) && decide (s.length ≤ 64) && decide (m ≤ 8) && s.all letterB
 else false
mutual
def formedT : Tm → Bool
 | .mk k n s ts => plainT k n s.data.toList ts.length && formedL ts
def formedL : List Tm → Bool
 | [] => true
 | x :: r => formedT x && formedL r
end
def goodT (t : Tm) : Bool := decide (sizeN t ≤ 2000) && decide (depthN t ≤ 64) && formedT t
mutual
def varsT : Tm → List Int → List Int
 | .mk k n _ ts, l => if k = 0 then (if l.contains n then l else l ++ [n]) else varsL ts l
def varsL : List Tm → List Int → List Int
 | [], l => l
 | x :: r, l => varsL r (varsT x l)
end
mutual
def sameT : Tm → Tm → Bool
 | .mk k n s ts, .mk k' n' s' ts' => k == k' && n == n' && s.data.toList == s'.data.toList && sameL ts ts'
def sameL : List Tm → List Tm → Bool
 | [], [] => true
 | x :: r, y :: q => sameT x y && sameL r q
 | _, _ => false
end
def dotS : ByteArray := ⟨#[46]⟩
def consT (a b : Tm) : Tm := .mk 2 0 dotS [a, b]
def listT : List Tm → Tm → Tm
 | [], t => t
 | x :: r, t => consT x (listT r t)
theorem size_pos (t : Tm) : 1 ≤ sizeN t := by cases t; rw [sizeN]; omega
theorem depth_pos (t : Tm) : 1 ≤ depthN t := by cases t; rw [depthN]; omega
theorem sizes_mem : ∀ {l : List Tm} {x : Tm}, x ∈ l → sizeN x ≤ sizesN l
 | y :: r, x, h => by
  rw [sizesN]
  rcases List.mem_cons.1 h with rfl | h
  ·omega
  ·have := sizes_mem h; omega
theorem depths_mem : ∀ {l : List Tm} {x : Tm}, x ∈ l → depthN x ≤ depthsN l
 | y :: r, x, h => by
  rw [depthsN]
  rcases List.mem_cons.1 h with rfl | h
  ·omega
  ·have := depths_mem h; omega
theorem formed_mem : ∀ {l : List Tm} {x : Tm}, formedL l = true → x ∈ l → formedT x = true
 | y :: r, x, hf, h => by
  rw [formedL, Bool.and_eq_true] at hf
  rcases List.mem_cons.1 h with rfl | h
  ·exact hf.1
  ·exact formed_mem hf.2 h
theorem good_parts {t : Tm} (h : goodT t = true) : sizeN t ≤ 2000 ∧ depthN t ≤ 64 ∧ formedT t = true := by
 unfold goodT at h
 simp only [Bool.and_eq_true, decide_eq_true_eq] at h
 exact ⟨h.1.1, h.1.2, h.2⟩
theorem good_of {t : Tm} (h1 : sizeN t ≤ 2000) (h2 : depthN t ≤ 64) (h3 : formedT t = true) : goodT t = true := by
 unfold goodT
 simp [h1, h2, h3]
theorem good_arg {t x : Tm} (h : goodT t = true) (hx : x ∈ t.args) : goodT x = true := by
 obtain ⟨h1, h2, h3⟩ := good_parts h
 cases t with
 | mk k n s ts =>
  have hx' : x ∈ ts := hx
  rw [sizeN] at h1
  rw [depthN] at h2
  rw [formedT, Bool.and_eq_true] at h3
  have a := sizes_mem hx'
  have b := depths_mem hx'
  exact good_of (by omega) (by omega) (formed_mem h3.2 hx')
theorem bytes_eq {s t : ByteArray} (h : s.data.toList = t.data.toList) : s = t := by
 obtain ⟨⟨l⟩⟩ := s; obtain ⟨⟨m⟩⟩ := t; simp at h; rw [h]
mutual
theorem same_iff : ∀ (a b : Tm), sameT a b = true ↔ a = b
 | .mk k n s ts, .mk k' n' s' ts' => by
  rw [sameT]
  simp only [Bool.and_eq_true, beq_iff_eq, Tm.mk.injEq]
  rw [sames_iff ts ts']
  constructor
  ·rintro ⟨⟨⟨h1, h2⟩, h3⟩, h4⟩; exact ⟨h1, h2, bytes_eq h3, h4⟩
  ·rintro ⟨h1, h2, h3, h4⟩; exact ⟨⟨⟨h1, h2⟩, by rw [h3]⟩, h4⟩
theorem sames_iff : ∀ (a b : List Tm), sameL a b = true ↔ a = b
 | [], [] => by simp [sameL]
 | x :: r, y :: q => by
  rw [sameL]
  simp only [Bool.and_eq_true, List.cons.injEq]
  rw [same_iff x y, sames_iff r q]
 | [], y :: q => by simp [sameL]
 | x :: r, [] => by simp [sameL]
end
theorem same_self (a : Tm) : sameT a a = true := (same_iff a a).2 rfl
end Go.Proofs.Ytchbbaehdcmcfaa
/- What stands for what, as chapter 11 says it: all the way in at once. Nothing here is walked. -/
namespace Go.Proofs.Ytchbbaehdcmcfaa
def varV (n : Int) : Tm := .mk 0 n ⟨#[]⟩ []
mutual
def subT (S : Int → Tm) : Tm → Tm
 | .mk k n s ts => if k = 0 then S n else .mk k n s (subL S ts)
def subL (S : Int → Tm) : List Tm → List Tm
 | [] => []
 | x :: r => subT S x :: subL S r
end
mutual
def occT : Tm → List Int
 | .mk k n _ ts => if k = 0 then [n] else occL ts
def occL : List Tm → List Int
 | [] => []
 | x :: r => occT x ++ occL r
end
theorem subL_map (S : Int → Tm) : ∀ ts, subL S ts = ts.map (subT S)
 | [] => rfl
 | x :: r => by rw [subL, subL_map S r]; rfl
theorem subL_len (S : Int → Tm) (ts : List Tm) : (subL S ts).length = ts.length := by rw [subL_map, List.length_map]
theorem mem_occL {m : Int} : ∀ {ts : List Tm}, m ∈ occL ts ↔ ∃ x ∈ ts, m ∈ occT x
 | [] => by simp [occL]
 | x :: r => by rw [occL, List.mem_append, mem_occL (ts := r)]; simp
theorem sub_var (S : Int → Tm) (n : Int) (s : ByteArray) (ts : List Tm) : subT S (.mk 0 n s ts) = S n := by rw [subT, if_pos rfl]
theorem sub_not (S : Int → Tm) {k : Int} (h : ¬ k = 0) (n : Int) (s : ByteArray) (ts : List Tm) : subT S (.mk k n s ts) = .mk k n s (subL S ts) := by rw [subT, if_neg h]
theorem occ_var (n : Int) (s : ByteArray) (ts : List Tm) : occT (.mk 0 n s ts) = [n] := by rw [occT, if_pos rfl]
theorem occ_not {k : Int} (h : ¬ k = 0) (n : Int) (s : ByteArray) (ts : List Tm) : occT (.mk k n s ts) = occL ts := by rw [occT, if_neg h]
mutual
theorem sub_sub (A B : Int → Tm) : ∀ t : Tm, subT A (subT B t) = subT (fun m => subT A (B m)) t
 | .mk k n s ts => by
  by_cases h : k = 0
  ·subst h; rw [sub_var, sub_var]
  ·rw [sub_not _ h, sub_not _ h, sub_not _ h, subs_sub A B ts]
theorem subs_sub (A B : Int → Tm) : ∀ ts : List Tm, subL A (subL B ts) = subL (fun m => subT A (B m)) ts
 | [] => rfl
 | x :: r => by rw [subL, subL, subL, sub_sub A B x, subs_sub A B r]
end
mutual
theorem sub_congr {A B : Int → Tm} : ∀ t : Tm, (∀ m ∈ occT t, A m = B m) → subT A t = subT B t
 | .mk k n s ts, h => by
  by_cases hk : k = 0
  ·subst hk; rw [sub_var, sub_var]; exact h n (by rw [occ_var]; simp)
  ·rw [sub_not _ hk, sub_not _ hk, subs_congr ts (fun m hm => h m (by rw [occ_not hk]; exact hm))]
theorem subs_congr {A B : Int → Tm} : ∀ ts : List Tm, (∀ m ∈ occL ts, A m = B m) → subL A ts = subL B ts
 | [], _ => rfl
 | x :: r, h => by rw [subL, subL, sub_congr x (fun m hm => h m (by rw [occL]; simp [hm])), subs_congr r (fun m hm => h m (by rw [occL]; simp [hm]))]
end
theorem formed_var {n : Int} {s : ByteArray} {ts : List Tm} (h : formedT (.mk 0 n s ts) = true) : Tm.mk 0 n s ts = varV n ∧ 0 ≤ n ∧ n < 2147483648 := by
 rw [formedT, Bool.and_eq_true] at h
 have h1 := h.1
 unfold plainT at h1
 rw [if_pos rfl] at h1
 simp only [Bool.and_eq_true, decide_eq_true_eq, List.isEmpty_iff] at h1
 refine ⟨?_, h1.1.1.1, h1.1.1.2⟩
 have hs : s = ⟨#[]⟩ := bytes_eq (by rw [h1.1.2])
 have ht : ts = [] := List.length_eq_zero_iff.1 h1.2
 rw [hs, ht]; rfl
theorem var_formed {n : Int} (h0 : 0 ≤ n) (h1 : n < 2147483648) : formedT (varV n) = true := by
 unfold varV
 rw [formedT, formedL]
 simp [plainT, h0, h1]
theorem var_good {n : Int} (h0 : 0 ≤ n) (h1 : n < 2147483648) : goodT (varV n) = true :=
 good_of (by unfold varV; rw [sizeN, sizesN]; omega) (by unfold varV; rw [depthN, depthsN]; omega) (var_formed h0 h1)
theorem occ_varV (n : Int) : occT (varV n) = [n] := by unfold varV; rw [occ_var]
theorem sub_varV (S : Int → Tm) (n : Int) : subT S (varV n) = S n := by unfold varV; rw [sub_var]
mutual
theorem sub_id {A : Int → Tm} : ∀ t : Tm, formedT t = true → (∀ m ∈ occT t, A m = varV m) → subT A t = t
 | .mk k n s ts, hf, h => by
  by_cases hk : k = 0
  ·subst hk
   rw [sub_var, h n (by rw [occ_var]; simp)]
   exact (formed_var hf).1.symm
  ·rw [formedT, Bool.and_eq_true] at hf
   rw [sub_not _ hk, subs_id ts hf.2 (fun m hm => h m (by rw [occ_not hk]; exact hm))]
theorem subs_id {A : Int → Tm} : ∀ ts : List Tm, formedL ts = true → (∀ m ∈ occL ts, A m = varV m) → subL A ts = ts
 | [], _, _ => rfl
 | x :: r, hf, h => by
  rw [formedL, Bool.and_eq_true] at hf
  rw [subL, sub_id x hf.1 (fun m hm => h m (by rw [occL]; simp [hm])), subs_id r hf.2 (fun m hm => h m (by rw [occL]; simp [hm]))]
end
mutual
theorem occ_sub {A : Int → Tm} {m : Int} : ∀ t : Tm, m ∈ occT (subT A t) ↔ ∃ j ∈ occT t, m ∈ occT (A j)
 | .mk k n s ts => by
  by_cases hk : k = 0
  ·subst hk; rw [sub_var, occ_var]; simp
  ·rw [sub_not _ hk, occ_not hk, occ_not hk]; exact occs_sub ts
theorem occs_sub {A : Int → Tm} {m : Int} : ∀ ts : List Tm, m ∈ occL (subL A ts) ↔ ∃ j ∈ occL ts, m ∈ occT (A j)
 | [] => by simp [subL, occL]
 | x :: r => by
  rw [subL, occL, occL, List.mem_append, occ_sub x, occs_sub r]
  constructor
  ·rintro (⟨j, h1, h2⟩ | ⟨j, h1, h2⟩)
   ·exact ⟨j, by simp [h1], h2⟩
   ·exact ⟨j, by simp [h1], h2⟩
  ·rintro ⟨j, h1, h2⟩
   rcases List.mem_append.1 h1 with h | h
   ·exact Or.inl ⟨j, h, h2⟩
   ·exact Or.inr ⟨j, h, h2⟩
end
mutual
theorem formed_sub {A : Int → Tm} : ∀ t : Tm, formedT t = true → (∀ m ∈ occT t, formedT (A m) = true) → formedT (subT A t) = true
 | .mk k n s ts, hf, h => by
  by_cases hk : k = 0
  ·subst hk; rw [sub_var]; exact h n (by rw [occ_var]; simp)
  ·rw [formedT, Bool.and_eq_true] at hf
   rw [sub_not _ hk, formedT, Bool.and_eq_true, subL_len]
   exact ⟨hf.1, formeds_sub ts hf.2 (fun m hm => h m (by rw [occ_not hk]; exact hm))⟩
theorem formeds_sub {A : Int → Tm} : ∀ ts : List Tm, formedL ts = true → (∀ m ∈ occL ts, formedT (A m) = true) → formedL (subL A ts) = true
 | [], _, _ => rfl
 | x :: r, hf, h => by
  rw [formedL, Bool.and_eq_true] at hf
  rw [subL, formedL, Bool.and_eq_true]
  exact ⟨formed_sub x hf.1 (fun m hm => h m (by rw [occL]; simp [hm])), formeds_sub r hf.2 (fun m hm => h m (by rw [occL]; simp [hm]))⟩
end
def oneV (n : Int) (u : Tm) : Int → Tm := fun m => if m = n then u else varV m
theorem oneV_self (n : Int) (u : Tm) : oneV n u n = u := if_pos rfl
theorem oneV_ne {n m : Int} (u : Tm) (h : ¬ m = n) : oneV n u m = varV m := if_neg h
def fullB : List (Int × Tm) → Int → Tm
 | [], m => varV m
 | (n, t) :: R, m => subT (oneV n (subT (fullB R) t)) (fullB R m)
def domB (R : List (Int × Tm)) : List Int := R.map (·.1)
def Tri (N : Nat) : List (Int × Tm) → Prop
 | [] => True
 | (n, t) :: R => Tri N R ∧ 0 ≤ n ∧ n < N ∧ ¬ n ∈ domB R ∧ goodT t = true ∧ (∀ m ∈ occT t, 0 ≤ m ∧ m < N) ∧ ¬ n ∈ occT (subT (fullB R) t)
theorem Tri.more {N : Nat} : ∀ {R : List (Int × Tm)}, Tri N R → Tri (N + 1) R
 | [], _ => trivial
 | (n, t) :: R, h => by
  obtain ⟨h1, h2, h3, h4, h5, h6, h7⟩ := h
  exact ⟨h1.more, h2, by omega, h4, h5, fun m hm => by have := h6 m hm; omega, h7⟩
theorem Tri.drop {N : Nat} : ∀ (k : Nat) {R : List (Int × Tm)}, Tri N R → Tri N (R.drop k)
 | 0, R, h => h
 | k + 1, [], _ => trivial
 | k + 1, p :: R, h => by rw [List.drop_succ_cons]; exact Tri.drop k h.1
theorem Tri.mem {N : Nat} : ∀ {R : List (Int × Tm)}, Tri N R → ∀ {p : Int × Tm}, p ∈ R → 0 ≤ p.1 ∧ p.1 < N ∧ goodT p.2 = true ∧ ∀ m ∈ occT p.2, 0 ≤ m ∧ m < N
 | q :: R, h, p, hp => by
  obtain ⟨h1, h2, h3, h4, h5, h6, h7⟩ := h
  rcases List.mem_cons.1 hp with rfl | hp
  ·exact ⟨h2, h3, h5, h6⟩
  ·exact Tri.mem h1 hp
theorem full_free {m : Int} : ∀ {R : List (Int × Tm)}, ¬ m ∈ domB R → fullB R m = varV m
 | [], _ => rfl
 | (n, t) :: R, h => by
  have h1 : ¬ m = n := fun e => h (by simp [domB, e])
  have h2 : ¬ m ∈ domB R := fun e => h (by simp [domB] at e ⊢; exact Or.inr e)
  rw [fullB, full_free h2, sub_varV, oneV_ne _ h1]
theorem full_occ {N : Nat} : ∀ {R : List (Int × Tm)}, Tri N R → ∀ (m j : Int), j ∈ occT (fullB R m) → ¬ j ∈ domB R
 | [], _, m, j, _ => by simp [domB]
 | (n, t) :: R, h, m, j, hj => by
  obtain ⟨h1, h2, h3, h4, h5, h6, h7⟩ := h
  rw [fullB, occ_sub] at hj
  obtain ⟨i, hi, hj⟩ := hj
  have key : ¬ j ∈ domB R ∧ ¬ j = n := by
   by_cases e : i = n
   ·rw [e, oneV_self] at hj
    refine ⟨?_, fun e2 => h7 (e2 ▸ hj)⟩
    obtain ⟨q, _, hq⟩ := occ_sub t |>.1 hj
    exact full_occ h1 q j hq
   ·rw [oneV_ne _ e, occ_varV] at hj
    simp at hj
    subst hj
    exact ⟨full_occ h1 m j hi, e⟩
  intro hmem
  simp [domB] at hmem
  rcases hmem with e | e
  ·exact key.2 e
  ·exact key.1 (by simpa [domB] using e)
theorem full_range {N : Nat} : ∀ {R : List (Int × Tm)}, Tri N R → ∀ (m : Int), 0 ≤ m → m < N → ∀ j ∈ occT (fullB R m), 0 ≤ j ∧ j < N
 | [], _, m, h0, h1, j, hj => by
  rw [fullB, occ_varV] at hj; simp at hj; subst hj; exact ⟨h0, h1⟩
 | (n, t) :: R, h, m, h0, h1, j, hj => by
  obtain ⟨g1, g2, g3, g4, g5, g6, g7⟩ := h
  rw [fullB, occ_sub] at hj
  obtain ⟨i, hi, hj⟩ := hj
  by_cases e : i = n
  ·rw [e, oneV_self] at hj
   obtain ⟨q, hq, hj⟩ := (occ_sub t).1 hj
   have := g6 q hq
   exact full_range g1 q this.1 this.2 j hj
  ·rw [oneV_ne _ e, occ_varV] at hj
   simp at hj
   subst hj
   exact full_range g1 m h0 h1 _ hi
theorem full_formed {N : Nat} (hN : N ≤ 65536) : ∀ {R : List (Int × Tm)}, Tri N R → ∀ (m : Int), 0 ≤ m → m < N → formedT (fullB R m) = true
 | [], _, m, h0, h1 => by rw [fullB]; exact var_formed h0 (by omega)
 | (n, t) :: R, h, m, h0, h1 => by
  have hT := h
  obtain ⟨g1, g2, g3, g4, g5, g6, g7⟩ := h
  rw [fullB]
  refine formed_sub _ (full_formed hN g1 m h0 h1) fun i hi => ?_
  by_cases e : i = n
  ·rw [e, oneV_self]
   exact formed_sub _ (good_parts g5).2.2 fun q hq => full_formed hN g1 q (g6 q hq).1 (g6 q hq).2
  ·rw [oneV_ne _ e]
   have := full_range g1 m h0 h1 i hi
   exact var_formed this.1 (by omega)
theorem subfull_formed {N : Nat} (hN : N ≤ 65536) {R : List (Int × Tm)} (h : Tri N R) {t : Tm} (hf : formedT t = true) (ho : ∀ m ∈ occT t, 0 ≤ m ∧ m < N) : formedT (subT (fullB R) t) = true :=
 formed_sub _ hf fun m hm => full_formed hN h m (ho m hm).1 (ho m hm).2
theorem sub_cons (R : List (Int × Tm)) (n : Int) (t u : Tm) : subT (fullB ((n, t) :: R)) u = subT (oneV n (subT (fullB R) t)) (subT (fullB R) u) := by
 rw [sub_sub]
 rfl
theorem full_set {N : Nat} (hN : N ≤ 65536) {R : List (Int × Tm)} {n : Int} {t : Tm} (h : Tri N ((n, t) :: R)) : subT (fullB ((n, t) :: R)) t = subT (fullB R) t ∧ fullB ((n, t) :: R) n = subT (fullB R) t := by
 obtain ⟨g1, g2, g3, g4, g5, g6, g7⟩ := h
 constructor
 ·rw [sub_cons]
  exact sub_id _ (subfull_formed hN g1 (good_parts g5).2.2 g6) fun m hm => oneV_ne _ (fun e => g7 (e ▸ hm))
 ·rw [fullB, full_free g4, sub_varV, oneV_self]
theorem full_mem {N : Nat} (hN : N ≤ 65536) : ∀ {R : List (Int × Tm)}, Tri N R → ∀ {p : Int × Tm}, p ∈ R → fullB R p.1 = subT (fullB R) p.2
 | (n, t) :: R, h, p, hp => by
  obtain ⟨e1, e2⟩ := full_set hN h
  rcases List.mem_cons.1 hp with rfl | hp
  ·rw [e1, e2]
  ·rw [sub_cons, ← full_mem hN h.1 hp]
   rfl
theorem full_idem {N : Nat} (hN : N ≤ 65536) {R : List (Int × Tm)} (h : Tri N R) {t : Tm} (hf : formedT t = true) (ho : ∀ m ∈ occT t, 0 ≤ m ∧ m < N) : subT (fullB R) (subT (fullB R) t) = subT (fullB R) t := by
 refine sub_id _ (subfull_formed hN h hf ho) fun m hm => ?_
 obtain ⟨j, _, hj⟩ := (occ_sub t).1 hm
 exact full_free (full_occ h j m hj)
def maxOn (r : Int → Nat) : List Int → Nat
 | [] => 0
 | x :: l => max (r x) (maxOn r l)
theorem le_maxOn (r : Int → Nat) : ∀ {l : List Int} {x : Int}, x ∈ l → r x ≤ maxOn r l
 | y :: l, x, h => by
  rw [maxOn]
  rcases List.mem_cons.1 h with rfl | h
  ·omega
  ·have := le_maxOn r h; omega
theorem high {N : Nat} (hN : N ≤ 65536) : ∀ {R : List (Int × Tm)}, Tri N R → ∃ r : Int → Nat, ∀ p ∈ R, ∀ j ∈ occT p.2, r j < r p.1
 | [], _ => ⟨fun _ => 0, fun p hp => by cases hp⟩
 | (n, t) :: R, h => by
  have hT := h
  obtain ⟨g1, g2, g3, g4, g5, g6, g7⟩ := h
  obtain ⟨r, hr⟩ := high hN g1
  refine ⟨fun m => if n ∈ occT (fullB R m) then r m + maxOn r (occT t) + 1 else r m, fun p hp j hj => ?_⟩
  rcases List.mem_cons.1 hp with rfl | hp
  ·have h1 : ¬ n ∈ occT (fullB R j) := fun e => g7 ((occ_sub t).2 ⟨j, hj, e⟩)
   have h2 : n ∈ occT (fullB R n) := by rw [full_free g4, occ_varV]; simp
   simp only [if_neg h1, if_pos h2]
   have : r j ≤ maxOn r (occT t) := le_maxOn r hj
   show r j < r n + maxOn r (occT t) + 1
   omega
  ·have := hr p hp j hj
   have hs : n ∈ occT (fullB R j) → n ∈ occT (fullB R p.1) := fun e => by
    rw [full_mem hN g1 hp]
    exact (occ_sub _).2 ⟨j, hj, e⟩
   by_cases c : n ∈ occT (fullB R j)
   ·simp only [if_pos c, if_pos (hs c)]; omega
   ·simp only [if_neg c]
    split <;> omega
def getB (R : List (Int × Tm)) (m : Int) : Option Tm := (R.find? fun p => p.1 == m).map (·.2)
theorem get_mem {R : List (Int × Tm)} {m : Int} {t : Tm} (h : getB R m = some t) : (m, t) ∈ R := by
 unfold getB at h
 obtain ⟨p, hp, rfl⟩ := Option.map_eq_some_iff.1 h
 have h1 := List.find?_some hp
 have h2 := List.mem_of_find?_eq_some hp
 simp at h1
 subst h1
 exact h2
theorem get_none {R : List (Int × Tm)} {m : Int} : getB R m = none ↔ ¬ m ∈ domB R := by
 unfold getB domB
 rw [Option.map_eq_none_iff, List.find?_eq_none]
 simp only [List.mem_map, not_exists, not_and, beq_iff_eq]
theorem get_cons (R : List (Int × Tm)) (n m : Int) (t : Tm) : getB ((n, t) :: R) m = if n = m then some t else getB R m := by
 unfold getB
 rw [List.find?_cons]
 by_cases h : n = m
 ·rw [if_pos h]; simp [h]
 ·rw [if_neg h]
  have : (n == m) = false := by simpa using h
  simp only [this]
end Go.Proofs.Ytchbbaehdcmcfaa
/- Has, as chapter 11 says it, over terms that are made whole; a search that keeps a pile and knows what it has seen; what reaches what. Nothing here is walked. -/
namespace Go.Proofs.Ytchbbaehdcmcfaa
mutual
def hasF (n : Int) (most : Nat) : Tm → Nat → Bool × Nat
 | .mk k m _ ts, c => if most < c + 1 then (true, c + 1) else if k = 0 then (if m = n then (true, c + 1) else (false, c + 1)) else hasL n most ts (c + 1)
def hasL (n : Int) (most : Nat) : List Tm → Nat → Bool × Nat
 | [], c => (false, c)
 | x :: r, c => if (hasF n most x c).1 then hasF n most x c else hasL n most r (hasF n most x c).2
end
theorem hasL_append (n : Int) (most : Nat) : ∀ (a b : List Tm) (c : Nat), hasL n most (a ++ b) c = if (hasL n most a c).1 then hasL n most a c else hasL n most b (hasL n most a c).2
 | [], b, c => by simp [hasL]
 | x :: r, b, c => by
  rw [List.cons_append, hasL, hasL]
  by_cases h : (hasF n most x c).1 = true
  ·simp [h]
  ·simp only [h, if_false, Bool.false_eq_true]
   rw [hasL_append n most r b]
mutual
theorem hasF_not {n : Int} {most : Nat} : ∀ (t : Tm) (c : Nat), formedT t = true → ¬ n ∈ occT t → c ≤ most → hasF n most t c = if c + sizeN t ≤ most then (false, c + sizeN t) else (true, most + 1)
 | .mk k m s ts, c, hf, h, hc => by
  rw [hasF, sizeN]
  by_cases h1 : most < c + 1
  ·rw [if_pos h1, if_neg (by omega)]
   rw [show c + 1 = most + 1 by omega]
  ·rw [if_neg h1]
   by_cases hk : k = 0
   ·subst hk
    have hv := (formed_var hf).1
    have hts : ts = [] := by unfold varV at hv; simp at hv; exact hv.2
    subst hts
    have hmn : ¬ m = n := fun e => h (by rw [occ_var, e]; simp)
    rw [if_pos rfl, if_neg hmn, sizesN, if_pos (by omega)]
   ·rw [if_neg hk]
    rw [occ_not hk] at h
    rw [formedT, Bool.and_eq_true] at hf
    rw [hasL_not ts (c + 1) hf.2 h (by omega), show c + 1 + sizesN ts = c + (sizesN ts + 1) by omega]
theorem hasL_not {n : Int} {most : Nat} : ∀ (ts : List Tm) (c : Nat), formedL ts = true → ¬ n ∈ occL ts → c ≤ most → hasL n most ts c = if c + sizesN ts ≤ most then (false, c + sizesN ts) else (true, most + 1)
 | [], c, _, _, hc => by rw [hasL, sizesN, if_pos (by omega)]; simp
 | x :: r, c, hf, h, hc => by
  rw [formedL, Bool.and_eq_true] at hf
  rw [occL, List.mem_append, not_or] at h
  rw [hasL, hasF_not x c hf.1 h.1 hc, sizesN]
  by_cases h1 : c + sizeN x ≤ most
  ·rw [if_pos h1]
   simp only [Bool.false_eq_true, if_false]
   rw [hasL_not r _ hf.2 h.2 h1, show c + sizeN x + sizesN r = c + (sizeN x + sizesN r) by omega]
  ·rw [if_neg h1]
   have : ¬ c + (sizeN x + sizesN r) ≤ most := by omega
   rw [if_neg this]
   rfl
end
mutual
theorem hasF_false {n : Int} {most : Nat} : ∀ (t : Tm) (c c' : Nat), hasF n most t c = (false, c') → c' ≤ most ∧ c < c'
 | .mk k m s ts, c, c', h => by
  rw [hasF] at h
  by_cases h1 : most < c + 1
  ·rw [if_pos h1] at h; cases h
  ·rw [if_neg h1] at h
   by_cases hk : k = 0
   ·rw [if_pos hk] at h
    split at h
    ·cases h
    ·cases h; omega
   ·rw [if_neg hk] at h
    have := hasL_false ts (c + 1) c' (by omega) h
    omega
theorem hasL_false {n : Int} {most : Nat} : ∀ (ts : List Tm) (c c' : Nat), c ≤ most → hasL n most ts c = (false, c') → c' ≤ most ∧ c ≤ c'
 | [], c, c', hc, h => by rw [hasL] at h; cases h; omega
 | x :: r, c, c', hc, h => by
  rw [hasL] at h
  by_cases h1 : (hasF n most x c).1 = true
  ·rw [if_pos h1] at h
   rw [h] at h1; cases h1
  ·rw [if_neg h1] at h
   have e : hasF n most x c = (false, (hasF n most x c).2) := Prod.ext (by simpa using h1) rfl
   have := hasF_false x c _ e
   have := hasL_false r _ c' this.1 h
   omega
end
structure Pl where
 t : Tm
 ends : Bool
 frm : Nat
def pendL (S : Int → Tm) : List Pl → List Tm
 | [] => []
 | p :: r => if p.ends then pendL S r else subT S p.t :: pendL S r
def EO (S : Int → Tm) (n : Int) : Nat → Prop → List Pl → Prop
  | _, _, [] => True
  | c, A, p :: r => (p.ends = true → (∃ m, p.t = varV m ∧ c = p.frm + sizeN (S m) ∧ (n ∈ occT (S m) → A)) ∧ EO S n c A r) ∧
      (p.ends = false → EO S n (c + sizeN (subT S p.t)) (A ∨ n ∈ occT (subT S p.t)) r)
theorem EO.weak {S : Int → Tm} {n : Int} : ∀ {l : List Pl} {c : Nat} {A B : Prop}, (A → B) → EO S n c A l → EO S n c B l
 | [], _, _, _, _, _ => trivial
 | p :: r, c, A, B, hab, h => by
  refine ⟨fun he => ?_, fun he => ?_⟩
  ·obtain ⟨⟨m, h1, h2, h3⟩, h4⟩ := h.1 he
   exact ⟨⟨m, h1, h2, fun x => hab (h3 x)⟩, h4.weak hab⟩
  ·exact (h.2 he).weak (fun x => x.elim (fun y => Or.inl (hab y)) Or.inr)
def asPl (t : Tm) : Pl := ⟨t, false, 0⟩
theorem pend_as (S : Int → Tm) (r : List Pl) : ∀ ts : List Tm, pendL S (ts.map asPl ++ r) = subL S ts ++ pendL S r
 | [] => by simp [subL]
 | x :: q => by
  rw [List.map_cons, List.cons_append, pendL, subL, pend_as S r q]
  simp [asPl]
theorem EO.args {S : Int → Tm} {n : Int} {r : List Pl} : ∀ (ts : List Tm) {c : Nat} {A : Prop}, EO S n (c + sizesN (subL S ts)) (A ∨ n ∈ occL (subL S ts)) r → EO S n c A (ts.map asPl ++ r)
 | [], c, A, h => by
  rw [subL, sizesN, occL] at h
  exact h.weak (by simp)
 | x :: q, c, A, h => by
  rw [List.map_cons, List.cons_append]
  refine ⟨fun he => (by cases he), fun _ => EO.args q ?_⟩
  rw [subL, sizesN, occL] at h
  show EO S n (c + sizeN (subT S x) + sizesN (subL S q)) _ r
  rw [show c + sizeN (subT S x) + sizesN (subL S q) = c + (sizeN (subT S x) + sizesN (subL S q)) by omega]
  refine h.weak ?_
  rw [List.mem_append]
  show _ → (A ∨ n ∈ occT (subT S x)) ∨ n ∈ occL (subL S q)
  rintro (h | h | h)
  ·exact Or.inl (Or.inl h)
  ·exact Or.inl (Or.inr h)
  ·exact Or.inr h
structure Reach (R : List (Int × Tm)) (r : Int → Nat) (n : Int) (A : Prop) (pile seen : List Int) : Prop where
 orig : A → ∃ u ∈ pile, n ∈ occT (fullB R u)
 back : ∀ u ∈ pile, n ∈ occT (fullB R u) → A
 seen : ∀ v ∈ seen, n ∈ occT (fullB R v) → ∃ u ∈ pile, n ∈ occT (fullB R u) ∧ r u < r v
theorem Reach.done {R : List (Int × Tm)} {r : Int → Nat} {n : Int} {A : Prop} {seen : List Int} (h : Reach R r n A [] seen) : ¬ A := fun a => by
 obtain ⟨u, hu, _⟩ := h.orig a
 cases hu
theorem Reach.skip {R : List (Int × Tm)} {r : Int → Nat} {n v : Int} {A : Prop} {pile seen : List Int} (h : Reach R r n A (pile ++ [v]) seen) (hv : v ∈ seen ∨ ¬ n ∈ occT (fullB R v)) : Reach R r n A pile seen := by
 have key : ∀ (B : Int → Prop), (∃ u ∈ pile ++ [v], n ∈ occT (fullB R u) ∧ B u) → (∀ u, B v → r u < r v → B u) → ∃ u ∈ pile, n ∈ occT (fullB R u) ∧ B u := by
  intro B ⟨u, hu, hn, hB⟩ hmono
  rcases List.mem_append.1 hu with hu | hu
  ·exact ⟨u, hu, hn, hB⟩
  ·simp at hu
   subst hu
   rcases hv with hv | hv
   ·obtain ⟨x, hx, hnx, hr⟩ := h.seen u hv hn
    rcases List.mem_append.1 hx with hx | hx
    ·exact ⟨x, hx, hnx, hmono x hB hr⟩
    ·simp at hx
     subst hx
     omega
   ·exact absurd hn hv
 refine ⟨fun a => ?_, fun u hu => h.back u (by simp [hu]), fun x hx hn => ?_⟩
 ·obtain ⟨u, hu, hn⟩ := h.orig a
  obtain ⟨y, h1, h2, _⟩ := key (fun _ => True) ⟨u, hu, hn, trivial⟩ (fun _ _ _ => trivial)
  exact ⟨y, h1, h2⟩
 ·exact key (fun u => r u < r x) (h.seen x hx hn) (fun u h1 h2 => by omega)
theorem Reach.into {N : Nat} (hN : N ≤ 65536) {R : List (Int × Tm)} {r : Int → Nat} {n v : Int} {t : Tm} {A : Prop} {pile seen : List Int} (hT : Tri N R) (hr : ∀ p ∈ R, ∀ j ∈ occT p.2, r j < r p.1) (hm : (v, t) ∈ R)
  (h : Reach R r n A (pile ++ [v]) seen) : Reach R r n A (pile ++ occT t) (seen ++ [v]) := by
 have hfull : fullB R v = subT (fullB R) t := full_mem hN hT hm
 have down : n ∈ occT (fullB R v) → ∃ u ∈ occT t, n ∈ occT (fullB R u) := fun hn => by
  rw [hfull] at hn
  exact (occ_sub t).1 hn
 have low : ∀ u ∈ occT t, r u < r v := fun u hu => hr _ hm u hu
 have key : ∀ (B : Int → Prop), (∃ u ∈ pile ++ [v], n ∈ occT (fullB R u) ∧ B u) → (∀ u, B v → r u < r v → B u) → ∃ u ∈ pile ++ occT t, n ∈ occT (fullB R u) ∧ B u := by
  intro B ⟨u, hu, hn, hB⟩ hmono
  rcases List.mem_append.1 hu with hu | hu
  ·exact ⟨u, by simp [hu], hn, hB⟩
  ·simp at hu
   subst hu
   obtain ⟨x, hx, hnx⟩ := down hn
   exact ⟨x, by simp [hx], hnx, hmono x hB (low x hx)⟩
 refine ⟨fun a => ?_, fun u hu hn => ?_, fun x hx hn => ?_⟩
 ·obtain ⟨u, hu, hn⟩ := h.orig a
  obtain ⟨y, h1, h2, _⟩ := key (fun _ => True) ⟨u, hu, hn, trivial⟩ (fun _ _ _ => trivial)
  exact ⟨y, h1, h2⟩
 ·rcases List.mem_append.1 hu with hu | hu
  ·exact h.back u (by simp [hu]) hn
  ·refine h.back v (by simp) ?_
   rw [hfull]
   exact (occ_sub t).2 ⟨u, hu, hn⟩
 ·rcases List.mem_append.1 hx with hx | hx
  ·exact key (fun u => r u < r x) (h.seen x hx hn) (fun u h1 h2 => by omega)
  ·simp at hx
   subst hx
   obtain ⟨y, hy, hny⟩ := down hn
   exact ⟨y, by simp [hy], hny, low y hy⟩
theorem Reach.start (R : List (Int × Tm)) (r : Int → Nat) (n : Int) (t : Tm) : Reach R r n (n ∈ occT (subT (fullB R) t)) (occT t) [] :=
 ⟨fun a => (occ_sub t).1 a, fun u hu hn => (occ_sub t).2 ⟨u, hu, hn⟩, fun v hv => by cases hv⟩
def left (seen : List Int) : List (Int × Tm) → Nat
 | [] => 0
 | p :: R => (if p.1 ∈ seen then 0 else (occT p.2).length + 2) + left seen R
theorem left_same {seen : List Int} {v : Int} : ∀ {R : List (Int × Tm)}, ¬ v ∈ domB R → left (seen ++ [v]) R = left seen R
 | [], _ => rfl
 | p :: R, h => by
  have h1 : ¬ p.1 = v := fun e => h (by simp [domB, e])
  have h2 : ¬ v ∈ domB R := fun e => h (by simp [domB] at e ⊢; exact Or.inr e)
  rw [left, left, left_same h2]
  by_cases hs : p.1 ∈ seen
  ·rw [if_pos hs, if_pos (by simp [hs])]
  ·rw [if_neg hs, if_neg (by simp [hs, h1])]
theorem left_less {N : Nat} {seen : List Int} {v : Int} {t : Tm} (hs : ¬ v ∈ seen) : ∀ {R : List (Int × Tm)}, Tri N R → (v, t) ∈ R → left (seen ++ [v]) R + (occT t).length + 2 = left seen R
 | (n, u) :: R, hT, h => by
  obtain ⟨g1, g2, g3, g4, _⟩ := hT
  rw [left, left]
  rcases List.mem_cons.1 h with e | h
  ·cases e
   rw [if_pos (by simp), if_neg hs, left_same g4]
   simp only
   omega
  ·have hne : ¬ n = v := fun e => g4 (by rw [e]; unfold domB; exact List.mem_map.2 ⟨_, h, rfl⟩)
   have := left_less hs g1 h
   by_cases hn : n ∈ seen
   ·rw [if_pos hn, if_pos (by simp [hn])]
    omega
   ·rw [if_neg hn, if_neg (by simp [hn, hne])]
    simp only
    omega
mutual
theorem occ_len : ∀ t : Tm, (occT t).length ≤ sizeN t
 | .mk k n s ts => by
  rw [occT, sizeN]
  have := occs_len ts
  split <;> simp <;> omega
theorem occs_len : ∀ ts : List Tm, (occL ts).length ≤ sizesN ts
 | [] => by simp [occL]
 | x :: r => by
  rw [occL, sizesN, List.length_append]
  have := occ_len x
  have := occs_len r
  omega
end
theorem dom_len {N : Nat} : ∀ {R : List (Int × Tm)}, Tri N R → R.length ≤ N := by
 intro R h
 have hn : (domB R).Nodup := by
  induction R with
  | nil => exact List.nodup_nil
  | cons p R ih =>
   obtain ⟨g1, g2, g3, g4, _⟩ := h
   exact List.nodup_cons.2 ⟨g4, ih g1⟩
 have hs : ∀ x ∈ domB R, x ∈ (List.range N).map (Int.ofNat) := by
  intro x hx
  obtain ⟨p, hp, rfl⟩ := List.mem_map.1 hx
  have := h.mem hp
  exact List.mem_map.2 ⟨p.1.toNat, List.mem_range.2 (by omega), by simp; omega⟩
 have := hn.length_le_of_subset hs
 simpa [domB] using this
theorem left_le {N : Nat} {seen : List Int} : ∀ {R : List (Int × Tm)}, Tri N R → left seen R ≤ R.length * 2002
 | [], _ => by simp [left]
 | (n, t) :: R, h => by
  obtain ⟨g1, g2, g3, g4, g5, _⟩ := h
  have := left_le (seen := seen) g1
  have := occ_len t
  have := (good_parts g5).1
  rw [left, List.length_cons]
  split
  ·omega
  ·simp only; omega
end Go.Proofs.Ytchbbaehdcmcfaa
/- Has, as chapter 11 says it: what is not counted too far tells what stands there. Pure. -/
namespace Go.Proofs.Ytchbbaehdcmcfaa
mutual
theorem hasF_mem {n : Int} {M : Nat} : ∀ (t : Tm) (c : Nat), formedT t = true → (hasF n M t c).2 ≤ M → ((hasF n M t c).1 = true ↔ n ∈ occT t)
 | .mk k m s ts, c, hf, h => by
  rw [hasF] at h ⊢
  by_cases h1 : M < c + 1
  ·rw [if_pos h1] at h; have h : c + 1 ≤ M := h; omega
  ·rw [if_neg h1] at h ⊢
   by_cases hk : k = 0
   ·subst hk
    rw [if_pos rfl] at h ⊢
    rw [occ_var]
    by_cases hm : m = n
    ·rw [if_pos hm]; simp [hm]
    ·rw [if_neg hm]; simp; exact fun e => hm e.symm
   ·rw [if_neg hk] at h ⊢
    rw [occ_not hk]
    rw [formedT, Bool.and_eq_true] at hf
    exact hasL_mem ts (c + 1) hf.2 h
theorem hasL_mem {n : Int} {M : Nat} : ∀ (ts : List Tm) (c : Nat), formedL ts = true → (hasL n M ts c).2 ≤ M → ((hasL n M ts c).1 = true ↔ n ∈ occL ts)
 | [], c, hf, h => by rw [hasL, occL]; simp
 | x :: r, c, hf, h => by
  rw [formedL, Bool.and_eq_true] at hf
  rw [hasL] at h ⊢
  rw [occL, List.mem_append]
  by_cases hx : (hasF n M x c).1 = true
  ·rw [if_pos hx] at h ⊢
   have := (hasF_mem x c hf.1 h).1 hx
   simp [hx, this]
  ·rw [if_neg hx] at h ⊢
   have h2 : (hasF n M x c).2 ≤ M := Nat.le_trans (hasL_mono r _) h
   have h3 := hasL_mem r _ hf.2 h
   have h4 : ¬ n ∈ occT x := fun e => hx ((hasF_mem x c hf.1 h2).2 e)
   rw [h3]
   simp [h4]
theorem hasF_mono {n : Int} {M : Nat} : ∀ (t : Tm) (c : Nat), c ≤ (hasF n M t c).2
 | .mk k m s ts, c => by
  rw [hasF]
  by_cases h1 : M < c + 1
  ·rw [if_pos h1]; exact Nat.le_succ c
  ·rw [if_neg h1]
   by_cases hk : k = 0
   ·rw [if_pos hk]
    by_cases hm : m = n
    ·rw [if_pos hm]; exact Nat.le_succ c
    ·rw [if_neg hm]; exact Nat.le_succ c
   ·rw [if_neg hk]
    exact Nat.le_trans (Nat.le_succ c) (hasL_mono ts (c + 1))
theorem hasL_mono {n : Int} {M : Nat} : ∀ (ts : List Tm) (c : Nat), c ≤ (hasL n M ts c).2
 | [], c => Nat.le_refl c
 | x :: r, c => by
  rw [hasL]
  by_cases hx : (hasF n M x c).1 = true
  ·rw [if_pos hx]; exact hasF_mono x c
  ·rw [if_neg hx]; exact Nat.le_trans (hasF_mono x c) (hasL_mono r _)
end
end Go.Proofs.Ytchbbaehdcmcfaa
/- Making alike, as chapter 12 says it, over terms that are made whole: what it answers, that it makes alike, that it does no more than is wanted. Nothing here is walked. -/
namespace Go.Proofs.Ytchbbaehdcmcfaa
structure URes where
 ok : Bool
 set : List (Int × Tm)
 cost : Nat
def uniL (f : List (Int × Tm) → Tm → Tm → Nat → URes) : List (Int × Tm) → List Tm → List Tm → Nat → URes
 | S, x :: r, y :: q, c => if (f S x y c).ok = true then uniL f (f S x y c).set r q (f S x y c).cost else ⟨false, (f S x y c).set, (f S x y c).cost⟩
 | S, _, _, c => ⟨true, S, c⟩
def standB (S : List (Int × Tm)) (n : Int) (T : Tm) (c : Nat) : URes :=
 ⟨!(hasF n (2000 - c) T 0).1, if (hasF n (2000 - c) T 0).1 = true then S else (n, T) :: S, c + (hasF n (2000 - c) T 0).2⟩
def joinB (S : List (Int × Tm)) (n m : Int) (c : Nat) : URes :=
 ⟨true, if n = m then S else (max n m, varV (min n m)) :: S, c⟩
def uniW (f : List (Int × Tm) → Tm → Tm → Nat → URes) (S : List (Int × Tm)) : Tm → Tm → Nat → URes
 | .mk k n s ts, .mk k' n' s' ts', c =>
  if k = 0 then (if k' = 0 then joinB S n n' c else standB S n (.mk k' n' s' ts') c)
  else if k' = 0 then standB S n' (.mk k n s ts) c
  else if k = k' ∧ n = n' ∧ s.data.toList = s'.data.toList ∧ ts.length = ts'.length then uniL f S ts ts' c
  else ⟨false, S, c⟩
def uniT : Nat → List (Int × Tm) → Tm → Tm → Nat → URes
 | 0, S, _, _, c => ⟨false, S, c + 1⟩
 | K + 1, S, x, y, c => if 2000 < c + 1 then ⟨false, S, c + 1⟩ else uniW (uniT K) S (subT (fullB S) x) (subT (fullB S) y) (c + 1)
structure OkS (N : Nat) (S : List (Int × Tm)) : Prop where
 small : N ≤ 65536
 formed : ∀ m : Int, 0 ≤ m → m < N → formedT (fullB S m) = true
 rng : ∀ m : Int, 0 ≤ m → m < N → ∀ j ∈ occT (fullB S m), 0 ≤ j ∧ j < N
 fix : ∀ m : Int, ∀ j ∈ occT (fullB S m), fullB S j = varV j
def InN (N : Nat) (x : Tm) : Prop := formedT x = true ∧ ∀ m ∈ occT x, 0 ≤ m ∧ m < (N : Int)
theorem OkS.nil {N : Nat} (hN : N ≤ 65536) : OkS N [] := by
 refine ⟨hN, fun m h0 h1 => by rw [fullB]; exact var_formed h0 (by omega), fun m h0 h1 j hj => ?_, fun m j _ => by rw [fullB]⟩
 rw [fullB, occ_varV] at hj
 simp at hj
 subst hj
 exact ⟨h0, h1⟩
section
variable {N : Nat} {S : List (Int × Tm)}
theorem OkS.inN (h : OkS N S) {x : Tm} (hx : InN N x) : InN N (subT (fullB S) x) := by
 refine ⟨formed_sub _ hx.1 fun m hm => h.formed m (hx.2 m hm).1 (hx.2 m hm).2, fun m hm => ?_⟩
 obtain ⟨j, hj, hm⟩ := (occ_sub x).1 hm
 exact h.rng j (hx.2 j hj).1 (hx.2 j hj).2 m hm
theorem OkS.fixT (h : OkS N S) (x : Tm) : ∀ j ∈ occT (subT (fullB S) x), fullB S j = varV j := fun j hj => by
 obtain ⟨i, _, hj⟩ := (occ_sub x).1 hj
 exact h.fix i j hj
theorem sub_fix {A : Int → Tm} {x : Tm} (hf : formedT x = true) (h : ∀ j ∈ occT x, A j = varV j) : subT A x = x := sub_id x hf h
theorem OkS.cons (h : OkS N S) {n : Int} {T : Tm} (h0 : 0 ≤ n) (h1 : n < N) (hT : InN N T) (hw : ∀ j ∈ occT T, fullB S j = varV j) (hn : ¬ n ∈ occT T) : OkS N ((n, T) :: S) ∧ ∀ m, fullB ((n, T) :: S) m = subT (oneV n T) (fullB S m) := by
 have e : ∀ m, fullB ((n, T) :: S) m = subT (oneV n T) (fullB S m) := fun m => by rw [fullB, sub_fix hT.1 hw]
 have key : ∀ j, j = n → oneV n T j = T := fun j hj => by rw [hj, oneV_self]
 refine ⟨⟨h.small, fun m g0 g1 => ?_, fun m g0 g1 j hj => ?_, fun m j hj => ?_⟩, e⟩
 ·rw [e]
  refine formed_sub _ (h.formed m g0 g1) fun j hj => ?_
  by_cases hjn : j = n
  ·rw [key j hjn]; exact hT.1
  ·rw [oneV_ne _ hjn]
   have := h.rng m g0 g1 j hj
   have := h.small
   exact var_formed (by omega) (by omega)
 ·rw [e] at hj
  obtain ⟨i, hi, hj⟩ := (occ_sub _).1 hj
  by_cases hin : i = n
  ·rw [key i hin] at hj; exact hT.2 j hj
  ·rw [oneV_ne _ hin, occ_varV] at hj
   simp at hj
   subst hj
   exact h.rng m g0 g1 _ hi
 ·rw [e] at hj ⊢
  obtain ⟨i, hi, hj⟩ := (occ_sub _).1 hj
  by_cases hin : i = n
  ·rw [key i hin] at hj
   rw [hw j hj, sub_varV, oneV_ne _ (fun e => hn (by rw [← e]; exact hj))]
  ·rw [oneV_ne _ hin, occ_varV] at hj
   simp at hj
   subst hj
   rw [h.fix m _ hi, sub_varV, oneV_ne _ hin]
end
def Resp (N : Nat) (A σ : Int → Tm) : Prop := ∀ m : Int, 0 ≤ m → m < N → subT A (σ m) = A m
def VarN (N : Nat) (l : List Int) : Prop := ∀ m ∈ l, 0 ≤ m ∧ m < (N : Int)
theorem Resp.at {N : Nat} {A σ : Int → Tm} (h : Resp N A σ) {t : Tm} (ht : VarN N (occT t)) : subT A (subT σ t) = subT A t := by
 rw [sub_sub]
 exact sub_congr t fun m hm => h m (ht m hm).1 (ht m hm).2
theorem OkS.resp {N : Nat} {S : List (Int × Tm)} (h : OkS N S) : Resp N (fullB S) (fullB S) := fun m h0 h1 => sub_fix (h.formed m h0 h1) (h.fix m)
theorem Resp.trans {N : Nat} {A : Int → Tm} {S S' : List (Int × Tm)} (hS : OkS N S) (h : Resp N A (fullB S')) (g : Resp N (fullB S') (fullB S)) : Resp N A (fullB S) := fun m h0 h1 => by
 rw [← h.at (hS.rng m h0 h1), g m h0 h1, h m h0 h1]
structure UPost (N : Nat) (S : List (Int × Tm)) (E : (Int → Tm) → Prop) (c : Nat) (r : URes) : Prop where
 oks : OkS N r.set
 resp : Resp N (fullB r.set) (fullB S)
 more : ∃ D, r.set = D ++ S
 cost : c ≤ r.cost
 made : r.ok = true → E (fullB r.set) ∧ r.cost ≤ 2000
 most : ∀ A, Resp N A (fullB S) → E A → r.cost ≤ 2000 → r.ok = true ∧ Resp N A (fullB r.set)
section
variable {N : Nat} {S : List (Int × Tm)}
mutual
theorem size_occ {A : Int → Tm} {n : Int} : ∀ t : Tm, n ∈ occT t → sizeN (A n) ≤ sizeN (subT A t)
 | .mk k m s ts, h => by
  by_cases hk : k = 0
  ·subst hk
   rw [occ_var] at h
   simp at h
   subst h
   rw [sub_var]
   exact Nat.le_refl _
  ·rw [occ_not hk] at h
   rw [sub_not _ hk, sizeN]
   have := sizes_occ (A := A) ts h
   omega
theorem sizes_occ {A : Int → Tm} {n : Int} : ∀ ts : List Tm, n ∈ occL ts → sizeN (A n) ≤ sizesN (subL A ts)
 | [], h => by simp [occL] at h
 | x :: r, h => by
  rw [occL, List.mem_append] at h
  rw [subL, sizesN]
  rcases h with h | h
  ·have := size_occ (A := A) x h; omega
  ·have := sizes_occ (A := A) r h; omega
end
theorem no_self {A : Int → Tm} {n : Int} {T : Tm} (hk : ¬ T.k = 0) (h : n ∈ occT T) : ¬ A n = subT A T := by
 cases T with
 | mk k m s ts =>
  intro e
  have hk : ¬ k = 0 := hk
  rw [occ_not hk] at h
  have := sizes_occ (A := A) ts h
  rw [e, sub_not _ hk, sizeN] at this
  omega
theorem bind_post (h : OkS N S) {n : Int} {T : Tm} {c c' : Nat} (h0 : 0 ≤ n) (h1 : n < N) (hn : fullB S n = varV n) (hT : InN N T) (hw : ∀ j ∈ occT T, fullB S j = varV j) (ho : ¬ n ∈ occT T) (hc : c ≤ c') (hc2 : c' ≤ 2000) :
  UPost N S (fun A => A n = subT A T) c ⟨true, (n, T) :: S, c'⟩ := by
 obtain ⟨hk, e⟩ := h.cons h0 h1 hT hw ho
 refine ⟨hk, fun m g0 g1 => ?_, ⟨[(n, T)], rfl⟩, hc, fun _ => ⟨?_, hc2⟩, fun A hA hE _ => ⟨rfl, fun m g0 g1 => ?_⟩⟩
 ·rw [e m]
  refine sub_congr _ fun j hj => ?_
  rw [e j, h.fix m j hj, sub_varV]
 ·show fullB ((n, T) :: S) n = subT (fullB ((n, T) :: S)) T
  rw [e n, hn, sub_varV, oneV_self]
  refine (sub_fix hT.1 fun j hj => ?_).symm
  rw [e j, hw j hj, sub_varV, oneV_ne _ (fun q => ho (by rw [← q]; exact hj))]
 ·show subT A (fullB ((n, T) :: S) m) = A m
  rw [e m, sub_sub, ← hA m g0 g1]
  refine sub_congr _ fun j hj => ?_
  by_cases q : j = n
  ·rw [q, oneV_self]; exact hE.symm
  ·rw [oneV_ne _ q, sub_varV]
theorem UPost.iff {E E' : (Int → Tm) → Prop} {c : Nat} {r : URes} (h : UPost N S E c r) (he : ∀ A, E A ↔ E' A) : UPost N S E' c r :=
 ⟨h.oks, h.resp, h.more, h.cost, fun q => ⟨(he _).1 (h.made q).1, (h.made q).2⟩, fun A g q => h.most A g ((he A).2 q)⟩
theorem UPost.iff' {E E' : (Int → Tm) → Prop} {c : Nat} {r : URes} (h : UPost N S E c r) (he : ∀ A, Resp N A (fullB S) → (E A ↔ E' A)) : UPost N S E' c r :=
 ⟨h.oks, h.resp, h.more, h.cost, fun q => ⟨(he _ h.resp).1 (h.made q).1, (h.made q).2⟩, fun A g q => h.most A g ((he A g).2 q)⟩
theorem UPost.costs {E : (Int → Tm) → Prop} {c c0 : Nat} {r : URes} (h : UPost N S E c r) (hc : c0 ≤ c) : UPost N S E c0 r :=
 ⟨h.oks, h.resp, h.more, Nat.le_trans hc h.cost, h.made, h.most⟩
theorem UPost.no (h : OkS N S) {E : (Int → Tm) → Prop} {c c' : Nat} (hc : c ≤ c') (hE : ∀ A, Resp N A (fullB S) → E A → ¬ c' ≤ 2000) : UPost N S E c ⟨false, S, c'⟩ :=
 ⟨h, h.resp, ⟨[], rfl⟩, hc, fun q => by simp at q, fun A hA e q => absurd q (hE A hA e)⟩
theorem join_post (h : OkS N S) {n m : Int} {c : Nat} (hn0 : 0 ≤ n) (hn1 : n < N) (hm0 : 0 ≤ m) (hm1 : m < N) (hn : fullB S n = varV n) (hm : fullB S m = varV m) (hc : c ≤ 2000) : UPost N S (fun A => A n = A m) c (joinB S n m c) := by
 unfold joinB
 by_cases e : n = m
 ·rw [if_pos e]
  subst e
  exact ⟨h, h.resp, ⟨[], rfl⟩, Nat.le_refl _, fun _ => ⟨rfl, hc⟩, fun A hA _ _ => ⟨rfl, hA⟩⟩
 ·rw [if_neg e]
  have hvn : ∀ i : Int, 0 ≤ i → i < N → InN N (varV i) := fun i i0 i1 => ⟨var_formed i0 (by have := h.small; omega), fun j hj => by rw [occ_varV] at hj; simp at hj; subst hj; exact ⟨i0, i1⟩⟩
  by_cases g : n ≤ m
  ·rw [Int.max_eq_right g, Int.min_eq_left g]
   refine (bind_post h hm0 hm1 hm (hvn n hn0 hn1) (fun j hj => by rw [occ_varV] at hj; simp at hj; subst hj; exact hn) (fun q => by rw [occ_varV] at q; simp at q; exact e q.symm) (Nat.le_refl c) hc).iff fun A => ?_
   rw [sub_varV]
   exact eq_comm
  ·have g' : m ≤ n := by omega
   rw [Int.max_eq_left g', Int.min_eq_right g']
   refine (bind_post h hn0 hn1 hn (hvn m hm0 hm1) (fun j hj => by rw [occ_varV] at hj; simp at hj; subst hj; exact hm) (fun q => by rw [occ_varV] at q; simp at q; exact e q) (Nat.le_refl c) hc).iff fun A => ?_
   rw [sub_varV]
theorem stand_post (h : OkS N S) {n : Int} {T : Tm} {c : Nat} (h0 : 0 ≤ n) (h1 : n < N) (hn : fullB S n = varV n) (hT : InN N T) (hw : ∀ j ∈ occT T, fullB S j = varV j) (hk : ¬ T.k = 0) (hc : c ≤ 2000) : UPost N S (fun A => A n = subT A T) c (standB S n T c) := by
 unfold standB
 obtain ⟨b, m, hh⟩ : ∃ b m, hasF n (2000 - c) T 0 = (b, m) := ⟨_, _, rfl⟩
 have hmem := hasF_mem (n := n) (M := 2000 - c) T 0 hT.1
 rw [hh] at hmem ⊢
 cases b
 ·have hle := hasF_false T 0 m hh
  have ho : ¬ n ∈ occT T := fun q => by have := (hmem hle.1).2 q; simp at this
  exact bind_post h h0 h1 hn hT hw ho (by show c ≤ c + m; omega) (by show c + m ≤ 2000; omega)
 ·refine UPost.no h (by show c ≤ c + m; omega) fun A hA hE hle => ?_
  have hle : c + m ≤ 2000 := hle
  exact no_self hk ((hmem (by show m ≤ 2000 - c; omega)).1 rfl) hE
theorem list_post {c0 : Nat} {f : List (Int × Tm) → Tm → Tm → Nat → URes} (ih : ∀ (S : List (Int × Tm)) (x y : Tm) (c : Nat), OkS N S → InN N x → InN N y → c0 ≤ c → c ≤ 2000 → UPost N S (fun A => subT A x = subT A y) c (f S x y c)) :
  ∀ (xs ys : List Tm) (S : List (Int × Tm)) (c : Nat), OkS N S → xs.length = ys.length → (∀ x ∈ xs, InN N x) → (∀ y ∈ ys, InN N y) → c0 ≤ c → c ≤ 2000 → UPost N S (fun A => subL A xs = subL A ys) c (uniL f S xs ys c)
 | [], [], S, c, h, _, _, _, _, hc => by
  rw [uniL]
  ·exact ⟨h, h.resp, ⟨[], rfl⟩, Nat.le_refl _, fun _ => ⟨rfl, hc⟩, fun A hA _ _ => ⟨rfl, hA⟩⟩
  ·intro x r y q e; cases e
 | [], y :: q, S, c, h, hl, _, _, _, _ => by simp at hl
 | x :: r, [], S, c, h, hl, _, _, _, _ => by simp at hl
 | x :: r, y :: q, S, c, h, hl, hx, hy, hc0, hc => by
  have h1 := ih S x y c h (hx x (by simp)) (hy y (by simp)) hc0 hc
  rw [uniL]
  by_cases hb : (f S x y c).ok = true
  ·rw [if_pos hb]
   obtain ⟨m1, m2⟩ := h1.made hb
   have h2 := list_post ih r q (f S x y c).set (f S x y c).cost h1.oks (by simpa using hl) (fun z hz => hx z (by simp [hz])) (fun z hz => hy z (by simp [hz])) (Nat.le_trans hc0 h1.cost) m2
   refine ⟨h2.oks, Resp.trans h h2.resp h1.resp, ?_, Nat.le_trans h1.cost h2.cost, fun g => ⟨?_, (h2.made g).2⟩, fun A hA hE hle => ?_⟩
   ·obtain ⟨D, hD⟩ := h1.more
    obtain ⟨D2, hD2⟩ := h2.more
    exact ⟨D2 ++ D, by rw [hD2, hD, List.append_assoc]⟩
   ·show subL _ (x :: r) = subL _ (y :: q)
    rw [subL, subL, (h2.made g).1, ← h2.resp.at (hx x (by simp)).2, ← h2.resp.at (hy y (by simp)).2, m1]
   ·have hE : subL A (x :: r) = subL A (y :: q) := hE
    rw [subL, subL] at hE
    injection hE with e1 e2
    have h3 := h1.most A hA e1 (by have := h2.cost; omega)
    exact h2.most A h3.2 e2 hle
  ·rw [if_neg hb]
   refine ⟨h1.oks, h1.resp, h1.more, h1.cost, fun g => by simp at g, fun A hA hE hle => ?_⟩
   have hE : subL A (x :: r) = subL A (y :: q) := hE
   rw [subL, subL] at hE
   injection hE with e1 e2
   exact absurd (h1.most A hA e1 hle).1 hb
theorem inN_arg {k n : Int} {s : ByteArray} {ts : List Tm} (hk : ¬ k = 0) (h : InN N (.mk k n s ts)) : ∀ x ∈ ts, InN N x := fun x hx => by
 obtain ⟨h1, h2⟩ := h
 rw [formedT, Bool.and_eq_true] at h1
 rw [occ_not hk] at h2
 exact ⟨formed_mem h1.2 hx, fun m hm => h2 m (mem_occL.2 ⟨x, hx, hm⟩)⟩
theorem whole_post {c0 : Nat} {f : List (Int × Tm) → Tm → Tm → Nat → URes} (ih : ∀ (S : List (Int × Tm)) (x y : Tm) (c : Nat), OkS N S → InN N x → InN N y → c0 ≤ c → c ≤ 2000 → UPost N S (fun A => subT A x = subT A y) c (f S x y c))
  (h : OkS N S) (X Y : Tm) {c : Nat} (hX : InN N X) (hY : InN N Y) (wX : ∀ j ∈ occT X, fullB S j = varV j) (wY : ∀ j ∈ occT Y, fullB S j = varV j) (hc0 : c0 ≤ c) (hc : c ≤ 2000) : UPost N S (fun A => subT A X = subT A Y) c (uniW f S X Y c) := by
 obtain ⟨k, n, s, ts⟩ := X
 obtain ⟨k', n', s', ts'⟩ := Y
 rw [uniW]
 by_cases hk : k = 0
 ·subst hk
  rw [if_pos rfl]
  have hn := hX.2 n (by rw [occ_var]; simp)
  have wn := wX n (by rw [occ_var]; simp)
  by_cases hk' : k' = 0
  ·subst hk'
   rw [if_pos rfl]
   have hm := hY.2 n' (by rw [occ_var]; simp)
   have wm := wY n' (by rw [occ_var]; simp)
   refine (join_post h hn.1 hn.2 hm.1 hm.2 wn wm hc).iff fun A => ?_
   rw [sub_var, sub_var]
  ·rw [if_neg hk']
   refine (stand_post h hn.1 hn.2 wn hY wY hk' hc).iff fun A => ?_
   rw [sub_var]
 ·rw [if_neg hk]
  by_cases hk' : k' = 0
  ·subst hk'
   rw [if_pos rfl]
   have hm := hY.2 n' (by rw [occ_var]; simp)
   have wm := wY n' (by rw [occ_var]; simp)
   refine (stand_post h hm.1 hm.2 wm hX wX hk hc).iff fun A => ?_
   rw [sub_var]
   exact eq_comm
  ·rw [if_neg hk']
   by_cases hm : k = k' ∧ n = n' ∧ s.data.toList = s'.data.toList ∧ ts.length = ts'.length
   ·rw [if_pos hm]
    refine (list_post ih ts ts' S c h hm.2.2.2 (inN_arg hk hX) (inN_arg hk' hY) hc0 hc).iff fun A => ?_
    rw [sub_not _ hk, sub_not _ hk', hm.1, hm.2.1, bytes_eq hm.2.2.1]
    constructor
    ·intro e; rw [e]
    ·intro e; injection e
   ·rw [if_neg hm]
    refine UPost.no h (Nat.le_refl c) fun A hA hE => absurd ?_ hm
    have hE : subT A (.mk k n s ts) = subT A (.mk k' n' s' ts') := hE
    rw [sub_not _ hk, sub_not _ hk'] at hE
    injection hE with e1 e2 e3 e4
    exact ⟨e1, e2, by rw [e3], by have := congrArg List.length e4; rwa [subL_len, subL_len] at this⟩
theorem uni_post : ∀ (K : Nat) (S : List (Int × Tm)) (x y : Tm) (c : Nat), OkS N S → InN N x → InN N y → c ≤ 2000 → 2000 ≤ K + c → UPost N S (fun A => subT A x = subT A y) c (uniT K S x y c)
 | 0, S, x, y, c, h, hx, hy, hc, hK => by
  rw [uniT]
  exact UPost.no h (by omega) fun _ _ _ => by omega
 | K + 1, S, x, y, c, h, hx, hy, hc, hK => by
  rw [uniT]
  by_cases h1 : 2000 < c + 1
  ·rw [if_pos h1]
   exact UPost.no h (by omega) fun _ _ _ => by omega
  ·rw [if_neg h1]
   have hw := whole_post (c0 := c + 1) (fun S x y c' g1 g2 g3 g4 g5 => uni_post K S x y c' g1 g2 g3 g5 (by omega)) h (subT (fullB S) x) (subT (fullB S) y) (h.inN hx) (h.inN hy) (h.fixT x) (h.fixT y) (Nat.le_refl (c + 1)) (by omega)
   refine (hw.costs (Nat.le_succ c)).iff' fun A hA => ?_
   rw [hA.at hx.2, hA.at hy.2]
end
end Go.Proofs.Ytchbbaehdcmcfaa
