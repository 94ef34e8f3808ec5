/- Terms as trees, as chapter 7 says them. Nothing here is walked. -/
import Derived.Lib.Hide
import Derived.WalkKit
namespace Go.Proofs.Ytnnadmabgaopdaa

inductive Tm where
  | mk (k n : Int) (s : ByteArray) (ts : List Tm)
namespace Tm
def k : Tm → Int | mk k _ _ _ => k
def n : Tm → Int | mk _ n _ _ => n
def s : Tm → ByteArray | mk _ _ s _ => s
def args : Tm → List Tm | mk _ _ _ ts => ts
end Tm
mutual
/-- How many terms it is made of. -/
def sizeN : Tm → Nat
  | .mk _ _ _ ts => sizesN ts + 1
def sizesN : List Tm → Nat
  | [] => 0
  | x :: r => sizeN x + sizesN r
end
mutual
def depthN : Tm → Nat
  | .mk _ _ _ ts => depthsN ts + 1
def depthsN : List Tm → Nat
  | [] => 0
  | x :: r => max (depthN x) (depthsN r)
end
def letterB (c : UInt8) : Bool := c == 9 || c == 10 || (decide (32 ≤ c) && decide (c ≤ 126))
/-- What a term's own fields may be. -/
def plainT (k n : Int) (s : List UInt8) (m : Nat) : Bool :=
  if k = 0 then decide (0 ≤ n) && decide (n < 2147483648) && s.isEmpty && decide (m = 0)
  else if k = 1 then s.isEmpty && decide (m = 0)
  else if k = 2 then decide (n = 0) && decide (s.length ≤ 64) && decide (m ≤ 8) && s.all letterB
  else false
mutual
def formedT : Tm → Bool
  | .mk k n s ts => plainT k n s.data.toList ts.length && formedL ts
def formedL : List Tm → Bool
  | [] => true
  | x :: r => formedT x && formedL r
end
def goodT (t : Tm) : Bool := decide (sizeN t ≤ 2000) && decide (depthN t ≤ 64) && formedT t
mutual
/-- The variables' numbers behind those of 'l', each once. -/
def varsT : Tm → List Int → List Int
  | .mk k n _ ts, l => if k = 0 then (if l.contains n then l else l ++ [n]) else varsL ts l
def varsL : List Tm → List Int → List Int
  | [], l => l
  | x :: r, l => varsL r (varsT x l)
end
mutual
def sameT : Tm → Tm → Bool
  | .mk k n s ts, .mk k' n' s' ts' => k == k' && n == n' && s.data.toList == s'.data.toList && sameL ts ts'
def sameL : List Tm → List Tm → Bool
  | [], [] => true
  | x :: r, y :: q => sameT x y && sameL r q
  | _, _ => false
end
def dotS : ByteArray := ⟨#[46]⟩
def consT (a b : Tm) : Tm := .mk 2 0 dotS [a, b]
def listT : List Tm → Tm → Tm
  | [], t => t
  | x :: r, t => consT x (listT r t)
/-- Two Args under the list's name. -/
def pairA (c : Bool) : List Tm → Option (Tm × Tm)
  | [a, b] => if c then some (a, b) else none
  | _ => none
def pairT : Tm → Option (Tm × Tm)
  | .mk k _ s ts => pairA (k == 2 && s.data.toList == [46]) ts
theorem size_pos (t : Tm) : 1 ≤ sizeN t := by cases t; rw [sizeN]; omega
theorem depth_pos (t : Tm) : 1 ≤ depthN t := by cases t; rw [depthN]; omega
theorem sizes_mem : ∀ {l : List Tm} {x : Tm}, x ∈ l → sizeN x ≤ sizesN l
  | y :: r, x, h => by
    rw [sizesN]
    rcases List.mem_cons.1 h with rfl | h
    · omega
    · have := sizes_mem h; omega
theorem depths_mem : ∀ {l : List Tm} {x : Tm}, x ∈ l → depthN x ≤ depthsN l
  | y :: r, x, h => by
    rw [depthsN]
    rcases List.mem_cons.1 h with rfl | h
    · omega
    · have := depths_mem h; omega
theorem formed_mem : ∀ {l : List Tm} {x : Tm}, formedL l = true → x ∈ l → formedT x = true
  | y :: r, x, hf, h => by
    rw [formedL, Bool.and_eq_true] at hf
    rcases List.mem_cons.1 h with rfl | h
    · exact hf.1
    · exact formed_mem hf.2 h
theorem good_parts {t : Tm} (h : goodT t = true) : sizeN t ≤ 2000 ∧ depthN t ≤ 64 ∧ formedT t = true := by
  unfold goodT at h
  simp only [Bool.and_eq_true, decide_eq_true_eq] at h
  exact ⟨h.1.1, h.1.2, h.2⟩
theorem good_of {t : Tm} (h1 : sizeN t ≤ 2000) (h2 : depthN t ≤ 64) (h3 : formedT t = true) : goodT t = true := by
  unfold goodT
  simp [h1, h2, h3]
/-- An Arg of a good one is good. -/
theorem good_arg {t x : Tm} (h : goodT t = true) (hx : x ∈ t.args) : goodT x = true := by
  obtain ⟨h1, h2, h3⟩ := good_parts h
  cases t with
  | mk k n s ts =>
    have hx' : x ∈ ts := hx
    rw [sizeN] at h1
    rw [depthN] at h2
    rw [formedT, Bool.and_eq_true] at h3
    have a := sizes_mem hx'
    have b := depths_mem hx'
    exact good_of (by omega) (by omega) (formed_mem h3.2 hx')
theorem bytes_eq {s t : ByteArray} (h : s.data.toList = t.data.toList) : s = t := by
  obtain ⟨⟨l⟩⟩ := s; obtain ⟨⟨m⟩⟩ := t; simp at h; rw [h]
mutual
theorem same_iff : ∀ (a b : Tm), sameT a b = true ↔ a = b
  | .mk k n s ts, .mk k' n' s' ts' => by
    rw [sameT]
    simp only [Bool.and_eq_true, beq_iff_eq, Tm.mk.injEq]
    rw [sames_iff ts ts']
    constructor
    · rintro ⟨⟨⟨h1, h2⟩, h3⟩, h4⟩; exact ⟨h1, h2, bytes_eq h3, h4⟩
    · rintro ⟨h1, h2, h3, h4⟩; exact ⟨⟨⟨h1, h2⟩, by rw [h3]⟩, h4⟩
theorem sames_iff : ∀ (a b : List Tm), sameL a b = true ↔ a = b
  | [], [] => by simp [sameL]
  | x :: r, y :: q => by
    rw [sameL]
    simp only [Bool.and_eq_true, List.cons.injEq]
    rw [same_iff x y, sames_iff r q]
  | [], y :: q => by simp [sameL]
  | x :: r, [] => by simp [sameL]
end
theorem same_self (a : Tm) : sameT a a = true := (same_iff a a).2 rfl
theorem pairA_some {c : Bool} {ts : List Tm} {a b : Tm} (h : pairA c ts = some (a, b)) : c = true ∧ ts = [a, b] := by
  match ts, h with
  | [], h => cases h
  | [x], h => cases h
  | [x, y], h =>
    unfold pairA at h
    cases c
    · cases h
    · cases h; exact ⟨rfl, rfl⟩
  | x :: y :: z :: r, h => cases h
theorem pair_size {t a b : Tm} (h : pairT t = some (a, b)) : sizeN b < sizeN t ∧ t.args = [a, b] ∧ t.k = 2 ∧ t.s = dotS := by
  cases t with
  | mk k n s ts =>
    obtain ⟨hc, rfl⟩ := pairA_some h
    simp only [Bool.and_eq_true, beq_iff_eq] at hc
    refine ⟨?_, rfl, hc.1, bytes_eq hc.2⟩
    rw [sizeN, sizesN, sizesN, sizesN]
    have := size_pos a
    omega
/-- The items, and what ends them. -/
def itemsF : Nat → Tm → List Tm × Tm
  | 0, t => ([], t)
  | m + 1, t => match pairT t with
    | some (a, b) => (a :: (itemsF m b).1, (itemsF m b).2)
    | none => ([], t)
def itemsT (t : Tm) : List Tm × Tm := itemsF (sizeN t) t
theorem items_fuel : ∀ (m m' : Nat) (t : Tm), sizeN t ≤ m → sizeN t ≤ m' → itemsF m t = itemsF m' t
  | 0, m', t, h, _ => by have := size_pos t; omega
  | m + 1, 0, t, _, h => by have := size_pos t; omega
  | m + 1, m' + 1, t, h, h' => by
    rw [itemsF, itemsF]
    cases hp : pairT t with
    | none => rfl
    | some q =>
      obtain ⟨a, b⟩ := q
      have := pair_size hp
      simp only
      rw [items_fuel m m' b (by omega) (by omega)]
theorem items_none {t : Tm} (h : pairT t = none) : itemsT t = ([], t) := by
  unfold itemsT
  have := size_pos t
  rw [show sizeN t = (sizeN t - 1) + 1 by omega, itemsF, h]
theorem items_some {t a b : Tm} (h : pairT t = some (a, b)) : itemsT t = (a :: (itemsT b).1, (itemsT b).2) := by
  unfold itemsT
  have h1 := pair_size h
  have := size_pos t
  rw [show sizeN t = (sizeN t - 1) + 1 by omega, itemsF, h]
  simp only
  rw [items_fuel (sizeN t - 1) (sizeN b) b (by omega) (Nat.le_refl _)]
theorem pair_cons (a b : Tm) : pairT (consT a b) = some (a, b) := by
  rfl
theorem items_list (t : Tm) : ∀ l : List Tm, itemsT (listT l t) = (l ++ (itemsT t).1, (itemsT t).2)
  | [] => rfl
  | x :: r => by
    rw [listT, items_some (pair_cons _ _), items_list t r]
    rfl
/-- The items of a good one, and what ends them, make it again. -/
theorem list_items : ∀ (m : Nat) (t : Tm), sizeN t ≤ m → formedT t = true → listT (itemsT t).1 (itemsT t).2 = t
  | 0, t, h, _ => by have := size_pos t; omega
  | m + 1, t, h, hf => by
    cases hp : pairT t with
    | none => rw [items_none hp]; rfl
    | some q =>
      obtain ⟨a, b⟩ := q
      obtain ⟨h1, h2, h3, h4⟩ := pair_size hp
      rw [items_some hp]
      cases t with
      | mk k n s ts =>
        cases (show k = 2 from h3)
        cases (show s = dotS from h4)
        cases (show ts = [a, b] from h2)
        rw [formedT, Bool.and_eq_true] at hf
        have hb : formedT b = true := formed_mem hf.2 (by simp)
        have hn : n = 0 := by
          have := hf.1
          unfold plainT at this
          simp at this
          exact this.1.1
        subst hn
        show consT a (listT (itemsT b).1 (itemsT b).2) = _
        rw [list_items m b (by omega) hb]
        rfl
/-- How great a list is. -/
theorem size_list (t : Tm) : ∀ l : List Tm, sizeN (listT l t) = l.length + sizesN l + sizeN t
  | [] => by simp [listT, sizesN]
  | x :: r => by
    rw [listT, consT, sizeN, sizesN, sizesN, sizesN, size_list t r, sizesN, List.length_cons]
    omega
/-- The numbers that are not there yet, each once. -/
def addAll (l : List Int) : List Int → List Int
  | [] => l
  | n :: r => addAll (if l.contains n then l else l ++ [n]) r
theorem addAll_append (l a b : List Int) : addAll l (a ++ b) = addAll (addAll l a) b := by
  induction a generalizing l with
  | nil => rfl
  | cons n r ih => rw [List.cons_append, addAll, addAll, ih]
theorem mem_addAll : ∀ (a l : List Int) (n : Int), n ∈ addAll l a ↔ n ∈ l ∨ n ∈ a
  | [], l, n => by simp [addAll]
  | x :: r, l, n => by
    rw [addAll, mem_addAll r]
    by_cases h : l.contains x = true
    · rw [if_pos h]
      have hx : x ∈ l := by simpa using h
      simp only [List.mem_cons]
      constructor
      · rintro (h1 | h1)
        · exact Or.inl h1
        · exact Or.inr (Or.inr h1)
      · rintro (h1 | rfl | h1)
        · exact Or.inl h1
        · exact Or.inl hx
        · exact Or.inr h1
    · rw [if_neg h]
      simp only [List.mem_append, List.mem_cons, List.not_mem_nil, or_false]
      constructor
      · rintro ((h1 | h1) | h1)
        · exact Or.inl h1
        · exact Or.inr (Or.inl h1)
        · exact Or.inr (Or.inr h1)
      · rintro (h1 | h1 | h1)
        · exact Or.inl (Or.inl h1)
        · exact Or.inl (Or.inr h1)
        · exact Or.inr h1
/-- What is there already is added to no end. -/
theorem addAll_skip : ∀ (a l : List Int), (∀ n ∈ a, n ∈ l) → addAll l a = l
  | [], l, _ => rfl
  | x :: r, l, h => by
    rw [addAll, if_pos (by simpa using h x (by simp))]
    exact addAll_skip r l (fun n hn => h n (List.mem_cons_of_mem _ hn))
theorem addAll_addAll : ∀ (a l m : List Int), addAll l (addAll m a) = addAll (addAll l m) a
  | [], l, m => rfl
  | x :: r, l, m => by
    rw [addAll, addAll_addAll r l, addAll]
    by_cases h : m.contains x = true
    · have hx : x ∈ m := by simpa using h
      rw [if_pos h, if_pos (by have := (mem_addAll m l x).2 (Or.inr hx); simpa using this)]
    · rw [if_neg h, addAll_append, addAll, addAll]
mutual
theorem vars_add : ∀ (t : Tm) (l : List Int), varsT t l = addAll l (varsT t [])
  | .mk k n s ts, l => by
    rw [varsT, varsT]
    by_cases hk : k = 0
    · rw [if_pos hk, if_pos hk]
      simp [addAll]
    · rw [if_neg hk, if_neg hk]
      exact varss_add ts l
theorem varss_add : ∀ (ts : List Tm) (l : List Int), varsL ts l = addAll l (varsL ts [])
  | [], l => rfl
  | x :: r, l => by
    rw [varsL, varsL, vars_add x l, varss_add r (addAll l _), varss_add r (varsT x []), addAll_addAll]
end
end Go.Proofs.Ytnnadmabgaopdaa
