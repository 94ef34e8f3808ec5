/- One ahead of another, as chapter 10 says it: pure. Nothing here is walked. -/
import Derived.Test.YtnnadmabgaopdaaTerm
namespace Go.Proofs.Ytnnadmabgaopdaa
set_option linter.unusedVariables false

def cmpI (a b : Int) : Int := if a < b then -1 else if b < a then 1 else 0
def cmpB (a b : List UInt8) : Int := if Op.bytesLess a b then -1 else if Op.bytesLess b a then 1 else 0
def or2 (a b : Int) : Int := if a = 0 then b else a
def placeK (k : Int) (m : Nat) : Int := if k = 2 ∧ 0 < m then 3 else k
def firstK (k n : Int) (s : ByteArray) (m : Nat) (k' n' : Int) (s' : ByteArray) (m' : Nat) : Int :=
  or2 (cmpI (placeK k m) (placeK k' m')) (or2 (cmpI n n') (or2 (cmpI m m') (cmpB s.data.toList s'.data.toList)))
mutual
def cmpT : Tm → Tm → Int
  | .mk k n s ts, .mk k' n' s' ts' => or2 (firstK k n s ts.length k' n' s' ts'.length) (cmpL ts ts')
def cmpL : List Tm → List Tm → Int
  | [], [] => 0
  | x :: r, y :: q => or2 (cmpT x y) (cmpL r q)
  | x :: r, [] => 1
  | [], y :: q => -1
end
theorem cmp_mk (k n : Int) (s : ByteArray) (ts : List Tm) (k' n' : Int) (s' : ByteArray) (ts' : List Tm) : cmpT (.mk k n s ts) (.mk k' n' s' ts') = or2 (firstK k n s ts.length k' n' s' ts'.length) (cmpL ts ts') := by rw [cmpT]

/-! Bytes. -/
theorem less_nil (l : List UInt8) : Op.bytesLess l [] = false := by cases l <;> rfl
theorem less_cons (a b : UInt8) (x y : List UInt8) : Op.bytesLess (a :: x) (b :: y) = (decide (a < b) || (a == b && Op.bytesLess x y)) := rfl
theorem cmpB_nil : cmpB [] [] = 0 := rfl
theorem cmpB_left (b : UInt8) (y : List UInt8) : cmpB [] (b :: y) = -1 := rfl
theorem cmpB_right (b : UInt8) (y : List UInt8) : cmpB (b :: y) [] = 1 := rfl
theorem u8_nat (a b : UInt8) : decide (a < b) = decide (a.toNat < b.toNat) := by
  simp [UInt8.lt_iff_toNat_lt]
theorem u8_eq (a b : UInt8) : (a == b) = decide (a.toNat = b.toNat) := by
  rw [Bool.eq_iff_iff]; simp [UInt8.toNat_inj]
theorem cmpB_cons (a b : UInt8) (x y : List UInt8) : cmpB (a :: x) (b :: y) = or2 (cmpI a.toNat b.toNat) (cmpB x y) := by
  unfold cmpB
  rw [less_cons, less_cons, u8_nat, u8_nat, u8_eq, u8_eq]
  unfold or2 cmpI
  rcases Nat.lt_trichotomy a.toNat b.toNat with h | h | h
  · have h' : (a.toNat : Int) < b.toNat := by omega
    simp [h, h']
  · rw [h]; simp
  · have h' : (b.toNat : Int) < a.toNat := by omega
    have h2 : ¬ (a.toNat : Int) < b.toNat := by omega
    have h3 : ¬ a.toNat = b.toNat := by omega
    have h4 : ¬ b.toNat = a.toNat := by omega
    simp [h, h', h2, h3, h4, Nat.lt_asymm h]

/-! Either ahead, or the other, or alike; through a third one. -/
/-- What is said of the first and the third. -/
def Tr (x y z : Int) : Prop := x ≤ 0 → y ≤ 0 → z ≤ 0 ∧ (z = 0 ↔ x = 0 ∧ y = 0)
theorem or_le {x y : Int} (h : or2 x y ≤ 0) : x ≤ 0 ∧ (x = 0 → y ≤ 0) := by
  unfold or2 at h
  by_cases hx : x = 0
  · rw [if_pos hx] at h; exact ⟨by omega, fun _ => h⟩
  · rw [if_neg hx] at h; exact ⟨h, fun e => absurd e hx⟩
theorem or_z {x y : Int} : or2 x y = 0 ↔ x = 0 ∧ y = 0 := by
  unfold or2
  by_cases hx : x = 0
  · simp [hx]
  · rw [if_neg hx]; simp [hx]
theorem or_mk {x y : Int} (h : x ≤ 0) (h' : x = 0 → y ≤ 0) : or2 x y ≤ 0 := by
  unfold or2
  by_cases hx : x = 0
  · rw [if_pos hx]; exact h' hx
  · rw [if_neg hx]; exact h
theorem tr_or {x y z x' y' z' : Int} (h : Tr x y z) (h' : Tr x' y' z') : Tr (or2 x x') (or2 y y') (or2 z z') := by
  intro hx hy
  obtain ⟨hx1, hx2⟩ := or_le hx
  obtain ⟨hy1, hy2⟩ := or_le hy
  obtain ⟨hz1, hz2⟩ := h hx1 hy1
  refine ⟨or_mk hz1 fun e => (h' (hx2 (hz2.1 e).1) (hy2 (hz2.1 e).2)).1, ?_⟩
  rw [or_z, or_z, or_z]
  constructor
  · rintro ⟨e1, e2⟩
    have e3 := (h' (hx2 (hz2.1 e1).1) (hy2 (hz2.1 e1).2)).2.1 e2
    exact ⟨⟨(hz2.1 e1).1, e3.1⟩, (hz2.1 e1).2, e3.2⟩
  · rintro ⟨⟨e1, e2⟩, e3, e4⟩
    exact ⟨hz2.2 ⟨e1, e3⟩, (h' (by omega) (by omega)).2.2 ⟨e2, e4⟩⟩
theorem tr_int (a b c : Int) : Tr (cmpI a b) (cmpI b c) (cmpI a c) := by
  unfold Tr cmpI
  repeat' split
  all_goals omega
theorem back_or {x y x' y' : Int} (h : y = -x) (h' : y' = -x') : or2 y y' = - or2 x x' := by
  unfold or2
  subst h h'
  by_cases hx : x = 0
  · simp [hx]
  · rw [if_neg hx, if_neg (by omega)]
theorem back_int (a b : Int) : cmpI b a = - cmpI a b := by
  unfold cmpI
  repeat' split
  all_goals omega
theorem int_zero {a b : Int} : cmpI a b = 0 ↔ a = b := by
  unfold cmpI
  repeat' split
  all_goals omega
theorem tr_bytes : ∀ a b c : List UInt8, Tr (cmpB a b) (cmpB b c) (cmpB a c)
  | [], [], [] => by unfold Tr; rw [cmpB_nil]; omega
  | [], [], c :: z => by unfold Tr; rw [cmpB_nil, cmpB_left]; omega
  | [], b :: y, [] => by unfold Tr; rw [cmpB_nil, cmpB_left, cmpB_right]; omega
  | [], b :: y, c :: z => by unfold Tr; rw [cmpB_left, cmpB_left]; omega
  | a :: x, [], [] => by unfold Tr; rw [cmpB_right, cmpB_nil]; omega
  | a :: x, [], c :: z => by unfold Tr; rw [cmpB_right]; omega
  | a :: x, b :: y, [] => by unfold Tr; rw [cmpB_right, cmpB_right]; omega
  | a :: x, b :: y, c :: z => by
    rw [cmpB_cons, cmpB_cons, cmpB_cons]
    exact tr_or (tr_int _ _ _) (tr_bytes x y z)
theorem back_bytes : ∀ a b : List UInt8, cmpB b a = - cmpB a b
  | [], [] => rfl
  | [], b :: y => rfl
  | a :: x, [] => rfl
  | a :: x, b :: y => by
    rw [cmpB_cons, cmpB_cons]
    exact back_or (back_int _ _) (back_bytes x y)
theorem bytes_zero : ∀ a b : List UInt8, cmpB a b = 0 ↔ a = b
  | [], [] => by simp [cmpB_nil]
  | [], b :: y => by simp [cmpB_left]
  | a :: x, [] => by simp [cmpB_right]
  | a :: x, b :: y => by
    rw [cmpB_cons, or_z, int_zero, bytes_zero x y]
    simp only [List.cons.injEq]
    constructor
    · rintro ⟨h, h'⟩; exact ⟨UInt8.toNat_inj.1 (by omega), h'⟩
    · rintro ⟨rfl, h'⟩; exact ⟨rfl, h'⟩
theorem tr_first (k n : Int) (s : ByteArray) (m : Nat) (k' n' : Int) (s' : ByteArray) (m' : Nat) (k2 n2 : Int) (s2 : ByteArray) (m2 : Nat) :
    Tr (firstK k n s m k' n' s' m') (firstK k' n' s' m' k2 n2 s2 m2) (firstK k n s m k2 n2 s2 m2) :=
  tr_or (tr_int _ _ _) (tr_or (tr_int _ _ _) (tr_or (tr_int _ _ _) (tr_bytes _ _ _)))
theorem back_first (k n : Int) (s : ByteArray) (m : Nat) (k' n' : Int) (s' : ByteArray) (m' : Nat) : firstK k' n' s' m' k n s m = - firstK k n s m k' n' s' m' :=
  back_or (back_int _ _) (back_or (back_int _ _) (back_or (back_int _ _) (back_bytes _ _)))
theorem first_zero {k n : Int} {s : ByteArray} {m : Nat} {k' n' : Int} {s' : ByteArray} {m' : Nat} : firstK k n s m k' n' s' m' = 0 ↔ placeK k m = placeK k' m' ∧ n = n' ∧ m = m' ∧ s = s' := by
  unfold firstK
  rw [or_z, or_z, or_z, int_zero, int_zero, int_zero, bytes_zero]
  constructor
  · rintro ⟨h1, h2, h3, h4⟩; exact ⟨h1, h2, by omega, bytes_eq h4⟩
  · rintro ⟨h1, h2, rfl, rfl⟩; exact ⟨h1, h2, rfl, rfl⟩
mutual
theorem tr_terms : ∀ a b c : Tm, Tr (cmpT a b) (cmpT b c) (cmpT a c)
  | .mk k n s ts, .mk k' n' s' ts', .mk k2 n2 s2 ts2 => by
    rw [cmp_mk, cmp_mk, cmp_mk]
    exact tr_or (tr_first _ _ _ _ _ _ _ _ _ _ _ _) (tr_lists ts ts' ts2)
theorem tr_lists : ∀ a b c : List Tm, Tr (cmpL a b) (cmpL b c) (cmpL a c)
  | [], [], [] => by unfold Tr; simp [cmpL]
  | [], [], z :: c => by unfold Tr; simp [cmpL]
  | [], y :: b, [] => by unfold Tr; simp [cmpL]
  | [], y :: b, z :: c => by unfold Tr; simp [cmpL]
  | x :: a, [], [] => by unfold Tr; simp [cmpL]
  | x :: a, [], z :: c => by unfold Tr; simp [cmpL]
  | x :: a, y :: b, [] => by unfold Tr; simp [cmpL]
  | x :: a, y :: b, z :: c => by
    rw [cmpL, cmpL, cmpL]
    exact tr_or (tr_terms x y z) (tr_lists a b c)
end
mutual
theorem back_terms : ∀ a b : Tm, cmpT b a = - cmpT a b
  | .mk k n s ts, .mk k' n' s' ts' => by
    rw [cmp_mk, cmp_mk]
    exact back_or (back_first _ _ _ _ _ _ _ _) (back_lists ts ts')
theorem back_lists : ∀ a b : List Tm, cmpL b a = - cmpL a b
  | [], [] => by rw [cmpL]; rfl
  | [], y :: b => by rw [cmpL, cmpL]; rfl
  | x :: a, [] => by rw [cmpL, cmpL]
  | x :: a, y :: b => by
    rw [cmpL, cmpL]
    exact back_or (back_terms x y) (back_lists a b)
end
theorem place_formed {t : Tm} (h : formedT t = true) : t.k = 0 ∨ t.k = 1 ∨ t.k = 2 := by
  cases t with
  | mk k n s ts =>
    rw [formedT, Bool.and_eq_true] at h
    have := h.1
    unfold plainT at this
    show k = 0 ∨ k = 1 ∨ k = 2
    by_cases h0 : k = 0
    · exact Or.inl h0
    · by_cases h1 : k = 1
      · exact Or.inr (Or.inl h1)
      · by_cases h2 : k = 2
        · exact Or.inr (Or.inr h2)
        · simp [h0, h1, h2] at this
mutual
/-- Just alike ones are alike. -/
theorem zero_terms : ∀ a b : Tm, formedT a = true → formedT b = true → (cmpT a b = 0 ↔ a = b)
  | .mk k n s ts, .mk k' n' s' ts', ha, hb => by
    have ka := place_formed ha
    have kb := place_formed hb
    simp only [Tm.k] at ka kb
    rw [formedT, Bool.and_eq_true] at ha hb
    rw [cmp_mk, or_z, first_zero, zero_lists ts ts' ha.2 hb.2]
    simp only [Tm.mk.injEq]
    constructor
    · rintro ⟨⟨h1, h2, h3, h4⟩, h5⟩
      refine ⟨?_, h2, h4, h5⟩
      unfold placeK at h1
      rw [h3] at h1
      revert h1
      repeat' split
      all_goals omega
    · rintro ⟨rfl, rfl, rfl, rfl⟩
      exact ⟨⟨rfl, rfl, rfl, rfl⟩, rfl⟩
theorem zero_lists : ∀ a b : List Tm, formedL a = true → formedL b = true → (cmpL a b = 0 ↔ a = b)
  | [], [], _, _ => by simp [cmpL]
  | [], y :: b, _, _ => by simp [cmpL]
  | x :: a, [], _, _ => by simp [cmpL]
  | x :: a, y :: b, ha, hb => by
    rw [formedL, Bool.and_eq_true] at ha hb
    rw [cmpL, or_z, zero_terms x y ha.1 hb.1, zero_lists a b ha.2 hb.2]
    simp
end
theorem int_range (x y : Int) : cmpI x y = -1 ∨ cmpI x y = 0 ∨ cmpI x y = 1 := by
  unfold cmpI
  repeat' split
  all_goals simp
mutual
theorem cmp_range : ∀ a b : Tm, cmpT a b = -1 ∨ cmpT a b = 0 ∨ cmpT a b = 1
  | .mk k n s ts, .mk k' n' s' ts' => by
    rw [cmp_mk]
    have h1 := int_range
    have h2 : cmpB s.data.toList s'.data.toList = -1 ∨ cmpB s.data.toList s'.data.toList = 0 ∨ cmpB s.data.toList s'.data.toList = 1 := by
      unfold cmpB; repeat' split
      all_goals simp
    have h3 := cmps_range ts ts'
    have ho : ∀ {x y : Int}, (x = -1 ∨ x = 0 ∨ x = 1) → (y = -1 ∨ y = 0 ∨ y = 1) → (or2 x y = -1 ∨ or2 x y = 0 ∨ or2 x y = 1) := fun hx hy => by
      unfold or2; split
      · exact hy
      · exact hx
    exact ho (ho (h1 _ _) (ho (h1 _ _) (ho (h1 _ _) h2))) h3
theorem cmps_range : ∀ a b : List Tm, cmpL a b = -1 ∨ cmpL a b = 0 ∨ cmpL a b = 1
  | [], [] => by simp [cmpL]
  | [], y :: b => by simp [cmpL]
  | x :: a, [] => by simp [cmpL]
  | x :: a, y :: b => by
    rw [cmpL]
    have hx := cmp_range x y
    have hy := cmps_range a b
    unfold or2; split
    · exact hy
    · exact hx
end
theorem cmp_self (a : Tm) : cmpT a a = 0 := by have := back_terms a a; omega
/-- What Cmp answers: of good ones. -/
def cmpG (a b : Tm) : Int := if goodT a && goodT b then cmpT a b else 0
end Go.Proofs.Ytnnadmabgaopdaa
