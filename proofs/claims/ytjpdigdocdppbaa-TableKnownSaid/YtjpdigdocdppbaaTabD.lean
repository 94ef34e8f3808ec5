/- A table's map as a datum: which keys it has, which number each has. Nothing here speaks of one program. -/
import Derived.Maps.OwnSet
import Derived.Maps.OwnOps
namespace Go.Proofs.Ytjpdigdocdppbaa
open Go.Maps

/-- The datum D numbers the keys of ks (those with 'ok') by their places. -/
structure Numbers {κ : Type} (lit : κ → Lit) (ok : κ → Prop) (D : DataW Unit) (ks : List κ) : Prop where
  tidy : Tidy D
  size : Maps.size D = ks.length
  nodup : ks.Nodup
  good : ∀ k ∈ ks, ok k
  has : ∀ k, ok k → (Maps.has D (lit k) = true ↔ ∃ i : Nat, ks[i]? = some k)
  at' : ∀ (i : Nat) k, ks[i]? = some k → ∀ z, D.atKey (lit k) z = .lit (.int .i64 i)

section
variable {κ : Type} {lit : κ → Lit} {ok : κ → Prop} {D : DataW Unit} {ks : List κ}

theorem Numbers.nil (lit : κ → Lit) (ok : κ → Prop) : Numbers lit ok (.map []) ([] : List κ) :=
  ⟨tidy_empty, rfl, List.nodup_nil, by simp, fun k _ => by simp [Maps.has], by simp⟩

theorem Numbers.put (h : Numbers lit ok D ks) (inj : ∀ a b, ok a → ok b → lit a = lit b → a = b) (key : ∀ a, WideAt.IsKeyLit (lit a)) {k : κ} (hk : ok k) (hn : k ∉ ks) :
    Numbers lit ok (D.put (lit k) (.lit (.int .i64 ks.length))) (ks ++ [k]) where
  tidy := h.tidy.put (key k) _
  size := by
    rw [size_put h.tidy, if_neg, h.size]
    · simp
    · rw [h.has k hk, not_exists]
      exact fun i hi => hn (List.mem_of_getElem? hi)
  nodup := by rw [List.nodup_append]; exact ⟨h.nodup, by simp, fun a ha b hb => by simp at hb; subst hb; exact fun e => hn (e ▸ ha)⟩
  good := fun a ha => by
    rcases List.mem_append.1 ha with ha | ha
    · exact h.good a ha
    · simp at ha; exact ha ▸ hk
  has := fun a ha => by
    by_cases e : a = k
    · subst e
      rw [has_put_same h.tidy.isMap (key a)]
      exact ⟨fun _ => ⟨ks.length, by simp⟩, fun _ => rfl⟩
    · rw [has_put_other (fun e' => e (inj _ _ ha hk e')), h.has a ha]
      constructor
      · rintro ⟨i, hi⟩; exact ⟨i, by rw [List.getElem?_append_left (List.getElem?_eq_some_iff.1 hi).1]; exact hi⟩
      · rintro ⟨i, hi⟩
        by_cases hlt : i < ks.length
        · rw [List.getElem?_append_left hlt] at hi; exact ⟨i, hi⟩
        · rw [List.getElem?_append_right (by omega)] at hi
          have hm := List.mem_of_getElem? hi
          simp at hm; exact absurd hm e
  at' := fun i a hi z => by
    by_cases hlt : i < ks.length
    · rw [List.getElem?_append_left hlt] at hi
      have ha := List.mem_of_getElem? hi
      rw [atKey_put_other (fun e' => hn ((inj _ _ (h.good a ha) hk e') ▸ ha)), h.at' i a hi]
    · rw [List.getElem?_append_right (by omega)] at hi
      have hm := List.mem_of_getElem? hi
      simp at hm; subst hm
      have hj := (List.getElem?_eq_some_iff.1 hi).1
      simp at hj
      rw [atKey_put_same h.tidy.isMap (key a)]
      rw [show i = ks.length by omega]

/-- In the middle of a cut: of ks the places n .. n + j - 1 are gone already. -/
structure Cutting (lit : κ → Lit) (ok : κ → Prop) (D : DataW Unit) (ks : List κ) (n j : Nat) : Prop where
  tidy : Tidy D
  size : Maps.size D + j = ks.length
  has : ∀ k, ok k → (Maps.has D (lit k) = true ↔ ∃ i : Nat, ks[i]? = some k ∧ (i < n ∨ n + j ≤ i))
  at' : ∀ (i : Nat) k, ks[i]? = some k → i < n ∨ n + j ≤ i → ∀ z, D.atKey (lit k) z = .lit (.int .i64 i)

theorem Numbers.cutting (h : Numbers lit ok D ks) (n : Nat) : Cutting lit ok D ks n 0 where
  tidy := h.tidy
  size := h.size
  has := fun k hk => by
    rw [h.has k hk]
    exact ⟨fun ⟨i, hi⟩ => ⟨i, hi, by omega⟩, fun ⟨i, hi, _⟩ => ⟨i, hi⟩⟩
  at' := fun i k hi _ z => h.at' i k hi z

theorem nodup_at {l : List κ} (h : l.Nodup) {i j : Nat} {a : κ} (hi : l[i]? = some a) (hj : l[j]? = some a) : i = j := by
  obtain ⟨h1, rfl⟩ := List.getElem?_eq_some_iff.1 hi
  obtain ⟨h2, e⟩ := List.getElem?_eq_some_iff.1 hj
  have H := List.pairwise_iff_getElem.1 h
  rcases Nat.lt_trichotomy i j with hlt | he | hgt
  · exact absurd e.symm (H i j h1 h2 hlt)
  · exact he
  · exact absurd e (H j i h2 h1 hgt)

theorem Cutting.step {n j : Nat} (h : Cutting lit ok D ks n j) (hd : ks.Nodup) (good : ∀ k ∈ ks, ok k) (inj : ∀ a b, ok a → ok b → lit a = lit b → a = b) {k : κ} (hk : ks[n + j]? = some k) :
    Cutting lit ok (D.del (lit k)) ks n (j + 1) where
  tidy := h.tidy.del _
  size := by
    have hkk := good k (List.mem_of_getElem? hk)
    have h1 := size_del (k := lit k) h.tidy
    rw [if_pos ((h.has k hkk).2 ⟨n + j, hk, Or.inr (Nat.le_refl _)⟩)] at h1
    have h2 := h.size
    omega
  has := fun a ha => by
    have hkk := good k (List.mem_of_getElem? hk)
    by_cases e : a = k
    · subst e
      rw [has_del_same]
      refine ⟨fun e => absurd e Bool.false_ne_true, ?_⟩
      rintro ⟨i, hi, hor⟩
      have := nodup_at hd hi hk
      omega
    · rw [has_del_other (fun e' => e (inj _ _ ha hkk e')), h.has a ha]
      constructor
      · rintro ⟨i, hi, hor⟩
        refine ⟨i, hi, ?_⟩
        by_cases e2 : i = n + j
        · subst e2; rw [hk] at hi; cases hi; exact absurd rfl e
        · omega
      · rintro ⟨i, hi, hor⟩; exact ⟨i, hi, by omega⟩
  at' := fun i a hi hor z => by
    have hkk := good k (List.mem_of_getElem? hk)
    have hne : a ≠ k := fun e => by subst e; have := nodup_at hd hi hk; omega
    rw [atKey_del_other (fun e' => hne (inj _ _ (good a (List.mem_of_getElem? hi)) hkk e')), h.at' i a hi (by omega)]

theorem Cutting.done {n j : Nat} (h : Cutting lit ok D ks n j) (hj : n + j = ks.length) (hd : ks.Nodup) (good : ∀ k ∈ ks, ok k) : Numbers lit ok D (ks.take n) where
  tidy := h.tidy
  size := by have := h.size; simp; omega
  nodup := hd.sublist (List.take_sublist _ _)
  good := fun k hk => good k (List.mem_of_mem_take hk)
  has := fun k hk => by
    rw [h.has k hk]
    constructor
    · rintro ⟨i, hi, hor⟩
      have := (List.getElem?_eq_some_iff.1 hi).1
      exact ⟨i, by rw [List.getElem?_take]; rw [if_pos (by omega)]; exact hi⟩
    · rintro ⟨i, hi⟩
      rw [List.getElem?_take] at hi
      split at hi
      · exact ⟨i, hi, Or.inl (by assumption)⟩
      · cases hi
  at' := fun i k hi z => by
    rw [List.getElem?_take] at hi
    split at hi
    · exact h.at' i k hi (Or.inl (by assumption)) z
    · cases hi
end

section
open Go.WideElems (Fit rd rg pl rd_val elemAt)
variable {H : Type} {P : Program} {k : TypeId} {R : Value → Option (DataW H × List MemPlace)} {w : World} {b n : Nat} {D : DataW H}
/-- The bound on a map's entries is as many as it has. -/
theorem owns_size (h : w.ownsMap P k R b n D) : w.ownsMap P k R b (Maps.size D) D := by
  obtain ⟨es, clock, hb, F, _, hD⟩ := h
  refine ⟨es, clock, hb, F, ?_, hD⟩
  rw [hD]
  simp [Maps.size, length_sorted]
theorem owns_of_block {w' : World} (h : w.ownsMap P k R b n D) (e : w'.heap[b]? = w.heap[b]?) : w'.ownsMap P k R b n D := by
  obtain ⟨es, clock, hb, F, hs, hD⟩ := h
  exact ⟨es, clock, e.trans hb, F, hs, hD⟩
end
end Go.Proofs.Ytjpdigdocdppbaa
