/- A slice of whatever elements that came in, opened element by element. Nothing here speaks of one program. -/
import Derived.Test.YtnnadmabgaopdaaOpen
import Derived.Deep.Slices
namespace Go.Proofs.Ytnnadmabgaopdaa
open Go.RowKit Go.ChangeShapes Go.WideShapes Go.ChangeAt Go.Deep

/-- The value reads as these elements, of S cells each. -/
def Elems {α : Type} (S : Nat) (cells : α → List Value) (w : World) (v : Value) (xs : List α) : Prop :=
  ∃ (a : Option Addr) (cap : Nat), v = .slice a xs.length cap ∧ xs.length ≤ cap ∧ cap ≤ maxLen ∧
    (xs = [] ∨ ∃ b off, a = some ⟨b, off, none⟩ ∧ b < w.heap.size ∧ ∀ (i : Nat) (x : α), xs[i]? = some x → ∀ (j : Nat) (u : Value), (cells x)[j]? = some u → w.cell? ⟨b, off + (i * S + j), none⟩ = some u)
theorem Elems.ext {α : Type} {S : Nat} {cells : α → List Value} {w w' : World} {v : Value} {xs : List α} (h : Elems S cells w v xs) (hb : Below w.heap.size w w') : Elems S cells w' v xs := by
  obtain ⟨a, cap, h1, h2, h3, h6⟩ := h
  refine ⟨a, cap, h1, h2, h3, ?_⟩
  rcases h6 with h6 | ⟨b, off, e1, e2, e3⟩
  · exact Or.inl h6
  · exact Or.inr ⟨b, off, e1, Nat.lt_of_lt_of_le e2 hb.size, fun i x hx j u hu => cell_later hb (e3 i x hx j u hu)⟩

theorem list_choose {α : Type} {Q : Nat → α → Prop} : ∀ n : Nat, (∀ i, i < n → ∃ x, Q i x) → ∃ xs : List α, xs.length = n ∧ ∀ i x, xs[i]? = some x → Q i x
  | 0, _ => ⟨[], rfl, by simp⟩
  | n + 1, h => by
    obtain ⟨xs, hl, hx⟩ := list_choose n (fun i hi => h i (by omega))
    obtain ⟨y, hy⟩ := h n (by omega)
    refine ⟨xs ++ [y], by simp [hl], fun i x hi => ?_⟩
    by_cases hlt : i < xs.length
    · rw [List.getElem?_append_left hlt] at hi; exact hx i x hi
    · rw [List.getElem?_append_right (by omega)] at hi
      have hm := (List.getElem?_eq_some_iff.1 hi).1
      simp at hm
      have e : i = n := by omega
      subst e
      rw [hl, Nat.sub_self] at hi
      simp at hi; subst hi; exact hy

section
variable {H : Type} {enc : TypeId × Value → H} {P : Program} {W : World}
theorem elems_of_trod {α : Type} {t e : TypeId} {v : Value} {d : DataW H} {ps : List MemPlace} (ht : P.underlying t = some (.slice e)) {S B : Nat} (hc : P.cellsOf e = S) (hS : 0 < S) (hb : P.bytesOf e = B) (cells : α → List Value) (ok : α → Prop)
    (hv : ∃ a n c, v = .slice a n c) (h : DataW.Trod enc P W 0 (fun _ => true) true t v d ps) (hw : ∀ n ∈ d.weights P t, n ≤ 140737488351232)
    (each : ∀ (n : Nat) (cs : List Value) (D : DataW H) (pl : List MemPlace), DataW.trod enc P W 0 (fun _ => true) true n e cs = some (D, pl) → (∀ m ∈ D.weights P e, m ≤ 140737488351232) → ∃ x : α, cs = cells x ∧ ok x) :
    ∃ xs : List α, Elems S cells W v xs ∧ (∀ x ∈ xs, ok x) ∧ xs.length * B ≤ 140737488351232 := by
  obtain ⟨a, n, c, rfl⟩ := hv
  obtain ⟨fuel, hf⟩ := h
  rcases open_slice ht hf with ⟨hcs, _⟩ | ⟨x, l, cc, m, n', D, Pl, hcs, _, hl, hm, hz, hd, hi⟩
  · simp [Value.cells] at hcs
    obtain ⟨rfl, rfl, rfl⟩ := hcs
    exact ⟨[], ⟨none, 0, rfl, Nat.le_refl _, Nat.zero_le _, Or.inl rfl⟩, by simp, by simp⟩
  · simp [Value.cells] at hcs
    obtain ⟨rfl, rfl, rfl⟩ := hcs
    simp at hz
    subst hz
    simp only [Prod.mk.injEq] at hd
    obtain ⟨rfl, rfl⟩ := hd
    have hbig := hw ((((List.range n).map D).length + ((List.range (m - n)).map fun j => D (n + j)).length) * P.bytesOf e) (by simp [DataW.weights, ht])
    rw [hb] at hbig
    simp at hbig
    obtain ⟨xs, hxl, hxs⟩ := list_choose (Q := fun i (y : α) => ok y ∧ ∃ cs', W.cells? 0 (x.add (i * S)) S = some cs' ∧ cs' = cells y) n (fun i hin => by
      obtain ⟨cs', h1, h2⟩ := hi i (by omega)
      rw [hc] at h1
      obtain ⟨y, hy1, hy2⟩ := each n' cs' (D i) (Pl i) h2 (fun k hk => hw k (by
        simp only [DataW.weights, ht, List.mem_cons, List.mem_append]
        exact Or.inr (Or.inl (weights_all_mem (List.mem_map_of_mem (f := D) (List.mem_range.2 hin)) k hk))))
      exact ⟨y, hy2, cs', h1, hy1⟩)
    have hn : n * B ≤ 140737488351232 := Nat.le_trans (Nat.mul_le_mul_right _ (by omega)) hbig
    refine ⟨xs, ⟨some x, m, by rw [hxl], by omega, hm, ?_⟩, fun y hy => ?_, by rw [hxl]; exact hn⟩
    · by_cases h0 : n = 0
      · left; exact List.length_eq_zero_iff.1 (by omega)
      right
      obtain ⟨y0, hy0⟩ : ∃ y0, xs[0]? = some y0 := ⟨_, List.getElem?_eq_getElem (by omega)⟩
      obtain ⟨_, cs0, hq, _⟩ := hxs 0 y0 hy0
      obtain ⟨_, hl0, hat0⟩ := World.cells?_some hq
      have hx0 := hat0 0 hS
      have hs0 : x.spot = none := by
        rw [List.getElem?_eq_getElem (by omega)] at hx0
        have e1 := spot_of_cell hx0
        rw [Nat.zero_mul] at e1
        have : x.add 0 = x := by
          rcases x with ⟨xb, xo, xs'⟩; unfold Addr.add; split <;> simp_all
        rw [this] at e1; exact e1
      rcases x with ⟨xb, xo, xs'⟩
      cases (show xs' = none from hs0)
      refine ⟨xb, xo, rfl, ?_, fun i y hy j u hu => ?_⟩
      · rw [List.getElem?_eq_getElem (by omega), add_plain, add_plain] at hx0; exact World.block_lt_of_cell? _ _ hx0
      · obtain ⟨_, cs', hq', rfl⟩ := hxs i y hy
        obtain ⟨_, hl', hat⟩ := World.cells?_some hq'
        have hj := (List.getElem?_eq_some_iff.1 hu).1
        have := hat j (by omega)
        rw [add_plain, add_plain, hu, Nat.add_assoc] at this
        exact this
    · obtain ⟨i, hi', rfl⟩ := List.getElem_of_mem hy
      exact (hxs i _ (List.getElem?_eq_getElem hi')).1
end
end Go.Proofs.Ytnnadmabgaopdaa
