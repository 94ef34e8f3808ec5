/- A row of the call's own, of elements of S cells each, reads as its elements; what is appended to it. Nothing here speaks of one program. -/
import Derived.Test.YtnnadmabgaopdaaOpenE
import Derived.Test.YtnnadmabgaopdaaAppK
namespace Go.Proofs.Ytnnadmabgaopdaa
open Go.RowKit

section
variable {α : Type} {S : Nat} {cells : α → List Value}
theorem flat_len (hc : ∀ x, (cells x).length = S) (L : List α) : (L.flatMap cells).length = L.length * S := by
  induction L with
  | nil => simp
  | cons a r ih => rw [List.flatMap_cons, List.length_append, ih, hc, List.length_cons, Nat.add_mul, Nat.one_mul, Nat.add_comm]
theorem flat_get (hc : ∀ x, (cells x).length = S) : ∀ (L : List α) (i : Nat) (x : α), L[i]? = some x → ∀ j, j < S → (L.flatMap cells)[i * S + j]? = (cells x)[j]?
  | [], i, x, h, _, _ => by simp at h
  | a :: r, 0, x, h, j, hj => by
    simp at h
    subst h
    rw [List.flatMap_cons, Nat.zero_mul, Nat.zero_add, List.getElem?_append_left (by rw [hc]; exact hj)]
  | a :: r, i + 1, x, h, j, hj => by
    have e : (i + 1) * S + j = S + (i * S + j) := by rw [Nat.add_mul, Nat.one_mul]; omega
    rw [List.flatMap_cons, List.getElem?_append_right (by rw [hc, e]; omega), hc, e, Nat.add_sub_cancel_left]
    exact flat_get hc r i x (by simpa using h) j hj
/-- What the call owns reads as these. -/
theorem Elems.owned (hc : ∀ x, (cells x).length = S) {w : World} {B : Nat} {e : TypeId} {v : Value} {L : List α} (h : w.ownsRow B e S v L.length (L.flatMap cells)) : Elems S cells w v L := by
  rcases h.2 with ⟨rfl, h0⟩ | ⟨g, cap, cur, rfl, _, hg, h1, h2, h3, h4⟩
  · obtain rfl := List.length_eq_zero_iff.1 h0
    exact ⟨none, 0, rfl, Nat.le_refl _, Nat.zero_le _, Or.inl rfl⟩
  · refine ⟨_, cap, rfl, h1, h2, Or.inr ⟨g, 0, rfl, (Array.getElem?_eq_some_iff.1 hg).1, fun i x hx j u hu => ?_⟩⟩
    have hj : j < S := by have := (List.getElem?_eq_some_iff.1 hu).1; rwa [hc] at this
    have hi := (List.getElem?_eq_some_iff.1 hx).1
    have h5 := flat_get hc L i x hx j hj
    have hle : i * S + S ≤ L.length * S := by
      have : (i + 1) * S ≤ L.length * S := Nat.mul_le_mul_right _ hi
      rwa [Nat.add_mul, Nat.one_mul] at this
    rw [← h4, List.getElem?_take, if_pos (by omega), hu] at h5
    rw [Nat.zero_add, World.cell?, hg]
    simpa using h5
theorem Elems.set {w : World} {v : Value} {L : List α} (h : Elems S cells w v L) (a : Addr) (u : Value) (hne : v.ownBlock ≠ some a.block) : Elems S cells (w.setCell a u) v L := by
  obtain ⟨a', cap, rfl, h1, h2, h3⟩ := h
  refine ⟨a', cap, rfl, h1, h2, ?_⟩
  rcases h3 with rfl | ⟨b, off, rfl, hb, hc⟩
  · exact Or.inl rfl
  · refine Or.inr ⟨b, off, rfl, by simpa [World.setCell] using hb, fun i x hx j u' hu => ?_⟩
    rw [World.cell?_of_block (w := w) (Below.heap_setCell w a u b (fun e => hne (by rw [← e]; rfl)))]
    exact hc i x hx j u' hu
end
theorem cell_new (w : World) (cs : Array Value) (ty : TypeId) (j : Nat) (u : Value) (h : cs.toList[j]? = some u) : (w.alloc (.cells cs ty)).cell? ((⟨w.heap.size, 0, none⟩ : Addr).add j) = some u := by
  have h1 : (w.alloc (.cells cs ty)).heap[w.heap.size]? = some (.cells cs ty) := by
    show (w.heap.push _)[w.heap.size]? = _
    simp
  rw [add_plain, Nat.zero_add, World.cell?, h1]
  simpa using h
end Go.Proofs.Ytnnadmabgaopdaa
