/- A row of terms that is laid anew. Nothing here speaks of one program but for the types. -/
import Derived.Test.YtnnadmabgaopdaaTmI
import Derived.Test.YtnnadmabgaopdaaTnA
namespace Go.Proofs.Ytnnadmabgaopdaa
open Go.RowKit
set_option linter.unusedVariables false

theorem laidT_tms {w : World} {cs : Array Value} {ty : TypeId} (ps : List TmP) (hcs : cs.toList = ps.flatMap pCells) (hp : ∀ p ∈ ps, TmV (w.alloc (.cells cs ty)) p.1 (pVal p)) (hl : ps.length * 56 ≤ BIG) {n : Nat} (hn : ps.length = n) {ts : List Tm} (ht : ps.map (·.1) = ts) :
    Tms (w.alloc (.cells cs ty)) (.slice (some ⟨w.heap.size, 0, none⟩) n n) ts := by
  subst hn ht
  refine ⟨some ⟨w.heap.size, 0, none⟩, ps.length, by rw [List.length_map], by rw [List.length_map]; exact Nat.le_refl _, by unfold BIG at hl; unfold maxLen; omega, by rw [List.length_map]; exact hl, Or.inr ⟨_, _, rfl, by simp, TmRow.mk fun i x hx => ?_⟩⟩
  rw [List.getElem?_map] at hx
  obtain ⟨p, hpi, rfl⟩ := Option.map_eq_some_iff.1 hx
  have hv := hp p (List.mem_of_getElem? hpi)
  have key : ∀ j u, j < 4 → (pCells p)[j]? = some u → (w.alloc (.cells cs ty)).cell? ⟨w.heap.size, 0 + i * 4 + j, none⟩ = some u := fun j u hj hu => by
    have := cell_new w cs ty (i * 4 + j) u (by rw [hcs, flat_get pCells_len ps i p hpi j hj]; exact hu)
    rw [add_plain] at this
    rw [Nat.add_assoc]; exact this
  exact ⟨_, _, _, _, key 0 _ (by omega) rfl, key 1 _ (by omega) rfl, key 2 _ (by omega) rfl, key 3 _ (by omega) rfl, hv⟩
/-- Two terms beside each other. -/
theorem laid_two {w : World} {k1 n1 k2 n2 : Int} {s1 s2 : ByteArray} {u1 u2 : Value} {x y : Tm} {ty : TypeId} (h1 : TmV w x (.agg #[.int .i64 k1, .int .i64 n1, .string s1, u1])) (h2 : TmV w y (.agg #[.int .i64 k2, .int .i64 n2, .string s2, u2])) :
    Tms (w.alloc (.cells #[.int .i64 k1, .int .i64 n1, .string s1, u1, .int .i64 k2, .int .i64 n2, .string s2, u2] ty)) (.slice (some ⟨w.heap.size, 0, none⟩) 2 2) [x, y] := by
  obtain ⟨v1, e1⟩ := h1.pair
  obtain ⟨v2, e2⟩ := h2.pair
  unfold pVal at e1 e2
  simp only [Value.agg.injEq, Array.mk.injEq, List.cons.injEq, Value.int.injEq, Value.string.injEq, and_true, true_and] at e1 e2
  obtain ⟨rfl, rfl, rfl, rfl⟩ := e1
  obtain ⟨rfl, rfl, rfl, rfl⟩ := e2
  have hb := bel1' w (.cells #[.int .i64 x.k, .int .i64 x.n, .string x.s, u1, .int .i64 y.k, .int .i64 y.n, .string y.s, u2] ty)
  refine laidT_tms [(x, u1), (y, u2)] rfl (fun p hp => ?_) (by unfold BIG; simp) rfl rfl
  rcases List.mem_cons.1 hp with rfl | hp
  · exact TmV.ext hb _ _ h1
  · rcases List.mem_cons.1 hp with rfl | hp
    · exact TmV.ext hb _ _ h2
    · cases hp
end Go.Proofs.Ytnnadmabgaopdaa
