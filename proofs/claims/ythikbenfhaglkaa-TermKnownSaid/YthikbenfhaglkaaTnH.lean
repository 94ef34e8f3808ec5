/- Package term: Comp, Items, of worlds of which some blocks are hidden. -/
import Derived.Test.YthikbenfhaglkaaTnG
namespace Go.Proofs.Ythikbenfhaglkaa
open Go.RowKit
set_option linter.unusedVariables false

theorem pairs_hide {D : Nat → Bool} {w : World} {a : Option Addr} {m c : Nat} {l : List Tm} (h : Tms (hide D w) (.slice a m c) l) : ∃ (ps : List TmP), ps.length = m ∧ m = l.length ∧ ps.map (·.1) = l ∧ (∀ p ∈ ps, TmV (hide D w) p.1 (pVal p)) ∧ m * 56 ≤ BIG ∧ (m = 0 ∨ ∃ ad, a = some ad ∧ ∀ j u, (ps.flatMap pCells)[j]? = some u → w.cell? (ad.add j) = some u) := by
  obtain ⟨ps, ao, c', e, hpl, hpm, hpa, hbig, hsrc⟩ := h.pairs
  cases e
  refine ⟨ps, hpl, rfl, hpm, hpa, hbig, ?_⟩
  rcases hsrc with h0 | ⟨ad, rfl, hc⟩
  · exact Or.inl h0
  · exact Or.inr ⟨ad, rfl, fun j u hu => (Stays.unhide D w).2 _ _ (hc j u hu)⟩
theorem comp_hide {D : Nat → Bool} {w : World} {v : Value} {l : List Tm} (s : ByteArray) (hs : s.size ≤ BIG) (hD : Old D w) (h : Tms (hide D w) v l) :
    Calls Try.prog 8 #[.string s, v] w fun e w' => ∃ a c, e = .returned (.agg #[.int .i64 2, .int .i64 0, .string s, .slice a l.length c]) ∧ TmV (hide D w') (.mk 2 0 s l) (.agg #[.int .i64 2, .int .i64 0, .string s, .slice a l.length c]) ∧ Below w.heap.size w w' := by
  obtain ⟨ao, c, rfl, _⟩ := h.len
  obtain ⟨ps, hpl, _, hpm, hpa, hbig, hsrc⟩ := pairs_hide h
  refine (comp_ps (c := c) ps s hpl hbig (pCells_one ps hpa) hsrc).mono ?_
  rintro e w' ⟨a, c', rfl, hR, hB⟩
  refine ⟨a, c', rfl, ?_, hB⟩
  have hT := (hR.hide (D := D) (fun k hk _ => hD k (by omega))).terms (fun p hp => TmV.later hB (hpa p hp)) (by rw [hpl]; exact hbig)
  rw [hpm] at hT
  exact tmV_iff.2 ⟨_, rfl, hs, i64_2, i64_0, hT⟩
end Go.Proofs.Ythikbenfhaglkaa
