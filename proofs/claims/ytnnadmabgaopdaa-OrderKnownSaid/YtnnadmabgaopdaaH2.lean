/- A region that draws its order: a call that leaves the world as it was may be taken first, like a load. Nothing here speaks of one program. -/
import Derived.Deep.RegionHeld3
import Derived.Deep.Quiet
import Derived.Test.YtnnadmabgaopdaaH
namespace Go
section
variable {P : Program} {md : Region.Mode} {ops : Array Oper} {Q : Exit → Act → World → Prop} {S : World → Prop}
/-- In every world that meets S the operation leaves v, and that very world. -/
def CalmAt (P : Program) (S : World → Prop) (o : Oper) (v : Value) (a : Act) : Prop := ∀ w, S w → o.quietAt P a (fun x => x = w) w v
/-- What an operation leaves of the state. -/
theorem wpOp_form {j : Nat} {o : Oper} (hj : ops[j]? = some o) {K : Act → World → Prop} {a : Act} {w : World} (h : wpOp P ops Q j K a w) :
    wpOp P ops Q j (fun a' w' => (∃ u ds, a' = ({ a with defers := ds } : Act).put o.dst u) ∧ K a' w') a w := by
  unfold wpOp at h ⊢
  simp only [hj] at h ⊢
  by_cases hw : Region.wanted o (yielded ops a.tmps) = true
  · rw [if_pos hw] at h ⊢
    refine h.imp (fun h => ?_) id
    unfold Oper.wp at h ⊢
    revert h
    cases (execOp a.eval o).run P w with
    | halt x w' => cases x <;> exact fun h => h
    | ok n w' =>
      cases n <;> simp only [Oper.upon]
      case value u => exact fun h => ⟨⟨u, a.defers, rfl⟩, h⟩
      case skip => exact fun h => ⟨⟨undef, a.defers, rfl⟩, h⟩
      case defer d => exact fun h => ⟨⟨undef, d :: a.defers, rfl⟩, h⟩
      case row r args => exact fun h => Rows.mono h fun u w2 he => ⟨⟨u, a.defers, rfl⟩, he⟩
      case enter f args =>
        refine fun h => Calls.mono h fun e w2 he => ?_
        cases e with
        | returned u => exact ⟨⟨u, a.defers, rfl⟩, he⟩
        | panicked c => exact he
        | outgrown => exact he
      all_goals exact fun h => h
  · rw [if_neg hw] at h ⊢
    exact ⟨⟨undef, a.defers, rfl⟩, h⟩
theorem calm_op {i : Nat} {o : Oper} {v : Value} {a : Act} (hi : ops[i]? = some o) (hw : Region.wanted o (yielded ops a.tmps) = true) (hc : CalmAt P S o v a) {K : Act → World → Prop} {w : World} (hS : S w) (h : K (a.put o.dst v) w) :
    wpOp P ops Q i K a w := by
  unfold wpOp
  simp only [hi]
  rw [if_pos hw]
  refine Or.inl (Oper.wp_of_quiet (C := fun x => x = w) (K := fun a' => a' = a.put o.dst v) rfl (fun a' w' e e' => by rw [e, e']; exact h) ⟨v, fun w' e => ?_, rfl⟩)
  rw [e]
  exact hc w hS
theorem calm_first {i : Nat} {o : Oper} {v : Value} (hi : ops[i]? = some o) (hsel : ∀ (j : Nat) (o : Oper) cs b, ops[j]? = some o → o.op ≠ .select cs b)
    (hQ : ∀ c a w, Q (.panic c) (a.put o.dst v) w → Q (.panic c) a w) : ∀ (fuel : Nat) (listed : Array Bool) (a : Act) (w : World),
      (∀ j oj, ops[j]? = some oj → j ≠ i → listed.getD j true = false → (∀ e ∈ oj.after, Region.binds md e = true → e.on ≠ i) → o.apart ops oj = true) →
      i ∈ Region.ready md ops listed → Region.wanted o (yielded ops a.tmps) = true → CalmAt P S o v a → S w →
      wpAnyH P md ops Q S fuel (listed.setIfInBounds i true) (a.put o.dst v) w → wpAnyH P md ops Q S (fuel + 1) listed a w
  | fuel, listed, a, w, hfree, hr, hw, hc, hS, H => by
    refine ⟨fun e => (by rw [e] at hr; cases hr), fun j hj => ?_⟩
    by_cases hji : j = i
    · rw [hji]; exact calm_op hi hw hc hS ⟨hS, H⟩
    · have hrj := ready_mono hj hji
      cases fuel with
      | zero => rw [H.1] at hrj; cases hrj
      | succ fuel =>
        obtain ⟨hun, oj, hoj, hall⟩ := mem_ready.1 hj
        have hwait : ∀ e ∈ oj.after, Region.binds md e = true → e.on ≠ i := fun e he hb heq => by
          have g1 := hall e he hb
          have g0 := (mem_ready.1 hr).1
          rw [heq] at g1
          by_cases hlt : i < listed.size
          · rw [Array.getD_eq_getD_getElem?] at g0 g1
            rw [Array.getElem?_eq_getElem hlt] at g0 g1
            simp only [Option.getD_some] at g0 g1
            rw [g0] at g1
            cases g1
          · rw [Array.getD_eq_getD_getElem?] at g0 g1
            rw [Array.getElem?_eq_none (by omega)] at g0 g1
            simp at g0 g1
        have hap := hfree j oj hoj hji hun hwait
        obtain ⟨a1, a2, a3⟩ := Oper.apart_spec hap
        have two := wpOp_putIf (S := fun _ => False) hoj hap (fun cs b => hsel i o cs b hi) (fun cs b => hsel j oj cs b hoj) hQ (a := a) (w := w) (Or.inl ⟨hw, fun _ h => h.elim⟩) (H.2 j hrj)
        refine wpOp_mono (fun a' w' h3 => ?_) (wpOp_form hoj two)
        obtain ⟨⟨u, ds, rfl⟩, _, h4, h5⟩ := h3
        refine ⟨h4, calm_first hi hsel hQ fuel (listed.setIfInBounds j true) _ w' (fun k ok hk hki hkn hkw => hfree k ok hk hki ?_ hkw) (ready_mono hr (Ne.symm hji)) ?_ ?_ h4 ?_⟩
        · by_cases hjk : j = k
          · rw [← hjk]; exact hun
          · rw [getD_set_ne true hjk] at hkn; exact hkn
        · rw [wanted_put o _ oj.dst u a3]; exact hw
        · intro w2 hw2
          have := hc w2 hw2
          unfold Oper.quietAt at this ⊢
          rw [execOp_put o (fun cs b => hsel i o cs b hi) _ oj.dst u a3]
          exact this
        · rw [Array.setIfInBounds_comm _ _ hji]; exact h5
/-- A call that leaves the world as it was is taken first. -/
theorem held_calm {i : Nat} {o : Oper} {fuel : Nat} {listed : Array Bool} {a : Act} {w : World} (hS : S w)
    (h : ∃ v, CalmAt P S o v a ∧ wpAnyH P md ops Q S fuel (listed.setIfInBounds i true) (a.put o.dst v) w)
    (hi : ops[i]? = some o := by simp only [List.getElem?_toArray, List.getElem?_cons_zero, List.getElem?_cons_succ]; rfl)
    (hs : Region.noSelect ops = true := by kernel_rfl) (hf : Region.free md ops listed i = true := by kernel_rfl) (hr : (Region.ready md ops listed).contains i = true := by kernel_rfl) (hw : Region.wanted o (yielded ops a.tmps) = true := by rfl)
    (hQ : ∀ v c a w, Q (.panic c) (a.put o.dst v) w → Q (.panic c) a w := by exact fun _ _ _ _ h => h) : wpAnyH P md ops Q S (fuel + 1) listed a w := by
  obtain ⟨v, h1, h2⟩ := h
  exact calm_first hi (Region.noSelect_spec hs) (hQ v) fuel listed a w (Region.free_spec hi hf) (by simpa using hr) hw h1 hS h2
end
end Go
