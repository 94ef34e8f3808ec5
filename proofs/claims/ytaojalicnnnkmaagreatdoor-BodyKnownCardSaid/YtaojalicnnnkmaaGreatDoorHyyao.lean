import Derived.Test.YtaojalicnnnkmaaGreatDoorHyyan
import Derived.Test.YtaojalicnnnkmaaGreatDoorHyyaa
import Derived.LaidEqlPtr
import Derived.Maps.OwnSet
import Derived.Deep.RegionHeld3
import Derived.Deep.Quiet
import Derived.Test.YtaojalicnnnkmaaGreatDoorHyyag
import Derived.Deep.Cut
import Derived.Deep.CutRange
import Derived.Deep.DeepCutAuto
import Derived.Deep.QuietTactic
import Derived.BigQuiet
set_option linter.unusedVariables false
set_option linter.unusedSimpArgs false
/- Goals in memory. Nothing here speaks of one program. -/
namespace Go.Proofs.YtaojalicnnnkmaaGreatDoor
open Go.RowKit
set_option linter.unusedVariables false

/-- A goal beside its values' last parts: its term's Args, its rows. -/
structure GlP where
  g : Gl
  u : Value
  v : Value
def glCells (p : GlP) : List Value := [.int .i64 p.g.kind, .int .i64 p.g.t.k, .int .i64 p.g.t.n, .string p.g.t.s, p.u, p.v]
theorem glCells_len (p : GlP) : (glCells p).length = 6 := rfl
mutual
/-- A goal reads so. -/
def GlC (w : World) : Gl → Value → Value → Prop
  | .mk k t ls, u, v => I64 k ∧ TmV w t (pVal (t, u)) ∧ ∃ (a : Option Addr) (c : Nat), v = .slice a ls.length c ∧ ls.length ≤ c ∧ c ≤ maxLen ∧ ls.length * 24 ≤ BIG ∧ (ls = [] ∨ ∃ b off, a = some ⟨b, off, none⟩ ∧ b < w.heap.size ∧ RsRow w ls b off)
/-- These goals lie there. -/
def GlRow (w : World) : List Gl → Nat → Nat → Prop
  | [], _, _ => True
  | g :: r, b, off => (∃ u v, (∀ j x, (glCells ⟨g, u, v⟩)[j]? = some x → w.cell? ⟨b, off + j, none⟩ = some x) ∧ GlC w g u v) ∧ GlRow w r b (off + 6)
/-- These rows of goals lie there. -/
def RsRow (w : World) : List (List Gl) → Nat → Nat → Prop
  | [], _, _ => True
  | l :: r, b, off => (∃ v, w.cell? ⟨b, off, none⟩ = some v ∧ ∃ (a : Option Addr) (c : Nat), v = .slice a l.length c ∧ l.length ≤ c ∧ c ≤ maxLen ∧ l.length * 88 ≤ BIG ∧ (l = [] ∨ ∃ b' off', a = some ⟨b', off', none⟩ ∧ b' < w.heap.size ∧ GlRow w l b' off')) ∧ RsRow w r b (off + 1)
end
/-- The value reads as these goals. -/
def GoalsV (w : World) (l : List Gl) (v : Value) : Prop := ∃ (a : Option Addr) (c : Nat), v = .slice a l.length c ∧ l.length ≤ c ∧ c ≤ maxLen ∧ l.length * 88 ≤ BIG ∧ (l = [] ∨ ∃ b off, a = some ⟨b, off, none⟩ ∧ b < w.heap.size ∧ GlRow w l b off)
/-- The value reads as these rows. -/
def RowsV (w : World) (ls : List (List Gl)) (v : Value) : Prop := ∃ (a : Option Addr) (c : Nat), v = .slice a ls.length c ∧ ls.length ≤ c ∧ c ≤ maxLen ∧ ls.length * 24 ≤ BIG ∧ (ls = [] ∨ ∃ b off, a = some ⟨b, off, none⟩ ∧ b < w.heap.size ∧ RsRow w ls b off)
theorem glC_iff {w : World} {g : Gl} {u v : Value} : GlC w g u v ↔ I64 g.kind ∧ TmV w g.t (pVal (g.t, u)) ∧ RowsV w g.l v := by
  obtain ⟨k, t, ls⟩ := g
  rw [GlC]
  exact Iff.rfl
theorem rsRow_cons {w : World} {l : List Gl} {r : List (List Gl)} {b off : Nat} : RsRow w (l :: r) b off ↔ (∃ v, w.cell? ⟨b, off, none⟩ = some v ∧ GoalsV w l v) ∧ RsRow w r b (off + 1) := by
  rw [RsRow]
  exact Iff.rfl
theorem GlRow.get {w : World} : ∀ {l : List Gl} {b off : Nat}, GlRow w l b off → ∀ (i : Nat) (g : Gl), l[i]? = some g → ∃ u v, (∀ j x, (glCells ⟨g, u, v⟩)[j]? = some x → w.cell? ⟨b, off + i * 6 + j, none⟩ = some x) ∧ GlC w g u v
  | [], b, off, _, i, g, hg => by simp at hg
  | y :: r, b, off, h, 0, g, hg => by
    simp at hg
    subst hg
    rw [GlRow] at h
    rw [Nat.zero_mul, Nat.add_zero]
    exact h.1
  | y :: r, b, off, h, i + 1, g, hg => by
    rw [GlRow] at h
    have := GlRow.get h.2 i g (by simpa using hg)
    rw [show off + (i + 1) * 6 = off + 6 + i * 6 by omega]
    exact this
theorem GlRow.mk {w : World} : ∀ {l : List Gl} {b off : Nat}, (∀ (i : Nat) (g : Gl), l[i]? = some g → ∃ u v, (∀ j x, (glCells ⟨g, u, v⟩)[j]? = some x → w.cell? ⟨b, off + i * 6 + j, none⟩ = some x) ∧ GlC w g u v) → GlRow w l b off
  | [], b, off, _ => by rw [GlRow]; trivial
  | y :: r, b, off, h => by
    rw [GlRow]
    refine ⟨?_, GlRow.mk fun i g hg => ?_⟩
    · have := h 0 y rfl
      rw [Nat.zero_mul, Nat.add_zero] at this
      exact this
    · have := h (i + 1) g (by simpa using hg)
      rw [show off + (i + 1) * 6 = off + 6 + i * 6 by omega] at this
      exact this
theorem RsRow.get {w : World} : ∀ {l : List (List Gl)} {b off : Nat}, RsRow w l b off → ∀ (i : Nat) (g : List Gl), l[i]? = some g → ∃ v, w.cell? ⟨b, off + i, none⟩ = some v ∧ GoalsV w g v
  | [], b, off, _, i, g, hg => by simp at hg
  | y :: r, b, off, h, 0, g, hg => by
    simp at hg
    subst hg
    exact (rsRow_cons.1 h).1
  | y :: r, b, off, h, i + 1, g, hg => by
    have := RsRow.get (rsRow_cons.1 h).2 i g (by simpa using hg)
    rw [show off + (i + 1) = off + 1 + i by omega]
    exact this
theorem RsRow.mk {w : World} : ∀ {l : List (List Gl)} {b off : Nat}, (∀ (i : Nat) (g : List Gl), l[i]? = some g → ∃ v, w.cell? ⟨b, off + i, none⟩ = some v ∧ GoalsV w g v) → RsRow w l b off
  | [], b, off, _ => by rw [RsRow]; trivial
  | y :: r, b, off, h => by
    refine rsRow_cons.2 ⟨h 0 y rfl, RsRow.mk fun i g hg => ?_⟩
    have := h (i + 1) g (by simpa using hg)
    rw [show off + (i + 1) = off + 1 + i by omega] at this
    exact this
mutual
theorem GlC.stay {w w' : World} (hb : Stays w w') : ∀ (g : Gl) (u v : Value), GlC w g u v → GlC w' g u v
  | .mk k t ls, u, v, h => by
    rw [GlC] at h ⊢
    obtain ⟨h1, h2, a, c, e1, e2, e3, e4, e5⟩ := h
    refine ⟨h1, TmV.stay hb _ _ h2, a, c, e1, e2, e3, e4, ?_⟩
    rcases e5 with e5 | ⟨b, off, f1, f2, f3⟩
    · exact Or.inl e5
    · exact Or.inr ⟨b, off, f1, Nat.lt_of_lt_of_le f2 hb.1, RsRow.stay hb ls b off f3⟩
theorem GlRow.stay {w w' : World} (hb : Stays w w') : ∀ (l : List Gl) (b off : Nat), GlRow w l b off → GlRow w' l b off
  | [], b, off, _ => by rw [GlRow]; trivial
  | g :: r, b, off, h => by
    rw [GlRow] at h ⊢
    obtain ⟨⟨u, v, h1, h2⟩, h3⟩ := h
    exact ⟨⟨u, v, fun j x hx => hb.2 _ _ (h1 j x hx), GlC.stay hb g u v h2⟩, GlRow.stay hb r b (off + 6) h3⟩
theorem RsRow.stay {w w' : World} (hb : Stays w w') : ∀ (l : List (List Gl)) (b off : Nat), RsRow w l b off → RsRow w' l b off
  | [], b, off, _ => by rw [RsRow]; trivial
  | l :: r, b, off, h => by
    rw [RsRow] at h ⊢
    obtain ⟨⟨v, h1, a, c, e1, e2, e3, e4, e5⟩, h3⟩ := h
    refine ⟨⟨v, hb.2 _ _ h1, a, c, e1, e2, e3, e4, ?_⟩, RsRow.stay hb r b (off + 1) h3⟩
    rcases e5 with e5 | ⟨b', off', f1, f2, f3⟩
    · exact Or.inl e5
    · exact Or.inr ⟨b', off', f1, Nat.lt_of_lt_of_le f2 hb.1, GlRow.stay hb l b' off' f3⟩
end
theorem GoalsV.stay {w w' : World} {l : List Gl} {v : Value} (h : GoalsV w l v) (hb : Stays w w') : GoalsV w' l v := by
  obtain ⟨a, c, e1, e2, e3, e4, e5⟩ := h
  refine ⟨a, c, e1, e2, e3, e4, ?_⟩
  rcases e5 with e5 | ⟨b, off, f1, f2, f3⟩
  · exact Or.inl e5
  · exact Or.inr ⟨b, off, f1, Nat.lt_of_lt_of_le f2 hb.1, GlRow.stay hb l b off f3⟩
theorem RowsV.stay {w w' : World} {l : List (List Gl)} {v : Value} (h : RowsV w l v) (hb : Stays w w') : RowsV w' l v := by
  obtain ⟨a, c, e1, e2, e3, e4, e5⟩ := h
  refine ⟨a, c, e1, e2, e3, e4, ?_⟩
  rcases e5 with e5 | ⟨b, off, f1, f2, f3⟩
  · exact Or.inl e5
  · exact Or.inr ⟨b, off, f1, Nat.lt_of_lt_of_le f2 hb.1, RsRow.stay hb l b off f3⟩
theorem GoalsV.nil (w : World) : GoalsV w [] (.slice none 0 0) := ⟨none, 0, rfl, Nat.le_refl _, Nat.zero_le _, by simp, Or.inl rfl⟩
theorem RowsV.nil (w : World) : RowsV w [] (.slice none 0 0) := ⟨none, 0, rfl, Nat.le_refl _, Nat.zero_le _, by simp, Or.inl rfl⟩
theorem GoalsV.len {w : World} {l : List Gl} {v : Value} (h : GoalsV w l v) : ∃ a c, v = .slice a l.length c ∧ l.length ≤ c ∧ c ≤ maxLen ∧ l.length * 88 ≤ BIG := by
  obtain ⟨a, c, e1, e2, e3, e4, _⟩ := h
  exact ⟨a, c, e1, e2, e3, e4⟩
theorem RowsV.len {w : World} {l : List (List Gl)} {v : Value} (h : RowsV w l v) : ∃ a c, v = .slice a l.length c ∧ l.length ≤ c ∧ c ≤ maxLen ∧ l.length * 24 ≤ BIG := by
  obtain ⟨a, c, e1, e2, e3, e4, _⟩ := h
  exact ⟨a, c, e1, e2, e3, e4⟩
/-- The i-th of them: its six cells. -/
theorem GoalsV.get {w : World} {a : Option Addr} {m c : Nat} {l : List Gl} (h : GoalsV w l (.slice a m c)) {i : Nat} {g : Gl} (hg : l[i]? = some g) :
    ∃ b off kt nt st at_ mt ct ar mr cr, a = some ⟨b, off, none⟩ ∧ b < w.heap.size ∧ w.cell? ⟨b, off + i * 6, none⟩ = some (.int .i64 g.kind) ∧ w.cell? ⟨b, off + i * 6 + 1, none⟩ = some (.int .i64 kt) ∧ w.cell? ⟨b, off + i * 6 + 2, none⟩ = some (.int .i64 nt) ∧ w.cell? ⟨b, off + i * 6 + 3, none⟩ = some (.string st) ∧
      w.cell? ⟨b, off + i * 6 + 4, none⟩ = some (.slice at_ mt ct) ∧ w.cell? ⟨b, off + i * 6 + 5, none⟩ = some (.slice ar mr cr) ∧ I64 g.kind ∧ TmV w g.t (.agg #[.int .i64 kt, .int .i64 nt, .string st, .slice at_ mt ct]) ∧ RowsV w g.l (.slice ar mr cr) := by
  obtain ⟨a', c', e, _, _, _, h4⟩ := h
  cases e
  rcases h4 with rfl | ⟨b, off, rfl, hb, hr⟩
  · simp at hg
  · obtain ⟨u, v, h1, h2⟩ := hr.get i g hg
    obtain ⟨g1, g2, g3⟩ := glC_iff.1 h2
    obtain ⟨kt, nt, st, at_, mt, ct, e, _⟩ := four_of g2
    obtain ⟨ar, cr, rfl, _⟩ := g3.len
    have h2' := e
    simp only [pVal, Value.agg.injEq] at h2'
    have h3 := congrArg Array.toList h2'
    simp only [List.cons.injEq, and_true] at h3
    obtain ⟨q1, q2, q3, q4⟩ := h3
    rw [e] at g2
    refine ⟨b, off, kt, nt, st, at_, mt, ct, ar, _, cr, rfl, hb, h1 0 _ rfl, ?_, ?_, ?_, ?_, h1 5 _ rfl, g1, g2, g3⟩
    · rw [← q1]; exact h1 1 _ rfl
    · rw [← q2]; exact h1 2 _ rfl
    · rw [← q3]; exact h1 3 _ rfl
    · rw [← q4]; exact h1 4 _ rfl
/-- The i-th row. -/
theorem RowsV.get {w : World} {a : Option Addr} {m c : Nat} {l : List (List Gl)} (h : RowsV w l (.slice a m c)) {i : Nat} {g : List Gl} (hg : l[i]? = some g) :
    ∃ b off a' c', a = some ⟨b, off, none⟩ ∧ b < w.heap.size ∧ w.cell? ⟨b, off + i, none⟩ = some (.slice a' g.length c') ∧ GoalsV w g (.slice a' g.length c') := by
  obtain ⟨a', c', e, _, _, _, h4⟩ := h
  cases e
  rcases h4 with rfl | ⟨b, off, rfl, hb, hr⟩
  · simp at hg
  · obtain ⟨v, h1, h2⟩ := hr.get i g hg
    obtain ⟨a2, c2, rfl, _⟩ := h2.len
    exact ⟨b, off, a2, c2, rfl, hb, h1, h2⟩
/-- A row of goals of the call's own. -/
def glOk (w : World) (p : GlP) : Prop := GlC w p.g p.u p.v
def rsCells (p : List Gl × Value) : List Value := [p.2]
def rsOk (w : World) (p : List Gl × Value) : Prop := GoalsV w p.1 p.2
theorem rsCells_len (p : List Gl × Value) : (rsCells p).length = 1 := rfl
/-- What the call owns reads as these goals. -/
theorem own_goals {w : World} {base : Nat} {ty : TypeId} {v : Value} {ps : List GlP} (h : w.ownsRow base ty 6 v ps.length (ps.flatMap glCells)) (hp : ∀ p ∈ ps, glOk w p) (hl : ps.length * 88 ≤ BIG) : GoalsV w (ps.map (·.g)) v := by
  obtain ⟨a, c, rfl, h1, h2, h3⟩ := Elems.owned glCells_len h
  refine ⟨a, c, by rw [List.length_map], by rw [List.length_map]; exact h1, h2, by rw [List.length_map]; exact hl, ?_⟩
  rcases h3 with rfl | ⟨b, off, rfl, hb, hc⟩
  · left; rfl
  · refine Or.inr ⟨b, off, rfl, hb, GlRow.mk fun i x hx => ?_⟩
    rw [List.getElem?_map] at hx
    obtain ⟨p, hpi, rfl⟩ := Option.map_eq_some_iff.1 hx
    exact ⟨p.u, p.v, fun j x hj => by rw [Nat.add_assoc]; exact hc i p hpi j x hj, hp p (List.mem_of_getElem? hpi)⟩
theorem own_rows {w : World} {base : Nat} {ty : TypeId} {v : Value} {ps : List (List Gl × Value)} (h : w.ownsRow base ty 1 v ps.length (ps.flatMap rsCells)) (hp : ∀ p ∈ ps, rsOk w p) (hl : ps.length * 24 ≤ BIG) : RowsV w (ps.map (·.1)) v := by
  obtain ⟨a, c, rfl, h1, h2, h3⟩ := Elems.owned rsCells_len h
  refine ⟨a, c, by rw [List.length_map], by rw [List.length_map]; exact h1, h2, by rw [List.length_map]; exact hl, ?_⟩
  rcases h3 with rfl | ⟨b, off, rfl, hb, hc⟩
  · left; rfl
  · refine Or.inr ⟨b, off, rfl, hb, RsRow.mk fun i x hx => ?_⟩
    rw [List.getElem?_map] at hx
    obtain ⟨p, hpi, rfl⟩ := Option.map_eq_some_iff.1 hx
    exact ⟨p.2, by have := hc i p hpi 0 _ rfl; simpa using this, hp p (List.mem_of_getElem? hpi)⟩
end Go.Proofs.YtaojalicnnnkmaaGreatDoor
/- Maps whose keys are addresses, whose values are numbers: made and asked in one call. Nothing here speaks of one program. -/
namespace Go.Proofs.YtaojalicnnnkmaaGreatDoor
open Go.RowKit
set_option linter.unusedVariables false

/-- A block of cells with no mark. -/
def Plain (w : World) (k : Nat) : Prop := ∃ c t, w.heap[k]? = some (.cells c t (0, 0))
theorem Plain.below {w w' : World} {k : Nat} (h : Plain w k) (hb : Below w.heap.size w w') : Plain w' k := by
  obtain ⟨c, t, e⟩ := h
  exact ⟨c, t, (hb.block k (Array.getElem?_eq_some_iff.1 e).1).trans e⟩
section
variable {P : Program} {k te : TypeId} {j : TypeInfo} {w : World}
theorem grown_put (w : World) (b : Nat) (o : Obj) : w.grownBy { w with heap := w.heap.setIfInBounds b o } (some b) :=
  ⟨rfl, rfl, rfl, by simp, fun i _ hne => by
    show (w.heap.setIfInBounds b o)[i]? = w.heap[i]?
    rw [Array.getElem?_setIfInBounds]
    rw [if_neg (fun e => hne (by rw [e]))]⟩
theorem wpList_look_run {ops : Array Oper} {rest : List Oper} {o : Oper} {a : Act} {Q : Exit → Act → World → Prop} (hg : o.guard = none) (m x : Operand) (t : TypeId) (hop : o.op = Op.lookup t m x true) {M X r : Value} (hm : a.eval m = M) (hx : a.eval x = X)
    (hrun : (Instr.lookup t M X true).run P w = .ok r w) (hK : wpList P ops Q rest (a.put o.dst r) w) : wpList P ops Q (o :: rest) a w := by
  refine wpList_plain hg fun K' hK' => ?_
  unfold Oper.wp
  simp [execOp, hop, hm, hx, hrun, Result.andThen]
  exact hK' _ _ hK
theorem wpList_put_run {w' : World} {ops : Array Oper} {rest : List Oper} {o : Oper} {a : Act} {Q : Exit → Act → World → Prop} (hg : o.guard = none) (m x v : Operand) (t : TypeId) (hop : o.op = Op.mapUpdate t m x v) {M X V : Value} (hm : a.eval m = M) (hx : a.eval x = X) (hv : a.eval v = V)
    (hrun : (Instr.mapUpdate t M X V).run P w = .ok () w') (hK : wpList P ops Q rest (a.put o.dst undef) w') : wpList P ops Q (o :: rest) a w := by
  refine wpList_plain hg fun K' hK' => ?_
  unfold Oper.wp
  simp [execOp, hop, hm, hx, hv, hrun, Result.andThen]
  exact hK' _ _ hK
end
end Go.Proofs.YtaojalicnnnkmaaGreatDoor
/- A row in the making whose elements hang on what bears no mark as well (RowQ's laws once more). Nothing here speaks of one program. -/
namespace Go.Proofs.YtaojalicnnnkmaaGreatDoor
open Go.RowKit
set_option linter.unusedVariables false

/-- Each cell that is there is there still, and what bears no mark bears none. -/
def Keeps (w w' : World) : Prop := Stays w w' ∧ ∀ k, Plain w k → Plain w' k
theorem plain_hide {D : Nat → Bool} {w : World} {k : Nat} : Plain (hide D w) k ↔ D k = false ∧ Plain w k := by
  constructor
  · rintro ⟨c, t, e⟩
    cases hd : D k with
    | false => exact ⟨rfl, c, t, by rw [← hide_get D w k hd]; exact e⟩
    | true =>
      exfalso
      unfold hide at e
      simp only [Array.getElem?_mapIdx] at e
      cases hh : w.heap[k]? with
      | none => rw [hh] at e; cases e
      | some o => rw [hh] at e; simp [hd] at e
  · rintro ⟨h1, c, t, e⟩
    exact ⟨c, t, by rw [hide_get D w k h1]; exact e⟩
theorem Keeps.hide {D D' : Nat → Bool} {w w' : World} (hs : w.heap.size ≤ w'.heap.size) (hk : ∀ k, k < w.heap.size → D k = false → D' k = false ∧ w'.heap[k]? = w.heap[k]?) : Keeps (Go.Proofs.YtaojalicnnnkmaaGreatDoor.hide D w) (Go.Proofs.YtaojalicnnnkmaaGreatDoor.hide D' w') := by
  refine ⟨Stays.hide hs hk, fun k hp => ?_⟩
  obtain ⟨h1, h2⟩ := plain_hide.1 hp
  obtain ⟨c, t, e⟩ := h2
  obtain ⟨g1, g2⟩ := hk k (Array.getElem?_eq_some_iff.1 e).1 h1
  exact plain_hide.2 ⟨g1, c, t, g2.trans e⟩
theorem Keeps.below {D D' : Nat → Bool} {w w' : World} (hb : Below w.heap.size w w') (hD : ∀ k, k < w.heap.size → D k = false → D' k = false) : Keeps (Go.Proofs.YtaojalicnnnkmaaGreatDoor.hide D w) (Go.Proofs.YtaojalicnnnkmaaGreatDoor.hide D' w') :=
  Keeps.hide hb.size fun k hk hd => ⟨hD k hk hd, hb.block k hk⟩
theorem Keeps.less {D D' : Nat → Bool} {w : World} (hD : ∀ k, D k = false → D' k = false) : Keeps (Go.Proofs.YtaojalicnnnkmaaGreatDoor.hide D w) (Go.Proofs.YtaojalicnnnkmaaGreatDoor.hide D' w) :=
  Keeps.hide (Nat.le_refl _) fun k _ hd => ⟨hD k hd, rfl⟩
theorem Keeps.set {D : Nat → Bool} {w : World} (a : Addr) (v : Value) (h : D a.block = true) : Keeps (Go.Proofs.YtaojalicnnnkmaaGreatDoor.hide D w) (Go.Proofs.YtaojalicnnnkmaaGreatDoor.hide D (w.setCell a v)) :=
  Keeps.hide (by simp [World.setCell]) fun k _ hd => ⟨hd, Below.heap_setCell w a v k (fun e => by rw [e, h] at hd; cases hd)⟩
theorem keeps_bel {D : Nat → Bool} {w w' : World} (hb : Below w.heap.size w w') : Keeps (hide D w) (hide D w') := Keeps.below hb fun _ _ h => h
theorem keeps_bare {w w' : World} (hb : Below w.heap.size w w') : Keeps w w' := ⟨⟨hb.size, fun x v hv => cell_later hb hv⟩, fun k hp => hp.below hb⟩
theorem Turn.keeps {D M D' M' : Nat → Bool} {w w' : World} (h : Turn D M D' M' w w') (md : ∀ k, M k = true → D k = true) : Keeps (hide D w) (hide D' w') :=
  Keeps.hide h.size fun k hk hd => ⟨(h.dd k hk).trans hd, h.kept k hk (by cases hm : M k with | false => rfl | true => rw [md k hm] at hd; cases hd)⟩
theorem grown_keeps {D : Nat → Bool} {W w' : World} {v v' : Value} (hg : W.grownBy w' v.ownBlock) (hD : ∀ g, v.ownBlock = some g → D g = true) (hv : v'.ownBlock = v.ownBlock ∨ v'.ownBlock = some W.heap.size) : Keeps (hide D W) (hide (withB D v') w') :=
  Keeps.hide hg.size fun k hk hd => ⟨by
    rw [withB_no]
    · exact hd
    · intro e
      rcases hv with hv | hv
      · rw [hD k (hv.symm.trans e)] at hd; cases hd
      · rw [hv] at e; injection e with e; omega, hg.block k hk (fun e => by rw [hD k e.symm] at hd; cases hd)⟩
/-- Being ok hangs on the cells that are there and on what bears no mark. -/
def KeepOk {α : Type} (ok : World → α → Prop) : Prop := ∀ {w w' : World} {x : α}, Keeps w w' → ok w x → ok w' x
section
variable {α : Type} {S : Nat} {cells : α → List Value} {ok : World → α → Prop} {ty : TypeId}
theorem RowQ.turnK (hs : KeepOk ok) {D M D' M' : Nat → Bool} {w w' : World} {base : Nat} {v : Value} {ps : List α} (h : RowQ S cells ok ty D M w base v ps) (ht : Turn D M D' M' w w') (md : ∀ k, M k = true → D k = true) : RowQ S cells ok ty D' M' w' base v ps := by
  obtain ⟨h1, h2, h3⟩ := h
  refine ⟨row_at h1 (fun g hg => ht.kept g (row_in h1 hg).2 (h2 g hg).2), fun g hg => ?_, fun p hp => hs (ht.keeps md) (h3 p hp)⟩
  have hlt := (row_in h1 hg).2
  rw [ht.dd g hlt, ht.mm g hlt]
  exact h2 g hg
/-- One more. -/
theorem RowQ.moreK (hs : KeepOk ok) {D M : Nat → Bool} {W w' : World} {base : Nat} {v v' : Value} {ps : List α} {p : α} (h : RowQ S cells ok ty D M W base v ps) (hp : ok (hide D W) p) (ho : Okd D M W) (hg : W.grownBy w' v.ownBlock) (hv : v'.ownBlock = v.ownBlock ∨ v'.ownBlock = some W.heap.size)
    (hr : w'.ownsRow base ty S v' (ps.length + 1) (ps.flatMap cells ++ cells p)) : RowQ S cells ok ty (withB D v') M w' base v' (ps ++ [p]) := by
  obtain ⟨h1, h2, h3⟩ := h
  have hst := grown_keeps hg (fun g e => (h2 g e).1) hv
  refine ⟨?_, fun g hg' => ⟨withB_own hg', ?_⟩, fun q hq => ?_⟩
  · rw [List.length_append, List.flatMap_append, List.length_singleton]
    simpa using hr
  · rcases hv with hv | hv
    · exact (h2 g (hv.symm.trans hg')).2
    · rw [hv] at hg'
      injection hg' with e
      subst e
      cases hm : M W.heap.size with
      | false => rfl
      | true => have := ho.1 _ hm; rw [ho.2 _ (Nat.le_refl _)] at this; cases this
  · rcases List.mem_append.1 hq with hq | hq
    · exact hs hst (h3 q hq)
    · simp at hq
      subst hq
      exact hs hst hp
theorem RowQ.putK (hs : KeepOk ok) {D M : Nat → Bool} {w : World} {base : Nat} {v : Value} {ps : List α} (h : RowQ S cells ok ty D M w base v ps) (a : Addr) (u : Value) (hd : D a.block = true) (hne : ∀ g, v.ownBlock = some g → g ≠ a.block) : RowQ S cells ok ty D M (w.setCell a u) base v ps :=
  ⟨row_at h.1 (fun g hg => Below.heap_setCell w a u g (hne g hg)), h.2.1, fun p hp => hs (Keeps.set a u hd) (h.2.2 p hp)⟩
/-- The row is looked at again. -/
theorem RowQ.finK (hs : KeepOk ok) {D M D1 M' : Nat → Bool} {w w' : World} {v : Value} {ps : List α} {base : Nat} (hbase : w.heap.size ≤ base) (h : RowQ S cells ok ty D1 M' w' base v ps) (ht : Turn D M D1 M' w w') (ho : Okd D1 M' w') :
    (hide (Fin D M' w.heap.size) w').ownsRow base ty S v ps.length (ps.flatMap cells) ∧ ∀ p ∈ ps, ok (hide (Fin D M' w.heap.size) w') p := by
  obtain ⟨h1, h2, h3⟩ := h
  refine ⟨row_at h1 (fun g hg => hide_get _ _ _ ?_), fun p hp => hs (Keeps.less fun k hk => fin_less ht ho hk) (h3 p hp)⟩
  rw [fin_new (Nat.le_trans hbase (row_in h1 hg).1)]
  exact (h2 g hg).2
end
end Go.Proofs.YtaojalicnnnkmaaGreatDoor
/- Goals in memory whose rows bear no mark. Nothing here speaks of one program. -/
namespace Go.Proofs.YtaojalicnnnkmaaGreatDoor
open Go.RowKit
set_option linter.unusedVariables false

mutual
/-- How goals lie: kinds and rows, all of them in blocks without a mark. -/
def SkG (w : World) : Gl → Value → Prop
  | .mk _ _ ls, v => ∃ (a : Option Addr) (c : Nat), v = .slice a ls.length c ∧ (ls = [] ∨ ∃ b off, a = some ⟨b, off, none⟩ ∧ SkR w ls b off)
def SkRow (w : World) : List Gl → Nat → Nat → Prop
  | [], _, _ => True
  | g :: r, b, off => (∃ v, w.cell? ⟨b, off, none⟩ = some (.int .i64 g.kind) ∧ w.cell? ⟨b, off + 5, none⟩ = some v ∧ SkG w g v) ∧ SkRow w r b (off + 6)
def SkR (w : World) : List (List Gl) → Nat → Nat → Prop
  | [], _, _ => True
  | l :: r, b, off => (∃ v, w.cell? ⟨b, off, none⟩ = some v ∧ ∃ (a : Option Addr) (c : Nat), v = .slice a l.length c ∧ (l = [] ∨ ∃ b' off', a = some ⟨b', off', none⟩ ∧ Plain w b' ∧ SkRow w l b' off')) ∧ SkR w r b (off + 1)
end
/-- A row of goals lies so. -/
def SkV (w : World) (l : List Gl) (v : Value) : Prop := ∃ (a : Option Addr) (c : Nat), v = .slice a l.length c ∧ (l = [] ∨ ∃ b off, a = some ⟨b, off, none⟩ ∧ Plain w b ∧ SkRow w l b off)
/-- Rows of goals lie so. -/
def SkW (w : World) (ls : List (List Gl)) (v : Value) : Prop := ∃ (a : Option Addr) (c : Nat), v = .slice a ls.length c ∧ (ls = [] ∨ ∃ b off, a = some ⟨b, off, none⟩ ∧ SkR w ls b off)
theorem skG_iff {w : World} {g : Gl} {v : Value} : SkG w g v ↔ SkW w g.l v := by
  obtain ⟨k, t, ls⟩ := g
  rw [SkG]
  exact Iff.rfl
theorem skR_cons {w : World} {l : List Gl} {r : List (List Gl)} {b off : Nat} : SkR w (l :: r) b off ↔ (∃ v, w.cell? ⟨b, off, none⟩ = some v ∧ SkV w l v) ∧ SkR w r b (off + 1) := by
  rw [SkR]
  exact Iff.rfl
mutual
theorem SkG.keep {w w' : World} (hb : Keeps w w') : ∀ (g : Gl) (v : Value), SkG w g v → SkG w' g v
  | .mk k t ls, v, h => by
    rw [SkG] at h ⊢
    obtain ⟨a, c, e1, e5⟩ := h
    refine ⟨a, c, e1, ?_⟩
    rcases e5 with e5 | ⟨b, off, f1, f3⟩
    · exact Or.inl e5
    · exact Or.inr ⟨b, off, f1, SkR.keep hb ls b off f3⟩
theorem SkRow.keep {w w' : World} (hb : Keeps w w') : ∀ (l : List Gl) (b off : Nat), SkRow w l b off → SkRow w' l b off
  | [], b, off, _ => by rw [SkRow]; trivial
  | g :: r, b, off, h => by
    rw [SkRow] at h ⊢
    obtain ⟨⟨v, h0, h1, h2⟩, h3⟩ := h
    exact ⟨⟨v, hb.1.2 _ _ h0, hb.1.2 _ _ h1, SkG.keep hb g v h2⟩, SkRow.keep hb r b (off + 6) h3⟩
theorem SkR.keep {w w' : World} (hb : Keeps w w') : ∀ (l : List (List Gl)) (b off : Nat), SkR w l b off → SkR w' l b off
  | [], b, off, _ => by rw [SkR]; trivial
  | l :: r, b, off, h => by
    rw [SkR] at h ⊢
    obtain ⟨⟨v, h1, a, c, e1, e5⟩, h3⟩ := h
    refine ⟨⟨v, hb.1.2 _ _ h1, a, c, e1, ?_⟩, SkR.keep hb r b (off + 1) h3⟩
    rcases e5 with e5 | ⟨b', off', f1, f2, f3⟩
    · exact Or.inl e5
    · exact Or.inr ⟨b', off', f1, hb.2 _ f2, SkRow.keep hb l b' off' f3⟩
end
theorem SkV.keep {w w' : World} {l : List Gl} {v : Value} (h : SkV w l v) (hb : Keeps w w') : SkV w' l v := by
  obtain ⟨a, c, e1, e5⟩ := h
  refine ⟨a, c, e1, ?_⟩
  rcases e5 with e5 | ⟨b, off, f1, f2, f3⟩
  · exact Or.inl e5
  · exact Or.inr ⟨b, off, f1, hb.2 _ f2, SkRow.keep hb l b off f3⟩
theorem SkW.keep {w w' : World} {l : List (List Gl)} {v : Value} (h : SkW w l v) (hb : Keeps w w') : SkW w' l v := by
  obtain ⟨a, c, e1, e5⟩ := h
  refine ⟨a, c, e1, ?_⟩
  rcases e5 with e5 | ⟨b, off, f1, f3⟩
  · exact Or.inl e5
  · exact Or.inr ⟨b, off, f1, SkR.keep hb l b off f3⟩
theorem SkV.nil (w : World) : SkV w [] (.slice none 0 0) := ⟨none, 0, rfl, Or.inl rfl⟩
theorem SkW.nil (w : World) : SkW w [] (.slice none 0 0) := ⟨none, 0, rfl, Or.inl rfl⟩
theorem SkRow.get {w : World} : ∀ {l : List Gl} {b off : Nat}, SkRow w l b off → ∀ (i : Nat) (g : Gl), l[i]? = some g → ∃ v, w.cell? ⟨b, off + i * 6, none⟩ = some (.int .i64 g.kind) ∧ w.cell? ⟨b, off + i * 6 + 5, none⟩ = some v ∧ SkW w g.l v
  | [], b, off, _, i, g, hg => by simp at hg
  | y :: r, b, off, h, 0, g, hg => by
    simp at hg
    subst hg
    rw [SkRow] at h
    rw [Nat.zero_mul, Nat.add_zero]
    obtain ⟨⟨v, h1, h2, h3⟩, _⟩ := h
    exact ⟨v, h1, h2, skG_iff.1 h3⟩
  | y :: r, b, off, h, i + 1, g, hg => by
    rw [SkRow] at h
    have := SkRow.get h.2 i g (by simpa using hg)
    rw [show off + (i + 1) * 6 = off + 6 + i * 6 by omega]
    exact this
theorem SkRow.mk {w : World} : ∀ {l : List Gl} {b off : Nat}, (∀ (i : Nat) (g : Gl), l[i]? = some g → ∃ v, w.cell? ⟨b, off + i * 6, none⟩ = some (.int .i64 g.kind) ∧ w.cell? ⟨b, off + i * 6 + 5, none⟩ = some v ∧ SkW w g.l v) → SkRow w l b off
  | [], b, off, _ => by rw [SkRow]; trivial
  | y :: r, b, off, h => by
    rw [SkRow]
    refine ⟨?_, SkRow.mk fun i g hg => ?_⟩
    · obtain ⟨v, h1, h2, h3⟩ := h 0 y rfl
      rw [Nat.zero_mul, Nat.add_zero] at h1 h2
      exact ⟨v, h1, h2, skG_iff.2 h3⟩
    · have := h (i + 1) g (by simpa using hg)
      rw [show off + (i + 1) * 6 = off + 6 + i * 6 by omega] at this
      exact this
theorem SkR.get {w : World} : ∀ {l : List (List Gl)} {b off : Nat}, SkR w l b off → ∀ (i : Nat) (g : List Gl), l[i]? = some g → ∃ v, w.cell? ⟨b, off + i, none⟩ = some v ∧ SkV w g v
  | [], b, off, _, i, g, hg => by simp at hg
  | y :: r, b, off, h, 0, g, hg => by
    simp at hg
    subst hg
    exact (skR_cons.1 h).1
  | y :: r, b, off, h, i + 1, g, hg => by
    have := SkR.get (skR_cons.1 h).2 i g (by simpa using hg)
    rw [show off + (i + 1) = off + 1 + i by omega]
    exact this
theorem SkR.mk {w : World} : ∀ {l : List (List Gl)} {b off : Nat}, (∀ (i : Nat) (g : List Gl), l[i]? = some g → ∃ v, w.cell? ⟨b, off + i, none⟩ = some v ∧ SkV w g v) → SkR w l b off
  | [], b, off, _ => by rw [SkR]; trivial
  | y :: r, b, off, h => by
    refine skR_cons.2 ⟨h 0 y rfl, SkR.mk fun i g hg => ?_⟩
    have := h (i + 1) g (by simpa using hg)
    rw [show off + (i + 1) = off + 1 + i by omega] at this
    exact this
mutual
/-- What lies so is one and the same, but for its terms. -/
theorem SkG.same {w : World} : ∀ (g g' : Gl) (v : Value), SkG w g v → SkG w g' v → cntR g.l = cntR g'.l ∧ cutR g.l = cutR g'.l ∧ cutT g.l = cutT g'.l
  | .mk k t ls, .mk k' t' ls', v, h, h' => by
    rw [SkG] at h h'
    obtain ⟨a, c, rfl, h5⟩ := h
    obtain ⟨a', c', e, g5⟩ := h'
    injection e with e1 e2 e3
    subst e1
    show cntR ls = cntR ls' ∧ cutR ls = cutR ls' ∧ cutT ls = cutT ls'
    rcases h5 with rfl | ⟨b, off, rfl, f1⟩
    · obtain rfl : ls' = [] := List.length_eq_zero_iff.1 e2.symm
      exact ⟨rfl, rfl, rfl⟩
    · rcases g5 with rfl | ⟨b', off', e4, f2⟩
      · obtain rfl : ls = [] := List.length_eq_zero_iff.1 e2
        exact ⟨rfl, rfl, rfl⟩
      · cases e4
        exact SkR.same ls ls' b off e2 f1 f2
theorem SkRow.same {w : World} : ∀ (l l' : List Gl) (b off : Nat), l.length = l'.length → SkRow w l b off → SkRow w l' b off → cntL l = cntL l' ∧ cutL l = cutL l'
  | [], [], b, off, _, _, _ => ⟨rfl, rfl⟩
  | .mk k t ls :: r, .mk k' t' ls' :: q, b, off, hl, h, h' => by
    rw [SkRow] at h h'
    obtain ⟨⟨v, h0, h1, h2⟩, h3⟩ := h
    obtain ⟨⟨v', g0, g1, g2⟩, g3⟩ := h'
    rw [h0] at g0; rw [h1] at g1
    cases g1
    have hk : k = k' := by injection g0 with g0; injection g0
    subst hk
    obtain ⟨a1, a2, a3⟩ := SkG.same _ _ v h2 g2
    obtain ⟨b1, b2⟩ := SkRow.same r q b (off + 6) (by simpa using hl) h3 g3
    simp only [Gl.l] at a1 a2 a3
    refine ⟨by rw [cntL, cntL, cntG, cntG, a1, b1], by rw [cutL, cutL, cutG, cutG, a2, a3, b2]⟩
  | [], y :: q, b, off, hl, _, _ => by simp at hl
  | x :: r, [], b, off, hl, _, _ => by simp at hl
theorem SkR.same {w : World} : ∀ (l l' : List (List Gl)) (b off : Nat), l.length = l'.length → SkR w l b off → SkR w l' b off → cntR l = cntR l' ∧ cutR l = cutR l' ∧ cutT l = cutT l'
  | [], [], b, off, _, _, _ => ⟨rfl, rfl, rfl⟩
  | x :: r, y :: q, b, off, hl, h, h' => by
    rw [SkR] at h h'
    obtain ⟨⟨v, h1, a, c, rfl, h5⟩, h3⟩ := h
    obtain ⟨⟨v', g1, a', c', rfl, g5⟩, g3⟩ := h'
    rw [h1] at g1
    injection g1 with e
    injection e with e1 e2 e3
    subst e1
    obtain ⟨b1, b2, b3⟩ := SkR.same r q b (off + 1) (by simpa using hl) h3 g3
    have key : cntL x = cntL y ∧ cutL x = cutL y := by
      rcases h5 with rfl | ⟨b', off', rfl, f0, f1⟩
      · obtain rfl : y = [] := List.length_eq_zero_iff.1 e2.symm
        exact ⟨rfl, rfl⟩
      · rcases g5 with rfl | ⟨b2', off2', e4, _, f2⟩
        · obtain rfl : x = [] := List.length_eq_zero_iff.1 e2
          exact ⟨rfl, rfl⟩
        · cases e4
          exact SkRow.same x y b' off' e2 f1 f2
    exact ⟨by rw [cntR, cntR, key.1, b1], by rw [cutR, cutR, key.2, b2], by rw [cutT, cutT, b2]⟩
  | [], y :: q, b, off, hl, _, _ => by simp at hl
  | x :: r, [], b, off, hl, _, _ => by simp at hl
end
/-- Goals, and how they lie. -/
def GoalsK (w : World) (l : List Gl) (v : Value) : Prop := GoalsV w l v ∧ SkV w l v
theorem GoalsK.nil (w : World) : GoalsK w [] (.slice none 0 0) := ⟨GoalsV.nil w, SkV.nil w⟩
theorem GoalsK.keep {w w' : World} {l : List Gl} {v : Value} (h : GoalsK w l v) (hb : Keeps w w') : GoalsK w' l v := ⟨h.1.stay hb.1, h.2.keep hb⟩
def RowsK (w : World) (ls : List (List Gl)) (v : Value) : Prop := RowsV w ls v ∧ SkW w ls v
theorem RowsK.keep {w w' : World} {l : List (List Gl)} {v : Value} (h : RowsK w l v) (hb : Keeps w w') : RowsK w' l v := ⟨h.1.stay hb.1, h.2.keep hb⟩
/-- A row of goals of the call's own. -/
def gkOk (w : World) (p : GlP) : Prop := glOk w p ∧ SkG w p.g p.v
theorem gkOk_keep : KeepOk gkOk := fun hs h => ⟨GlC.stay hs.1 _ _ _ h.1, SkG.keep hs _ _ h.2⟩
def rkOk (w : World) (p : List Gl × Value) : Prop := GoalsK w p.1 p.2
theorem rkOk_keep : KeepOk rkOk := fun hs h => GoalsK.keep h hs
theorem own_goalsK {w : World} {base : Nat} {ty : TypeId} {v : Value} {ps : List GlP} (h : w.ownsRow base ty 6 v ps.length (ps.flatMap glCells)) (hp : ∀ p ∈ ps, gkOk w p) (hl : ps.length * 88 ≤ BIG) : GoalsK w (ps.map (·.g)) v := by
  refine ⟨own_goals h (fun p hpm => (hp p hpm).1) hl, ?_⟩
  have hown := h
  obtain ⟨a, c, rfl, h1, h2, h3⟩ := Elems.owned glCells_len h
  refine ⟨a, c, by rw [List.length_map], ?_⟩
  rcases h3 with rfl | ⟨b, off, rfl, hb, hc⟩
  · left; rfl
  · have hpl : Plain w b := by
      rcases hown.2 with ⟨e, _⟩ | ⟨g, cap, cur, e, _, hh, _⟩
      · cases e
      · cases e
        exact ⟨cur, ty, hh⟩
    refine Or.inr ⟨b, off, rfl, hpl, SkRow.mk fun i x hx => ?_⟩
    rw [List.getElem?_map] at hx
    obtain ⟨p, hpi, rfl⟩ := Option.map_eq_some_iff.1 hx
    exact ⟨p.v, by have := hc i p hpi 0 _ rfl; simpa [Nat.add_assoc] using this, by have := hc i p hpi 5 _ rfl; simpa [Nat.add_assoc] using this, skG_iff.1 (hp p (List.mem_of_getElem? hpi)).2⟩
theorem own_rowsK {w : World} {base : Nat} {ty : TypeId} {v : Value} {ps : List (List Gl × Value)} (h : w.ownsRow base ty 1 v ps.length (ps.flatMap rsCells)) (hp : ∀ p ∈ ps, rkOk w p) (hl : ps.length * 24 ≤ BIG) : RowsK w (ps.map (·.1)) v := by
  refine ⟨own_rows h (fun p hpm => (hp p hpm).1) hl, ?_⟩
  obtain ⟨a, c, rfl, h1, h2, h3⟩ := Elems.owned rsCells_len h
  refine ⟨a, c, by rw [List.length_map], ?_⟩
  rcases h3 with rfl | ⟨b, off, rfl, hb, hc⟩
  · left; rfl
  · refine Or.inr ⟨b, off, rfl, SkR.mk fun i x hx => ?_⟩
    rw [List.getElem?_map] at hx
    obtain ⟨p, hpi, rfl⟩ := Option.map_eq_some_iff.1 hx
    exact ⟨p.2, by have := hc i p hpi 0 _ rfl; simpa using this, (hp p (List.mem_of_getElem? hpi)).2⟩
end Go.Proofs.YtaojalicnnnkmaaGreatDoor
/- The document's side of chapter 14: two (goals joined), over of's contract. -/
namespace Go.Proofs.YtaojalicnnnkmaaGreatDoor
open Go.RowKit
set_option linter.unusedVariables false

def erO (o : Option (List Gl)) : Int := match o with
  | none => 5
  | some _ => 0
theorem stays_bel {D : Nat → Bool} {w w' : World} (hb : Below w.heap.size w w') : Stays (hide D w) (hide D w') := Stays.below hb fun _ _ h => h
end Go.Proofs.YtaojalicnnnkmaaGreatDoor
/- The document's side of chapter 14: rows, over of's contract. -/
namespace Go.Proofs.YtaojalicnnnkmaaGreatDoor
open Go.RowKit
set_option linter.unusedVariables false

/-- The goals of each, where all of them are bodies. -/
def ofR : List Tm → Option (List (List Gl))
  | [] => some []
  | t :: r => (ofB t).bind fun x => (ofR r).map fun y => x :: y
theorem ofR_none {ts : List Tm} {j : Nat} {x : Tm} (hx : ts[j]? = some x) (hn : ofB x = none) : ofR (ts.drop j) = none := by
  obtain ⟨hlt, rfl⟩ := List.getElem?_eq_some_iff.1 hx
  rw [List.drop_eq_getElem_cons hlt, ofR, hn]
  rfl
theorem ofR_some {ts : List Tm} {j : Nat} {x : Tm} {l : List Gl} (hx : ts[j]? = some x) (hn : ofB x = some l) : ofR (ts.drop j) = (ofR (ts.drop (j + 1))).map fun y => l :: y := by
  obtain ⟨hlt, rfl⟩ := List.getElem?_eq_some_iff.1 hx
  rw [List.drop_eq_getElem_cons hlt, ofR, hn]
  rfl
theorem Box.six {w : World} {b : Nat} {v0 v1 v2 v3 v4 v5 : Value} (h : Box w b [v0, v1, v2, v3, v4, v5]) : w.cell? ⟨b, 0, none⟩ = some v0 ∧ w.cell? ⟨b, 1, none⟩ = some v1 ∧ w.cell? ⟨b, 2, none⟩ = some v2 ∧ w.cell? ⟨b, 3, none⟩ = some v3 ∧ w.cell? ⟨b, 4, none⟩ = some v4 ∧ w.cell? ⟨b, 5, none⟩ = some v5 ∧ ∀ j, w.frozen? ⟨b, j, none⟩ = false :=
  ⟨h.cells 0 _ rfl, h.cells 1 _ rfl, h.cells 2 _ rfl, h.cells 3 _ rfl, h.cells 4 _ rfl, h.cells 5 _ rfl, h.fz⟩
end Go.Proofs.YtaojalicnnnkmaaGreatDoor
/- The document's side of chapter 14: is, Count, Cuts, walked. -/
namespace Go.Proofs.YtaojalicnnnkmaaGreatDoor
open Go.RowKit
set_option linter.unusedVariables false

/-- Smaller, all the way in. -/
theorem cnt_mem : ∀ {l : List Gl} {g : Gl}, g ∈ l → cntG g ≤ cntL l
  | y :: r, g, h => by
    rw [cntL]
    rcases List.mem_cons.1 h with rfl | h
    · omega
    · have := cnt_mem h; omega
theorem cntR_mem : ∀ {ls : List (List Gl)} {l : List Gl}, l ∈ ls → cntL l ≤ cntR ls
  | y :: r, g, h => by
    rw [cntR]
    rcases List.mem_cons.1 h with rfl | h
    · omega
    · have := cntR_mem h; omega
theorem cnt_row {l : List Gl} {g : Gl} {r : List Gl} (h : g ∈ l) (hr : r ∈ g.l) : cntL r < cntL l := by
  have h1 := cnt_mem h
  obtain ⟨k, t, ls⟩ := g
  have h2 := cntR_mem (show r ∈ ls from hr)
  rw [cntG] at h1
  omega
theorem cntR_drop {l : List (List Gl)} {i : Nat} {g : List Gl} (h : l[i]? = some g) : cntR (l.drop i) = cntL g + cntR (l.drop (i + 1)) := by
  obtain ⟨hlt, rfl⟩ := List.getElem?_eq_some_iff.1 h
  rw [List.drop_eq_getElem_cons hlt, cntR]
theorem cnt_len : ∀ l : List Gl, l.length ≤ cntL l
  | [] => by rw [cntL]; simp
  | .mk k t ls :: r => by
    rw [cntL, cntG, List.length_cons]
    have := cnt_len r
    omega
/-- The rows' goals of a row of goals. -/
def innL : List Gl → Nat
  | [] => 0
  | g :: r => cntR g.l + innL r
theorem cnt_inn : ∀ l : List Gl, cntL l = l.length + innL l
  | [] => rfl
  | .mk k t ls :: r => by
    rw [cntL, cntG, innL, List.length_cons, cnt_inn r]
    show cntR ls + 1 + _ = r.length + 1 + (cntR ls + innL r)
    omega
theorem inn_drop {l : List Gl} {i : Nat} {g : Gl} (h : l[i]? = some g) : innL (l.drop i) = cntR g.l + innL (l.drop (i + 1)) := by
  obtain ⟨hlt, rfl⟩ := List.getElem?_eq_some_iff.1 h
  rw [List.drop_eq_getElem_cons hlt, innL]
end Go.Proofs.YtaojalicnnnkmaaGreatDoor
/- The document's side of chapter 14: what a body's term is, by its name's tests; terms new in a row. -/
namespace Go.Proofs.YtaojalicnnnkmaaGreatDoor
open Go.RowKit
set_option linter.unusedVariables false

theorem isT_iff {t : Tm} {s : ByteArray} {m : Nat} : isT t s m = true ↔ t.k = 2 ∧ t.s.data.toList = s.data.toList ∧ t.args.length = m := by
  unfold isT
  simp only [Bool.and_eq_true, beq_iff_eq]
  exact ⟨fun h => ⟨h.1.1, h.1.2, h.2⟩, fun h => ⟨⟨h.1, h.2.1⟩, h.2.2⟩⟩
theorem two_args {t : Tm} (h : t.args.length = 2) : ∃ a b, t.args = [a, b] := by
  match hx : t.args, h with
  | [a, b], _ => exact ⟨a, b, rfl⟩
theorem one_arg {t : Tm} (h : t.args.length = 1) : ∃ a, t.args = [a] := by
  match hx : t.args, h with
  | [a], _ => exact ⟨a, rfl⟩
theorem is_join {t : Tm} (h : isT t commaS 2 = true) : ∃ a b, t.args = [a, b] ∧ ctlT t = .join a b := by
  obtain ⟨hk, hs, hl⟩ := isT_iff.1 h
  obtain ⟨a, b, e⟩ := two_args hl
  refine ⟨a, b, e, ?_⟩
  unfold ctlT
  rw [if_neg (by omega), if_neg (by omega), if_pos hk, e]
  simp only [hs, if_true]
theorem is_yes {t : Tm} (h : isT t trueS 0 = true) : ctlT t = .yes := by
  obtain ⟨hk, hs, hl⟩ := isT_iff.1 h
  unfold ctlT
  rw [if_neg (by omega), if_neg (by omega), if_pos hk, List.length_eq_zero_iff.1 hl]
  simp only [hs, if_true]
theorem is_cut {t : Tm} (h : isT t bangS 0 = true) : ctlT t = .cut := by
  obtain ⟨hk, hs, hl⟩ := isT_iff.1 h
  unfold ctlT
  rw [if_neg (by omega), if_neg (by omega), if_pos hk, List.length_eq_zero_iff.1 hl]
  simp only [hs]
  rfl
theorem is_semi {t : Tm} (h : isT t semiS 2 = true) : ∃ a b, t.args = [a, b] ∧ (isT a arrowS 2 = true → ∃ c d, a.args = [c, d] ∧ ctlT t = .ite c d b) ∧ (isT a arrowS 2 = false → ctlT t = .or a b) := by
  obtain ⟨hk, hs, hl⟩ := isT_iff.1 h
  obtain ⟨a, b, e⟩ := two_args hl
  have hc : ctlT t = (match arrowT a with
        | some (c, d) => .ite c d b
        | none => .or a b) := by
    unfold ctlT
    rw [if_neg (by omega), if_neg (by omega), if_pos hk, e]
    simp only [hs]
    rfl
  refine ⟨a, b, e, fun ha => ?_, fun ha => ?_⟩
  · obtain ⟨_, _, hl'⟩ := isT_iff.1 ha
    obtain ⟨c, d, e'⟩ := two_args hl'
    refine ⟨c, d, e', ?_⟩
    have : arrowT a = some (c, d) := by
      unfold arrowT
      rw [if_pos ha]
      obtain ⟨k, n, s, ts⟩ := a
      cases (show ts = [c, d] from e')
      rfl
    rw [hc, this]
  · have : arrowT a = none := by
      unfold arrowT
      rw [if_neg (by rw [ha]; simp)]
    rw [hc, this]
theorem is_arrow {t : Tm} (h : isT t arrowS 2 = true) : ∃ c d, t.args = [c, d] ∧ ctlT t = .ite c d failT := by
  obtain ⟨hk, hs, hl⟩ := isT_iff.1 h
  obtain ⟨a, b, e⟩ := two_args hl
  refine ⟨a, b, e, ?_⟩
  unfold ctlT
  rw [if_neg (by omega), if_neg (by omega), if_pos hk, e]
  simp only [hs]
  rfl
theorem is_neg {t : Tm} (h : isT t negS 1 = true) : ∃ a, t.args = [a] ∧ ctlT t = .neg a := by
  obtain ⟨hk, hs, hl⟩ := isT_iff.1 h
  obtain ⟨a, e⟩ := one_arg hl
  refine ⟨a, e, ?_⟩
  unfold ctlT
  rw [if_neg (by omega), if_neg (by omega), if_pos hk, e]
  simp only [hs, if_true]
theorem is_call {t : Tm} (h0 : ¬ t.k = 0) (h1 : ¬ t.k = 1) (b1 : isT t commaS 2 = false) (b2 : isT t trueS 0 = false) (b3 : isT t bangS 0 = false) (b4 : isT t semiS 2 = false) (b5 : isT t arrowS 2 = false) (b6 : isT t negS 1 = false) : ctlT t = .call := by
  unfold ctlT
  rw [if_neg h0, if_neg h1]
  by_cases h2 : t.k = 2
  · rw [if_pos h2]
    have no : ∀ {s : ByteArray} {m : Nat}, isT t s m = false → t.args.length = m → ¬ t.s.data.toList = s.data.toList := fun hf hl e => by
      rw [isT_iff.2 ⟨h2, e, hl⟩] at hf; cases hf
    split
    · rename_i e
      have hl : t.args.length = 0 := by rw [e]; rfl
      rw [if_neg (no b2 hl), if_neg (no b3 hl)]
    · rename_i e
      have hl : t.args.length = 1 := by rw [e]; rfl
      rw [if_neg (no b6 hl)]
    · rename_i e
      have hl : t.args.length = 2 := by rw [e]; rfl
      rw [if_neg (no b1 hl), if_neg (no b4 hl), if_neg (no b5 hl)]
    · rfl
  · rw [if_neg h2]
/-- No more goals than twice the term's parts. -/
theorem of_cnt : ∀ (M : Nat) (t : Tm), sizeN t ≤ M → ∀ l, ofB t = some l → cntL l ≤ 2 * sizeN t
  | 0, t, h, l, _ => by have := size_pos t; omega
  | M + 1, t, h, l, e => by
    have hp := size_pos t
    rw [of_step] at e
    cases hc : ctlT t with
    | var => rw [hc] at e; cases e; simp [cntL, callG, cntG, cntR]; omega
    | num => rw [hc] at e; cases e
    | yes => rw [hc] at e; cases e; simp [cntL]
    | cut => rw [hc] at e; cases e; simp [cntL, cntG, cntR]; omega
    | call => rw [hc] at e; cases e; simp [cntL, callG, cntG, cntR]; omega
    | join a b =>
      obtain ⟨g, g1, g2⟩ := ctl_join hc
      have gs := size_args g
      rw [sizesN, sizesN, sizesN] at gs
      rw [hc] at e
      simp only [Option.bind_eq_some_iff, Option.map_eq_some_iff] at e
      obtain ⟨x, hx, y, hy, rfl⟩ := e
      have := of_cnt M a (by omega) x hx
      have := of_cnt M b (by omega) y hy
      rw [cnt_app]
      omega
    | or a b =>
      obtain ⟨g, _, g1, g2⟩ := ctl_or hc
      have gs := size_args g
      rw [sizesN, sizesN, sizesN] at gs
      rw [hc] at e
      simp only [Option.bind_eq_some_iff, Option.map_eq_some_iff] at e
      obtain ⟨x, hx, y, hy, rfl⟩ := e
      have := of_cnt M a (by omega) x hx
      have := of_cnt M b (by omega) y hy
      simp only [cntL, cntG, cntR]
      omega
    | neg a =>
      obtain ⟨g, g1⟩ := ctl_neg hc
      have gs := size_args g
      rw [sizesN, sizesN] at gs
      rw [hc] at e
      simp only [Option.map_eq_some_iff] at e
      obtain ⟨x, hx, rfl⟩ := e
      have := of_cnt M a (by omega) x hx
      simp only [cntL, cntG, cntR]
      omega
    | ite c d f =>
      obtain ⟨g, g1, g2, g3⟩ := ctl_ite hc
      rw [hc] at e
      simp only [Option.bind_eq_some_iff, Option.map_eq_some_iff] at e
      obtain ⟨x, hx, y, hy, z, hz, rfl⟩ := e
      have i1 := of_cnt M c (by omega) x hx
      have i2 := of_cnt M d (by omega) y hy
      have i3 := of_cnt M f (by omega) z hz
      simp only [cntL, cntG, cntR]
      rcases g with ⟨a, ga, gb⟩ | ⟨ga, rfl⟩
      · have s1 := size_args ga
        have s2 := size_args gb
        rw [sizesN, sizesN, sizesN] at s1 s2
        omega
      · have s1 := size_args ga
        rw [sizesN, sizesN, sizesN] at s1
        have : ofB failT = some [callG failT] := rfl
        rw [this] at hz
        cases hz
        have : cntL [callG failT] = 1 := rfl
        omega
theorem of_len {t : Tm} {l : List Gl} (h : ofB t = some l) : l.length ≤ 2 * sizeN t := Nat.le_trans (cnt_len l) (of_cnt _ t (Nat.le_refl _) l h)
/-- Terms new in a row. -/
theorem tms_new {D : Nat → Bool} {w : World} (ho : Old D w) (ps : List TmP) (hp : ∀ p ∈ ps, TmV (hide D w) p.1 (pVal p)) (hl : ps.length ≤ 100) (ty : TypeId) (cs : Array Value) (hcs : cs.toList = ps.flatMap pCells) :
    Tms (hide D (w.alloc (.cells cs ty))) (.slice (some ⟨w.heap.size, 0, none⟩) ps.length ps.length) (ps.map (·.1)) := by
  have hd : D w.heap.size = false := ho _ (Nat.le_refl _)
  refine ⟨_, ps.length, by rw [List.length_map], by rw [List.length_map]; exact Nat.le_refl _, by unfold maxLen; omega, by rw [List.length_map]; unfold BIG; omega, Or.inr ⟨w.heap.size, 0, rfl, by rw [hide_size]; simp, TmRow.mk fun i x hx => ?_⟩⟩
  rw [List.getElem?_map] at hx
  obtain ⟨p, hpi, rfl⟩ := Option.map_eq_some_iff.1 hx
  have hc : ∀ j u, (pCells p)[j]? = some u → (hide D (w.alloc (.cells cs ty))).cell? ⟨w.heap.size, 0 + i * 4 + j, none⟩ = some u := fun j u hj => by
    rw [hide_cell _ _ _ hd]
    have := cell_new w cs ty (i * 4 + j) u (by rw [hcs, flat_get pCells_len _ _ _ hpi _ (by have := (List.getElem?_eq_some_iff.1 hj).1; rwa [pCells_len] at this)]; exact hj)
    rw [add_plain] at this
    rw [Nat.zero_add] at this ⊢
    exact this
  exact ⟨_, _, _, _, hc 0 _ rfl, hc 1 _ rfl, hc 2 _ rfl, hc 3 _ rfl, TmV.later (bel1' w _) (hp p (List.mem_of_getElem? hpi))⟩
end Go.Proofs.YtaojalicnnnkmaaGreatDoor
/- Package body: what add does to a row: definitions, lemmas; is. -/
namespace Go.Proofs.YtaojalicnnnkmaaGreatDoor
open Go.RowKit
set_option linter.unusedVariables false

/-- A row of goals in the making, since W. -/
def Adds (W : World) (D0 D : Nat → Bool) (w : World) (v : Value) (ps : List GlP) : Prop := RowQ 6 glCells gkOk 35 D noM w W.heap.size v ps ∧ Turn D0 noM D noM W w ∧ Okd D noM w
theorem Adds.later {W : World} {D0 D : Nat → Bool} {w w' : World} {v : Value} {ps : List GlP} (h : Adds W D0 D w v ps) (hb : Below w.heap.size w w') : Adds W D0 D w' v ps :=
  ⟨h.1.turnK (M := noM) @gkOk_keep (Turn.below (D := D) (M := noM) hb) (fun _ h => absurd h (by simp)), h.2.1.trans (Turn.below hb), h.2.2.later hb.size⟩
theorem Adds.none {D : Nat → Bool} {w : World} (h : Old D w) : Adds w D D w (.slice none 0 0) [] := ⟨RowQ.none _ _ _ _, Turn.refl _ _ _, okd_no h⟩
theorem Adds.tm {W : World} {D0 D : Nat → Bool} {w : World} {v : Value} {ps : List GlP} (h : Adds W D0 D w v ps) {t : Tm} {u : Value} (ht : TmV (hide D0 W) t u) : TmV (hide D w) t u := TmV.stay (h.2.1.stays (fun _ h => by cases h)) _ _ ht
theorem Adds.old {W : World} {D0 D : Nat → Bool} {w : World} {v : Value} {ps : List GlP} (h : Adds W D0 D w v ps) : Old D w := h.2.2.2
/-- What add answers. -/
def AddP (W : World) (D0 : Nat → Bool) (w : World) (v : Value) (ps : List GlP) (o : Option (List Gl)) (e : Ending) (w' : World) : Prop := w.grownBy w' v.ownBlock ∧ match o with
  | none => e = .returned (.tuple #[.slice none 0 0, .bool false])
  | some qs => ∃ (a : Option Addr) (m c : Nat) (ps' : List GlP) (D' : Nat → Bool), e = .returned (.tuple #[.slice a m c, .bool true]) ∧ ps'.map (·.g) = ps.map (·.g) ++ qs ∧ ps'.length = m ∧
      (∀ g, (Value.slice a m c).ownBlock = some g → v.ownBlock = some g ∨ w.heap.size ≤ g) ∧ Adds W D0 D' w' (.slice a m c) ps'
theorem grown_none {w w' : World} (h : w.grownBy w' none) : Below w.heap.size w w' := ⟨h.os, h.tape, h.output, h.size, fun k hk => h.block k hk (by simp)⟩
theorem grown_of_bel {w w' : World} {row : Option Nat} (h : Below w.heap.size w w') : w.grownBy w' row := ⟨h.os, h.tape, h.output, h.size, fun k hk _ => h.block k hk⟩
theorem grown_two {a b c : World} {row row' : Option Nat} (h : a.grownBy b row) (g : b.grownBy c row') (hr : ∀ k, row' = some k → row = some k ∨ a.heap.size ≤ k) : a.grownBy c row :=
  ⟨g.os.trans h.os, g.tape.trans h.tape, g.output.trans h.output, Nat.le_trans h.size g.size, fun k hk hn => (g.block k (Nat.lt_of_lt_of_le hk h.size) (fun e => by
    rcases hr k e.symm with h1 | h1
    · exact hn h1.symm
    · omega)).trans (h.block k hk hn)⟩
/-- One more goal. -/
theorem addP_push {W : World} {D0 D : Nat → Bool} {w wq w7 : World} {a a7 : Option Addr} {m c c7 : Nat} {ps : List GlP} {p : GlP} (h : Adds W D0 D w (.slice a m c) ps) (hm : ps.length = m) (hb : Below w.heap.size w wq) (hp : gkOk (hide D wq) p)
    (hg : wq.grownBy w7 (Value.slice a m c).ownBlock) (hat : (Value.slice a7 (m + 1) c7).ownBlock = (Value.slice a m c).ownBlock ∨ (Value.slice a7 (m + 1) c7).ownBlock = some wq.heap.size)
    (hr : w7.ownsRow W.heap.size 35 6 (.slice a7 (m + 1) c7) (m + 1) (ps.flatMap glCells ++ glCells p)) : AddP W D0 w (.slice a m c) ps (some [p.g]) (.returned (.tuple #[.slice a7 (m + 1) c7, .bool true])) w7 := by
  have hq := h.later hb
  refine ⟨grown_two (grown_of_bel hb) hg (fun k e => Or.inl e), a7, m + 1, c7, ps ++ [p], withB D (.slice a7 (m + 1) c7), rfl, by simp, by simp [hm], fun g e => ?_, ?_, ?_, ?_⟩
  · rcases hat with hat | hat
    · left; rw [← hat]; exact e
    · right; rw [hat] at e; injection e with e; have := hb.size; omega
  · exact hq.1.moreK @gkOk_keep hp hq.2.2 hg hat (by rw [hm]; exact hr)
  · exact hq.2.1.grown hg (fun g e => (row_in hq.1.1 e).1) hat
  · refine ⟨fun k hk => absurd hk (by simp), fun k hk => ?_⟩
    rw [withB_no (fun e => by have := (row_in hr e).2; omega)]
    exact hq.2.2.2 k (by have := hg.size; omega)
/-- As Of's: a row new. -/
def OfKP (D : Nat → Bool) (w : World) (o : Option (List Gl)) (e : Ending) (w' : World) : Prop := Below w.heap.size w w' ∧ match o with
  | none => e = .returned (.tuple #[.slice none 0 0, .bool false])
  | some qs => ∃ (a : Option Addr) (c : Nat), e = .returned (.tuple #[.slice a qs.length c, .bool true]) ∧ GoalsK (hide D w') qs (.slice a qs.length c)
theorem addP_new {D : Nat → Bool} {w : World} (hD : Old D w) {o : Option (List Gl)} {e : Ending} {w' : World} (h : AddP w D w (.slice none 0 0) [] o e w') (hl : ∀ qs, o = some qs → qs.length ≤ 1000000) : OfKP D w o e w' := by
  obtain ⟨hg, h⟩ := h
  refine ⟨grown_none hg, ?_⟩
  cases o with
  | none => exact h
  | some qs =>
    obtain ⟨a, m, c, ps, D', rfl, h1, h2, h3, h4, h5, h6⟩ := h
    have hF := h4.finK @gkOk_keep (Nat.le_refl _) h5 h6
    rw [fin_no hD] at hF
    have h1' : ps.map (·.g) = qs := by simpa using h1
    have hlen : ps.length = qs.length := by rw [← h1', List.length_map]
    have hk := own_goalsK hF.1 hF.2 (by have := hl qs rfl; unfold BIG; omega)
    rw [h1'] at hk
    have hmq : m = qs.length := h2.symm.trans hlen
    rw [hmq] at hk ⊢
    exact ⟨a, c, rfl, hk⟩
theorem infoGoalB : (Tryz.prog.info? 35).map (fun i => (i.zero, i.size, i.bytes)) = some (some (.agg #[.int .i64 0, .int .i64 0, .int .i64 0, .string ⟨#[]⟩, .slice none 0 0, .slice none 0 0]), 6, 88) := by kernel_rfl
theorem infoGoalsB : (Tryz.prog.info? 25).map (fun i => (i.zero, i.size, i.bytes)) = some (some (.slice none 0 0), 1, 24) := by kernel_rfl
/-- Of that name, of so many. -/
def nmT (t : Tm) (s : ByteArray) (m : Nat) : Bool := t.s.data.toList == s.data.toList && t.args.length == m
theorem nmT_is {t : Tm} {s : ByteArray} {m : Nat} (hf : formedT t = true) (hs : s.data.toList ≠ []) : nmT t s m = isT t s m := by
  obtain ⟨k, n, st, ts⟩ := t
  rw [formedT, Bool.and_eq_true] at hf
  have hp := hf.1
  unfold nmT isT
  show (st.data.toList == s.data.toList && ts.length == m) = (k == 2 && st.data.toList == s.data.toList && ts.length == m)
  by_cases h2 : k = 2
  · subst h2; simp
  · have hk : (k == 2) = false := beq_false_of_ne h2
    have he : st.data.toList = [] := by
      unfold plainT at hp
      rw [if_neg h2] at hp
      split at hp
      · simp at hp; simpa using hp.1.2
      · split at hp
        · simp at hp; simpa using hp.1
        · cases hp
    rw [hk, he]
    have : (([] : List UInt8) == s.data.toList) = false := beq_false_of_ne (fun e => hs e.symm)
    rw [this]
    rfl
set_option maxHeartbeats 4000000 in
theorem bis_at {t : Tm} {w : World} {v : Value} (hv : TmV w t v) (s : ByteArray) (m : Nat) : Calls Tryz.prog 31 #[v, .string s, .int .i64 m] w fun e w' => e = .returned (.bool (nmT t s m)) ∧ Below w.heap.size w w' := by
  obtain ⟨k, n, st, ts⟩ := t
  obtain ⟨u, rfl, hs, hk, hn, hu⟩ := tmV_iff.1 hv
  obtain ⟨a, c, rfl, h1, h2, h3⟩ := hu.len
  obtain ⟨w1, e1, B1, z1, X1⟩ := box_new w #[.int .i64 k, .int .i64 n, .string st, .slice a ts.length c] 31
  have HE := Lib.hid e1
  have HB := Lib.hid B1
  obtain ⟨x0, x1, x2, x3, _⟩ := X1.four
  have hr : nmT (.mk k n st ts) s m = (st.data.toList == s.data.toList && ts.length == m) := rfl
  rw [hr]
  obtain ⟨l, hl⟩ : ∃ l, ts.length = l := ⟨_, rfl⟩
  rw [hl] at x3 HE h1 ⊢
  clear hr hl hu hv hs hk hn h3 B1 z1 X1 e1
  by_cases g2 : st = s
  · subst g2
    have g2b : (st.toList == st.toList) = true := by simp
    have e2 : (st.data.toList == st.data.toList) = true := by simp
    rw [e2]
    clear e2
    by_cases g3 : l = m
    · subst g3
      have g3b : ((l : Int) == (l : Int)) = true := by simp
      have e3 : (true && l == l) = true := by simp
      rw [e3]
      clear e3
      go_enter Tryz.func31, Tryz.ntmps31
      go_upto_region 1 with fail
      (try rw [HE.out])
      go_wp2
      go_ret
      exact ⟨rfl, HB.out⟩
    · have g3b : ((l : Int) == (m : Int)) = false := by apply beq_false_of_ne; omega
      have e3 : (true && l == m) = false := by simp [g3]
      rw [e3]
      clear e3
      go_enter Tryz.func31, Tryz.ntmps31
      go_upto_region 1 with fail
      (try rw [HE.out])
      go_wp2
      go_ret
      exact ⟨rfl, HB.out⟩
  · have g2a : (st.data.toList == s.data.toList) = false := beq_false_of_ne (fun e => g2 (bytes_eq e))
    have g2b : (st.toList == s.toList) = false := by rw [Lib.toList_data, Lib.toList_data]; exact g2a
    have e3 : ((st.data.toList == s.data.toList) && l == m) = false := by rw [g2a]; simp
    rw [e3]
    clear e3 g2a
    go_enter Tryz.func31, Tryz.ntmps31
    go_upto_region 1 with fail
    (try rw [HE.out])
    go_wp2
    go_ret
    exact ⟨rfl, HB.out⟩
end Go.Proofs.YtaojalicnnnkmaaGreatDoor
