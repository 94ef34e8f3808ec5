/- Maps whose keys are addresses, whose values are numbers: made and asked in one call. Nothing here speaks of one program. -/
import Derived.Test.YthikbenfhaglkaaStr
import Derived.LaidEqlPtr
import Derived.Maps.OwnSet
namespace Go.Proofs.Ythikbenfhaglkaa
open Go.RowKit
set_option linter.unusedVariables false

/-- A block of cells with no mark. -/
def Plain (w : World) (k : Nat) : Prop := ∃ c t, w.heap[k]? = some (.cells c t (0, 0))
theorem Plain.below {w w' : World} {k : Nat} (h : Plain w k) (hb : Below w.heap.size w w') : Plain w' k := by
  obtain ⟨c, t, e⟩ := h
  exact ⟨c, t, (hb.block k (Array.getElem?_eq_some_iff.1 e).1).trans e⟩
abbrev entry (p : Addr × Nat) : Value × Value := (.pointer (some p.1), .int .i64 (p.2 : Int))
/-- The entries, in their order. -/
def Holds (es : List MapEntry) (L : List (Addr × Nat)) : Prop := es.map (fun e => (e.key, e.val)) = L.map entry
section
variable {P : Program} {k te : TypeId} {j : TypeInfo} {w : World}
theorem run_equal_same (hk : P.underlying k = some (.pointer te)) (hte : P.info? te = some j) (hsz : j.size ≠ 0) (a : Addr) : (Op.equal k (.pointer (some a)) (.pointer (some a))).run P w = .ok true w := by
  have h : ∀ d : Nat, (Op.equalIn (d + 1) k (.pointer (some a)) (.pointer (some a))).run P w = .ok true w := fun d => by
    simp [Op.equalIn, run_underlying hk, sizeOf, typeInfo, hte, run_sameAddr_same]
  simp [Op.equal, Op.maxDepth, h 9999]
theorem run_equal_other (hk : P.underlying k = some (.pointer te)) (hte : P.info? te = some j) (hsz : j.size ≠ 0) {a b : Addr} (hne : a ≠ b) (ha : Plain w a.block) (hb : Plain w b.block) : (Op.equal k (.pointer (some a)) (.pointer (some b))).run P w = .ok false w := by
  obtain ⟨ca, ta, ha⟩ := ha
  obtain ⟨cb, tb, hb⟩ := hb
  have h : ∀ d : Nat, (Op.equalIn (d + 1) k (.pointer (some a)) (.pointer (some b))).run P w = .ok false w := fun d => by
    simp [Op.equalIn, run_underlying hk, sizeOf, typeInfo, hte, hsz, run_sameAddr_other w hne ha hb]
  simp [Op.equal, Op.maxDepth, h 9999]
theorem run_asking (hk : P.underlying k = some (.pointer te)) (hte : P.info? te = some j) (hsz : j.size ≠ 0) (a : Addr) (ha : Plain w a.block) : ∀ (es : List MapEntry) (L : List (Addr × Nat)) (i : Nat), Holds es L → (∀ p ∈ L, Plain w p.1.block) →
    (∃ (n d : Nat), L[n]? = some (a, d) ∧ (Instr.findAsking k (.pointer (some a)) es i).run P w = .ok (some (i + n, .int .i64 (d : Int))) w) ∨ ((∀ p ∈ L, p.1 ≠ a) ∧ (Instr.findAsking k (.pointer (some a)) es i).run P w = .ok none w)
  | [], L, i, h, _ => by
    have : L = [] := by
      unfold Holds at h
      cases L with
      | nil => rfl
      | cons p r => simp at h
    subst this
    exact Or.inr ⟨fun p hp => by simp at hp, by simp [Instr.findAsking]⟩
  | e :: es, L, i, h, hp => by
    unfold Holds at h
    cases L with
    | nil => simp at h
    | cons p r =>
      simp only [List.map_cons, List.cons.injEq, entry, Prod.mk.injEq] at h
      obtain ⟨⟨h1, h2⟩, h3⟩ := h
      by_cases hpa : a = p.1
      · refine Or.inl ⟨0, p.2, by rw [List.getElem?_cons_zero, hpa], ?_⟩
        rw [Instr.findAsking, h1, ← hpa]
        simp [run_equal_same hk hte hsz, h2]
      · have hne := run_equal_other (w := w) hk hte hsz hpa ha (hp p (by simp))
        rcases run_asking hk hte hsz a ha es r (i + 1) h3 (fun q hq => hp q (List.mem_cons_of_mem _ hq)) with ⟨n, d, g1, g2⟩ | ⟨g1, g2⟩
        · refine Or.inl ⟨n + 1, d, by simpa using g1, ?_⟩
          rw [Instr.findAsking, h1]
          simp [hne, g2]
          omega
        · refine Or.inr ⟨fun q hq => ?_, ?_⟩
          · rcases List.mem_cons.1 hq with rfl | hq
            · exact fun e => hpa e.symm
            · exact g1 q hq
          · rw [Instr.findAsking, h1]
            simp [hne, g2]
theorem run_key (hk : P.underlying k = some (.pointer te)) (hte : P.info? te = some j) (hsz : j.size ≠ 0) (a : Addr) (ha : Plain w a.block) (es : List MapEntry) (L : List (Addr × Nat)) (h : Holds es L) (hp : ∀ p ∈ L, Plain w p.1.block) :
    (∃ (n d : Nat), L[n]? = some (a, d) ∧ (Instr.findKey k (.pointer (some a)) es).run P w = .ok (some (n, .int .i64 (d : Int))) w) ∨ ((∀ p ∈ L, p.1 ≠ a) ∧ (Instr.findKey k (.pointer (some a)) es).run P w = .ok none w) := by
  have hn : es = [] ∨ Instr.findNow (.pointer te) (.pointer (some a)) es 0 = none := by
    cases es with
    | nil => exact Or.inl rfl
    | cons e r => right; simp [Instr.findNow, Instr.sameNow]
  have key : (Instr.findKey k (.pointer (some a)) es).run P w = (Instr.findAsking k (.pointer (some a)) es 0).run P w := by
    rcases hn with rfl | hn
    · simp [Instr.findKey, run_underlying hk, Instr.findNow, Instr.findAsking]
    · simp [Instr.findKey, run_underlying hk, hn]
  rw [key]
  rcases run_asking hk hte hsz a ha es L 0 h hp with ⟨n, d, g1, g2⟩ | g
  · exact Or.inl ⟨n, d, g1, by rw [g2, Nat.zero_add]⟩
  · exact Or.inr g
theorem run_checkKey (hk : P.underlying k = some (.pointer te)) (b : Bool) (a : Option Addr) : (Instr.checkKey b 10000 k (.pointer a)).run P w = .ok () w := by
  have h : ∀ m : Nat, (Instr.checkKey b (m + 1) k (.pointer a)).run P w = .ok () w := fun m => by
    simp [Instr.checkKey, run_underlying hk]
  exact h 9999
/-- A map of the call's own: these entries, in their order; each key's block is plain. -/
def PMap (w : World) (mb : Nat) (L : List (Addr × Nat)) : Prop := (∃ es clock, w.heap[mb]? = some (.map es clock) ∧ Holds es.toList L) ∧ ∀ p ∈ L, Plain w p.1.block
theorem PMap.look {t e : TypeId} {mb : Nat} {L : List (Addr × Nat)} (h : PMap w mb L) (ht : P.underlying t = some (.map k e)) (hk : P.underlying k = some (.pointer te)) (hte : P.info? te = some j) (hsz : j.size ≠ 0) (hz : (zeroValue e).run P w = .ok (.int .i64 0) w) (a : Addr) (ha : Plain w a.block) :
    (∃ d : Nat, (a, d) ∈ L ∧ (Instr.lookup t (.map (some mb)) (.pointer (some a)) true).run P w = .ok (.tuple #[.int .i64 (d : Int), .bool true]) w) ∨ (Instr.lookup t (.map (some mb)) (.pointer (some a)) true).run P w = .ok (.tuple #[.int .i64 0, .bool false]) w := by
  obtain ⟨⟨es, clock, hb, hh⟩, hp⟩ := h
  rcases run_key hk hte hsz a ha es.toList L hh hp with ⟨n, d, g1, g2⟩ | ⟨g1, g2⟩
  · refine Or.inl ⟨d, List.mem_of_getElem? g1, ?_⟩
    simp [Instr.lookup, run_underlying ht, MapKept.run_getObj_map hb, run_checkKey hk, g2]
  · refine Or.inr ?_
    simp [Instr.lookup, run_underlying ht, MapKept.run_getObj_map hb, run_checkKey hk, g2, hz]
theorem grown_put (w : World) (b : Nat) (o : Obj) : w.grownBy { w with heap := w.heap.setIfInBounds b o } (some b) :=
  ⟨rfl, rfl, rfl, by simp, fun i _ hne => by
    show (w.heap.setIfInBounds b o)[i]? = w.heap[i]?
    rw [Array.getElem?_setIfInBounds]
    rw [if_neg (fun e => hne (by rw [e]))]⟩
theorem PMap.put {t e : TypeId} {mb : Nat} {L : List (Addr × Nat)} (h : PMap w mb L) (ht : P.underlying t = some (.map k e)) (hk : P.underlying k = some (.pointer te)) (hte : P.info? te = some j) (hsz : j.size ≠ 0) (a : Addr) (ha : Plain w a.block) (d : Nat) :
    ∃ L' w', (Instr.mapUpdate t (.map (some mb)) (.pointer (some a)) (.int .i64 (d : Int))).run P w = .ok () w' ∧ PMap w' mb L' ∧ w.grownBy w' (some mb) ∧ ∀ p ∈ L', p ∈ L ∨ p = (a, d) := by
  obtain ⟨⟨es, clock, hb, hh⟩, hp⟩ := h
  have hlt := (Array.getElem?_eq_some_iff.1 hb).1
  have kp : ∀ (o : Obj) {k : Nat}, Plain w k → Plain { w with heap := w.heap.setIfInBounds mb o } k := fun o k hk => by
    obtain ⟨c, ty, e⟩ := hk
    have hne : k ≠ mb := fun e' => by rw [e', hb] at e; cases e
    exact ⟨c, ty, ((grown_put w mb o).block k (Array.getElem?_eq_some_iff.1 e).1 (by simpa using hne)).trans e⟩
  have hat : ∀ o : Obj, ({ w with heap := w.heap.setIfInBounds mb o } : World).heap[mb]? = some o := fun o => by
    show (w.heap.setIfInBounds mb o)[mb]? = some o
    rw [Array.getElem?_setIfInBounds]
    simp [hlt]
  rcases run_key hk hte hsz a ha es.toList L hh hp with ⟨n, d0, g1, g2⟩ | ⟨g1, g2⟩
  · have hn : n < L.length := (List.getElem?_eq_some_iff.1 g1).1
    have hlen : es.toList.length = L.length := by
      have := congrArg List.length hh
      simpa using this
    have hk2 : ((es[n]?).map (·.key)).getD (.pointer (some a)) = .pointer (some a) := by
      have := congrArg (fun l => l[n]?) hh
      simp only [List.getElem?_map, g1, Option.map_some, entry] at this
      rw [Array.getElem?_toList] at this
      cases he : es[n]? with
      | none => rfl
      | some e0 =>
        rw [he] at this
        simp at this
        simp [this.1]
    refine ⟨L.set n (a, d), _, ?_, ⟨⟨es.modify n fun e => { e with key := .pointer (some a), val := .int .i64 (d : Int) }, clock, hat _, ?_⟩, fun p hpm => kp _ ?_⟩, grown_put w mb _, fun p hpm => ?_⟩
    · simp [Instr.mapUpdate, run_underlying ht, MapKept.run_getObj_map hb, run_checkKey hk, g2, hk2, Instr.keyThatStays, Instr.sameBits, MapKept.run_setObj_map _ hb]
    · unfold Holds
      apply List.ext_getElem?
      intro i
      have hi := congrArg (fun l => l[i]?) hh
      simp only [List.getElem?_map] at hi ⊢
      rw [Array.getElem?_toList] at hi ⊢
      rw [Array.getElem?_modify, List.getElem?_set]
      by_cases e : n = i
      · subst e
        rw [if_pos rfl, if_pos rfl, if_pos hn]
        cases he : es[n]? with
        | none => rw [he, g1] at hi; simp at hi
        | some e0 => simp [entry]
      · rw [if_neg e, if_neg e]
        exact hi
    · rcases List.mem_or_eq_of_mem_set hpm with h1 | h1
      · exact hp p h1
      · rw [h1]; exact ha
    · rcases List.mem_or_eq_of_mem_set hpm with h1 | h1
      · exact Or.inl h1
      · exact Or.inr h1
  · refine ⟨L ++ [(a, d)], _, ?_, ⟨⟨es.push { key := .pointer (some a), val := .int .i64 (d : Int), born := clock }, clock + 1, hat _, ?_⟩, fun p hpm => kp _ ?_⟩, grown_put w mb _, fun p hpm => ?_⟩
    · simp [Instr.mapUpdate, run_underlying ht, MapKept.run_getObj_map hb, run_checkKey hk, g2, MapKept.run_setObj_map _ hb]
    · unfold Holds at hh ⊢
      rw [Array.toList_push, List.map_append, List.map_append, hh]
      rfl
    · rcases List.mem_append.1 hpm with h1 | h1
      · exact hp p h1
      · simp at h1; rw [h1]; exact ha
    · rcases List.mem_append.1 hpm with h1 | h1
      · exact Or.inl h1
      · simp at h1; exact Or.inr h1
theorem wpList_look_run {ops : Array Oper} {rest : List Oper} {o : Oper} {a : Act} {Q : Exit → Act → World → Prop} (hg : o.guard = none) (m x : Operand) (t : TypeId) (hop : o.op = Op.lookup t m x true) {M X r : Value} (hm : a.eval m = M) (hx : a.eval x = X)
    (hrun : (Instr.lookup t M X true).run P w = .ok r w) (hK : wpList P ops Q rest (a.put o.dst r) w) : wpList P ops Q (o :: rest) a w := by
  refine wpList_plain hg fun K' hK' => ?_
  unfold Oper.wp
  simp [execOp, hop, hm, hx, hrun, Result.andThen]
  exact hK' _ _ hK
theorem wpList_put_run {w' : World} {ops : Array Oper} {rest : List Oper} {o : Oper} {a : Act} {Q : Exit → Act → World → Prop} (hg : o.guard = none) (m x v : Operand) (t : TypeId) (hop : o.op = Op.mapUpdate t m x v) {M X V : Value} (hm : a.eval m = M) (hx : a.eval x = X) (hv : a.eval v = V)
    (hrun : (Instr.mapUpdate t M X V).run P w = .ok () w') (hK : wpList P ops Q rest (a.put o.dst undef) w') : wpList P ops Q (o :: rest) a w := by
  refine wpList_plain hg fun K' hK' => ?_
  unfold Oper.wp
  simp [execOp, hop, hm, hx, hv, hrun, Result.andThen]
  exact hK' _ _ hK
end
end Go.Proofs.Ythikbenfhaglkaa
