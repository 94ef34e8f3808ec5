import Derived.Test.YtaojalicnnnkmaaGreatDoorHgaam
import Derived.Laws.StructEq
import Derived.Test.YtaojalicnnnkmaaGreatDoorHgaaa
import Derived.Test.YtaojalicnnnkmaaGreatDoorHgaaj
set_option linter.unusedVariables false
set_option linter.unusedSimpArgs false
/- Maps whose keys are places of rows of goals (an address and a number), made and asked in one call. -/
namespace Go.Proofs.YtaojalicnnnkmaaGreatDoor
open Go.RowKit
set_option linter.unusedVariables false

abbrev Key := Addr × Nat
abbrev keyV (k : Key) : Value := .agg #[.pointer (some k.1), .int .i64 (k.2 : Int)]
abbrev kent (p : Key × Value) : Value × Value := (keyV p.1, p.2)
/-- The entries, in their order. -/
def HoldsK (es : List MapEntry) (L : List (Key × Value)) : Prop := es.map (fun e => (e.key, e.val)) = L.map kent
/-- What the first entry of that key holds. -/
def lookK (k : Key) : List (Key × Value) → Option Value
  | [] => none
  | p :: r => if p.1 = k then some p.2 else lookK k r
section
variable {w : World}
theorem infoGoalP : ∃ j, Tryz.prog.info? 35 = some j ∧ j.size ≠ 0 := by
  have h : (Tryz.prog.info? 35).map (fun i => i.size) = some 6 := by kernel_rfl
  cases hi : Tryz.prog.info? 35 with
  | none => rw [hi] at h; cases h
  | some j => rw [hi] at h; exact ⟨j, rfl, by simp at h; omega⟩
theorem eqPtr (a b : Addr) (ha : Plain w a.block) (hb : Plain w b.block) (d : Nat) : (Op.equalIn (d + 1) 95 (.pointer (some a)) (.pointer (some b))).run Tryz.prog w = .ok (decide (a = b)) w := by
  obtain ⟨j, hte, hsz⟩ := infoGoalP
  have hk := Tryz.underlying95
  by_cases h : a = b
  · subst h
    simp [Op.equalIn, run_underlying hk, sizeOf, typeInfo, hte, run_sameAddr_same]
  · obtain ⟨ca, ta, ha⟩ := ha
    obtain ⟨cb, tb, hb⟩ := hb
    simp [Op.equalIn, run_underlying hk, sizeOf, typeInfo, hte, hsz, run_sameAddr_other w h ha hb, h]
theorem eqKey (k k' : Key) (ha : Plain w k.1.block) (hb : Plain w k'.1.block) : (Op.equal 97 (keyV k) (keyV k')).run Tryz.prog w = .ok (decide (k = k')) w := by
  have hS : Tryz.prog.underlying 97 = some (.struct (Tryz.prog.fieldsOf 97)) := by kernel_rfl
  have hp : Tryz.prog.stoodInHeld 97 = false := by kernel_rfl
  have h1 := eqPtr (w := w) k.1 k'.1 ha hb 9998
  have h2 := run_equalIn_int (P := Tryz.prog) w 9998 3 .i64 .i64 (k.2 : Int) (k'.2 : Int) Tryz.underlying3
  have z1 := Tryz.sizeOf95
  have z2 := Tryz.sizeOf3
  have a1 := Tryz.isAgg95
  have a2 := Tryz.isAgg3
  show (Op.equalIn 10000 _ _ _).run _ w = _
  rw [show (10000 : Nat) = 9999 + 1 from rfl, run_equalIn_agg w 9999 97 _ _ hS hp]
  simp only [Program.fieldsOf, Tryz.underlying97]
  go_simp
  by_cases e1 : k.1 = k'.1
  · by_cases e2 : k.2 = k'.2
    · have : k = k' := Prod.ext e1 e2
      simp [this]
    · have : k ≠ k' := fun e => e2 (by rw [e])
      have e3 : ¬ (k.2 : Int) = (k'.2 : Int) := by omega
      simp [e1, e3, this]
  · have : k ≠ k' := fun e => e1 (by rw [e])
    simp [e1, this]
theorem checkK (b : Bool) (k : Key) : (Instr.checkKey b 10000 97 (keyV k)).run Tryz.prog w = .ok () w := by
  have hS : Tryz.prog.underlying 97 = some (.struct (Tryz.prog.fieldsOf 97)) := by kernel_rfl
  have z1 := Tryz.sizeOf95
  have z2 := Tryz.sizeOf3
  have a1 := Tryz.isAgg95
  have a2 := Tryz.isAgg3
  have u1 := run_underlying (w := w) Tryz.underlying95
  have u2 := run_underlying (w := w) Tryz.underlying3
  have p1 : (part 95 #[.pointer (some k.1), .int .i64 (k.2 : Int)] 0).run Tryz.prog w = .ok (.pointer (some k.1)) w := by go_simp
  have p2 : (part 3 #[.pointer (some k.1), .int .i64 (k.2 : Int)] 1).run Tryz.prog w = .ok (.int .i64 (k.2 : Int)) w := by go_simp
  have c1 : (Instr.checkKey b 9999 95 (.pointer (some k.1))).run Tryz.prog w = .ok () w := by
    rw [show (9999 : Nat) = 9998 + 1 from rfl, Instr.checkKey]
    simp [u1]
  have c2 : (Instr.checkKey b 9999 3 (.int .i64 (k.2 : Int))).run Tryz.prog w = .ok () w := by
    rw [show (9999 : Nat) = 9998 + 1 from rfl, Instr.checkKey]
    simp [u2]
  rw [show (10000 : Nat) = 9999 + 1 from rfl, Instr.checkKey]
  simp only [Sem.run_bind, run_underlying Tryz.underlying97, Result.andThen_ok, ← Array.forIn_toList, List.forIn_cons, List.forIn_nil, Sem.run_pure]
  simp [p1, p2, c1, c2]
theorem askK (k : Key) (hk : Plain w k.1.block) : ∀ (es : List MapEntry) (L : List (Key × Value)) (i : Nat), HoldsK es L → (∀ p ∈ L, Plain w p.1.1.block) →
    (∃ (n : Nat) (v : Value), L[n]? = some (k, v) ∧ lookK k L = some v ∧ (∀ v', ∀ k', lookK k' (L.set n (k, v')) = if k' = k then some v' else lookK k' L) ∧ (Instr.findAsking 97 (keyV k) es i).run Tryz.prog w = .ok (some (i + n, v)) w) ∨ (lookK k L = none ∧ (Instr.findAsking 97 (keyV k) es i).run Tryz.prog w = .ok none w)
  | [], L, i, h, _ => by
    have : L = [] := by
      unfold HoldsK at h
      cases L with
      | nil => rfl
      | cons p r => simp at h
    subst this
    exact Or.inr ⟨rfl, by simp [Instr.findAsking]⟩
  | e :: es, L, i, h, hp => by
    unfold HoldsK at h
    cases L with
    | nil => simp at h
    | cons p r =>
      simp only [List.map_cons, List.cons.injEq, kent, Prod.mk.injEq] at h
      obtain ⟨⟨h1, h2⟩, h3⟩ := h
      have hq := eqKey (w := w) k p.1 hk (hp p (by simp))
      by_cases hpk : p.1 = k
      · refine Or.inl ⟨0, p.2, by rw [List.getElem?_cons_zero, ← hpk], by rw [lookK, if_pos hpk], fun v' k' => ?_, ?_⟩
        · rw [List.set_cons_zero, lookK, lookK]
          by_cases e2 : k' = k
          · rw [if_pos e2.symm, if_pos e2]
          · rw [if_neg (fun e => e2 e.symm), if_neg e2, if_neg (fun e => e2 (by rw [← e, hpk]))]
        · rw [Instr.findAsking, h1]
          rw [decide_eq_true hpk.symm] at hq
          simp [hq, h2]
      · have hq2 : ¬ k = p.1 := fun e => hpk e.symm
        rw [decide_eq_false hq2] at hq
        rcases askK k hk es r (i + 1) h3 (fun q hq => hp q (List.mem_cons_of_mem _ hq)) with ⟨n, d, g0, g1, g2, g3⟩ | ⟨g1, g3⟩
        · refine Or.inl ⟨n + 1, d, by simpa using g0, by rw [lookK, if_neg hpk]; exact g1, fun v' k' => ?_, ?_⟩
          · rw [List.set_cons_succ, lookK, lookK, g2 v' k']
            by_cases e2 : k' = k
            · rw [if_pos e2, if_neg (fun e => hpk (e.trans e2)), if_pos e2]
            · rw [if_neg e2, if_neg e2]
          · rw [Instr.findAsking, h1]
            simp [hq, g3]
            omega
        · refine Or.inr ⟨by rw [lookK, if_neg hpk]; exact g1, ?_⟩
          rw [Instr.findAsking, h1]
          simp [hq, g3]
theorem findK (k : Key) (hk : Plain w k.1.block) (es : List MapEntry) (L : List (Key × Value)) (h : HoldsK es L) (hp : ∀ p ∈ L, Plain w p.1.1.block) :
    (∃ (n : Nat) (v : Value), L[n]? = some (k, v) ∧ lookK k L = some v ∧ (∀ v', ∀ k', lookK k' (L.set n (k, v')) = if k' = k then some v' else lookK k' L) ∧ (Instr.findKey 97 (keyV k) es).run Tryz.prog w = .ok (some (n, v)) w) ∨ (lookK k L = none ∧ (Instr.findKey 97 (keyV k) es).run Tryz.prog w = .ok none w) := by
  have key : (Instr.findKey 97 (keyV k) es).run Tryz.prog w = (Instr.findAsking 97 (keyV k) es 0).run Tryz.prog w := by
    cases es with
    | nil => simp [Instr.findKey, run_underlying Tryz.underlying97, Instr.findNow, Instr.findAsking]
    | cons e r => simp [Instr.findKey, run_underlying Tryz.underlying97, Instr.findNow, Instr.sameNow]
  rw [key]
  rcases askK k hk es L 0 h hp with ⟨n, d, g0, g1, g2, g3⟩ | g
  · exact Or.inl ⟨n, d, g0, g1, g2, by rw [g3, Nat.zero_add]⟩
  · exact Or.inr g
/-- A map of the call's own: these entries, in their order; each key's block is plain. -/
def KMap (w : World) (mb : Nat) (L : List (Key × Value)) : Prop := (∃ es clock, w.heap[mb]? = some (.map es clock) ∧ HoldsK es.toList L) ∧ ∀ p ∈ L, Plain w p.1.1.block
theorem KMap.look {mt et : TypeId} {z : Value} {mb : Nat} {L : List (Key × Value)} (h : KMap w mb L) (ht : Tryz.prog.underlying mt = some (.map 97 et)) (hz : (zeroValue et).run Tryz.prog w = .ok z w) (k : Key) (hk : Plain w k.1.block) :
    (∃ v, lookK k L = some v ∧ (Instr.lookup mt (.map (some mb)) (keyV k) true).run Tryz.prog w = .ok (.tuple #[v, .bool true]) w) ∨ (lookK k L = none ∧ (Instr.lookup mt (.map (some mb)) (keyV k) true).run Tryz.prog w = .ok (.tuple #[z, .bool false]) w) := by
  obtain ⟨⟨es, clock, hb, hh⟩, hp⟩ := h
  rcases findK k hk es.toList L hh hp with ⟨n, d, g0, g1, g2, g3⟩ | ⟨g1, g2⟩
  · refine Or.inl ⟨d, g1, ?_⟩
    simp [Instr.lookup, run_underlying ht, MapKept.run_getObj_map hb, checkK, g3]
  · refine Or.inr ⟨g1, ?_⟩
    simp [Instr.lookup, run_underlying ht, MapKept.run_getObj_map hb, checkK, g2, hz]
theorem lookK_push (k : Key) (v : Value) (k' : Key) : ∀ {L : List (Key × Value)}, lookK k L = none → lookK k' (L ++ [(k, v)]) = if k' = k then some v else lookK k' L
  | [], _ => by
    rw [List.nil_append, lookK, lookK]
    by_cases e : k' = k
    · rw [if_pos e.symm, if_pos e]
    · rw [if_neg (fun h => e h.symm), if_neg e]
      rfl
  | p :: r, h => by
    rw [lookK] at h
    by_cases hp : p.1 = k
    · rw [if_pos hp] at h; cases h
    · rw [if_neg hp] at h
      rw [List.cons_append, lookK, lookK, lookK_push k v k' h]
      by_cases e : k' = k
      · rw [if_neg (fun h => hp (h.trans e)), if_pos e, if_pos e]
      · rw [if_neg e, if_neg e]
theorem KMap.put {mt et : TypeId} {mb : Nat} {L : List (Key × Value)} (h : KMap w mb L) (ht : Tryz.prog.underlying mt = some (.map 97 et)) (k : Key) (hk : Plain w k.1.block) (v : Value) :
    ∃ L' w', (Instr.mapUpdate mt (.map (some mb)) (keyV k) v).run Tryz.prog w = .ok () w' ∧ KMap w' mb L' ∧ w.grownBy w' (some mb) ∧ ∀ k', lookK k' L' = if k' = k then some v else lookK k' L := by
  obtain ⟨⟨es, clock, hb, hh⟩, hp⟩ := h
  have hlt := (Array.getElem?_eq_some_iff.1 hb).1
  have kp : ∀ (o : Obj) {k : Nat}, Plain w k → Plain { w with heap := w.heap.setIfInBounds mb o } k := fun o k hk => by
    obtain ⟨c, ty, e⟩ := hk
    have hne : k ≠ mb := fun e' => by rw [e', hb] at e; cases e
    exact ⟨c, ty, ((grown_put w mb o).block k (Array.getElem?_eq_some_iff.1 e).1 (by simpa using hne)).trans e⟩
  have hat : ∀ o : Obj, ({ w with heap := w.heap.setIfInBounds mb o } : World).heap[mb]? = some o := fun o => by
    show (w.heap.setIfInBounds mb o)[mb]? = some o
    rw [Array.getElem?_setIfInBounds]
    simp [hlt]
  rcases findK k hk es.toList L hh hp with ⟨n, d0, g0, g1, g2, g3⟩ | ⟨g1, g2⟩
  · have hn : n < L.length := (List.getElem?_eq_some_iff.1 g0).1
    have hk0 : ((es[n]?).map (·.key)).getD (keyV k) = keyV k := by
      have := congrArg (fun l => l[n]?) hh
      simp only [List.getElem?_map, g0, Option.map_some, kent] at this
      rw [Array.getElem?_toList] at this
      cases he : es[n]? with
      | none => rfl
      | some e0 =>
        rw [he] at this
        simp at this
        simp [this.1]
    refine ⟨L.set n (k, v), _, ?_, ⟨⟨es.modify n fun e => { e with key := keyV k, val := v }, clock, hat _, ?_⟩, fun p hpm => kp _ ?_⟩, grown_put w mb _, g2 v⟩
    · simp [Instr.mapUpdate, run_underlying ht, MapKept.run_getObj_map hb, checkK, g3, hk0, Instr.keyThatStays, Instr.sameBits, MapKept.run_setObj_map _ hb]
    · unfold HoldsK
      apply List.ext_getElem?
      intro i
      have hi := congrArg (fun l => l[i]?) hh
      simp only [List.getElem?_map] at hi ⊢
      rw [Array.getElem?_toList] at hi ⊢
      rw [Array.getElem?_modify, List.getElem?_set]
      by_cases e : n = i
      · subst e
        rw [if_pos rfl, if_pos rfl, if_pos hn]
        cases he : es[n]? with
        | none => rw [he, g0] at hi; simp at hi
        | some e0 => simp [kent]
      · rw [if_neg e, if_neg e]
        exact hi
    · rcases List.mem_or_eq_of_mem_set hpm with h1 | h1
      · exact hp p h1
      · rw [h1]; exact hk
  · refine ⟨L ++ [(k, v)], _, ?_, ⟨⟨es.push { key := keyV k, val := v, born := clock }, clock + 1, hat _, ?_⟩, fun p hpm => kp _ ?_⟩, grown_put w mb _, fun k' => lookK_push k v k' g1⟩
    · simp [Instr.mapUpdate, run_underlying ht, MapKept.run_getObj_map hb, checkK, g2, MapKept.run_setObj_map _ hb]
    · unfold HoldsK at hh ⊢
      rw [Array.toList_push, List.map_append, List.map_append, hh]
      rfl
    · rcases List.mem_append.1 hpm with h1 | h1
      · exact hp p h1
      · simp at h1; rw [h1]; exact hk
end
end Go.Proofs.YtaojalicnnnkmaaGreatDoor
/- Package body: Count, walked: rows that were met are noted by their places. -/
namespace Go.Proofs.YtaojalicnnnkmaaGreatDoor
open Go.RowKit
set_option linter.unusedVariables false

theorem KMap.below {w w' : World} {mb : Nat} {L : List (Key × Value)} (h : KMap w mb L) (hb : Below w.heap.size w w') : KMap w' mb L := by
  obtain ⟨⟨es, clock, h1, h2⟩, h3⟩ := h
  exact ⟨⟨es, clock, (hb.block mb (Array.getElem?_eq_some_iff.1 h1).1).trans h1, h2⟩, fun p hp => (h3 p hp).below hb⟩
theorem KMap.lt {w : World} {mb : Nat} {L : List (Key × Value)} (h : KMap w mb L) : mb < w.heap.size := by
  obtain ⟨⟨es, clock, h1, h2⟩, h3⟩ := h
  exact (Array.getElem?_eq_some_iff.1 h1).1
theorem grown_bel {w w' : World} {row : Option Nat} (h : Below w.heap.size w w') : w.grownBy w' row := ⟨h.os, h.tape, h.output, h.size, fun k hk _ => h.block k hk⟩
theorem grown_trans {a b c : World} {row : Option Nat} (h : a.grownBy b row) (g : b.grownBy c row) : a.grownBy c row :=
  ⟨g.os.trans h.os, g.tape.trans h.tape, g.output.trans h.output, Nat.le_trans h.size g.size, fun k hk hn => (g.block k (Nat.lt_of_lt_of_le hk h.size) hn).trans (h.block k hk hn)⟩
theorem grown_base {W w w' : World} {mb : Nat} (hmb : W.heap.size ≤ mb) (h : Below W.heap.size W w) (g : w.grownBy w' (some mb)) : Below W.heap.size W w' := h.grown g h.size (fun k e => by cases e; exact hmb)
theorem Box.grown {w w' : World} {b mb : Nat} {vs : List Value} (h : Box w b vs) (g : w.grownBy w' (some mb)) (hne : b ≠ mb) : Box w' b vs :=
  h.block (g.block b h.lt (fun e => by cases e; exact hne rfl)) (Nat.lt_of_lt_of_le h.lt g.size)
/-- There lies this row. -/
def GRowAt (W : World) (l : List Gl) (k : Key) : Prop := l.length = k.2 ∧ ∃ b off, k.1 = ⟨b, off, none⟩ ∧ Plain W b ∧ SkRow W l b off
theorem GRowAt.same {W : World} {l l' : List Gl} {k : Key} (h : GRowAt W l k) (h' : GRowAt W l' k) : cntL l = cntL l' ∧ cutL l = cutL l' := by
  obtain ⟨h1, b, off, h2, _, h3⟩ := h
  obtain ⟨g1, b', off', g2, _, g3⟩ := h'
  rw [h2] at g2
  cases g2
  exact SkRow.same l l' b off (h1.trans g1.symm) h3 g3
/-- What is noted is right, or of a row that is greater. -/
def Notes (R : Key → Value → Prop) (W : World) (L : List (Key × Value)) (n : Nat) : Prop := ∀ k d, lookK k L = some d → R k d ∨ ∃ l', GRowAt W l' k ∧ n < cntL l'
/-- What was noted, or is right. -/
def After (R : Key → Value → Prop) (L L' : List (Key × Value)) : Prop := ∀ k d, lookK k L' = some d → lookK k L = some d ∨ R k d
theorem After.refl (R : Key → Value → Prop) (L : List (Key × Value)) : After R L L := fun k d h => Or.inl h
theorem After.trans {R : Key → Value → Prop} {L L' L2 : List (Key × Value)} (h : After R L L') (g : After R L' L2) : After R L L2 := fun k d hk => (g k d hk).elim (h k d) Or.inr
theorem Notes.after {R : Key → Value → Prop} {W : World} {L L' : List (Key × Value)} {n m : Nat} (h : Notes R W L n) (g : After R L L') (hm : m ≤ n) : Notes R W L' m := fun k d hk => by
  rcases g k d hk with h1 | h1
  · rcases h k d h1 with h2 | ⟨l', h2, h3⟩
    · exact Or.inl h2
    · exact Or.inr ⟨l', h2, by omega⟩
  · exact Or.inl h1
/-- A row is being gone through. -/
theorem Notes.put {R : Key → Value → Prop} {W : World} {L L' : List (Key × Value)} {n m : Nat} {k : Key} {v : Value} {l : List Gl} (h : Notes R W L n) (hp : ∀ k', lookK k' L' = if k' = k then some v else lookK k' L) (hl : GRowAt W l k) (hc : cntL l = n) (hm : m < n) : Notes R W L' m := fun k' d hk => by
  rw [hp] at hk
  by_cases e : k' = k
  · subst e
    exact Or.inr ⟨l, hl, by omega⟩
  · rw [if_neg e] at hk
    rcases h k' d hk with h2 | ⟨l', h2, h3⟩
    · exact Or.inl h2
    · exact Or.inr ⟨l', h2, by omega⟩
/-- It has been gone through. -/
theorem After.done {R : Key → Value → Prop} {L L1 L2 L3 : List (Key × Value)} {k : Key} {v v' : Value} (h1 : ∀ k', lookK k' L1 = if k' = k then some v else lookK k' L) (h2 : After R L1 L2) (h3 : ∀ k', lookK k' L3 = if k' = k then some v' else lookK k' L2) (hr : R k v') : After R L L3 := fun k' d hk => by
  rw [h3] at hk
  by_cases e : k' = k
  · rw [if_pos e] at hk
    injection hk with hk
    rw [e, ← hk]
    exact Or.inr hr
  · rw [if_neg e] at hk
    rcases h2 k' d hk with g | g
    · rw [h1, if_neg e] at g
      exact Or.inl g
    · exact Or.inr g
def RightC (W : World) (k : Key) (d : Value) : Prop := ∃ l', GRowAt W l' k ∧ d = .int .i64 (cntL l' : Nat)
def RightU (W : World) (k : Key) (d : Value) : Prop := d = .agg #[] ∧ ∃ l', GRowAt W l' k ∧ cutL l' = false
def AllU (L : List (Key × Value)) : Prop := ∀ k d, lookK k L = some d → d = .agg #[]
theorem AllU.after {W : World} {L L' : List (Key × Value)} (h : AllU L) (g : After (RightU W) L L') : AllU L' := fun k d hk => (g k d hk).elim (h k d) (·.1)
theorem AllU.put {L L' : List (Key × Value)} {k : Key} (h : AllU L) (hp : ∀ k', lookK k' L' = if k' = k then some (.agg #[]) else lookK k' L) : AllU L' := fun k' d hk => by
  rw [hp] at hk
  by_cases e : k' = k
  · rw [if_pos e] at hk; injection hk with hk; exact hk.symm
  · rw [if_neg e] at hk; exact h k' d hk
theorem GoalsK.at {W : World} {l : List Gl} {a : Option Addr} {m c : Nat} (hs : SkV W l (.slice a m c)) (hm : 0 < m) : ∃ b off, a = some ⟨b, off, none⟩ ∧ GRowAt W l (⟨b, off, none⟩, m) := by
  obtain ⟨a', c', e, h⟩ := hs
  injection e with e1 e2 e3
  subst e1
  rcases h with rfl | ⟨b, off, rfl, h1, h2⟩
  · simp at e2; omega
  · exact ⟨b, off, rfl, e2.symm, b, off, rfl, h1, h2⟩
theorem zeroIB (w : World) : (zeroValue 3).run Tryz.prog w = .ok (.int .i64 0) w := by kernel_rfl
/-- The rows within, as they lie. -/
theorem SkV.row {W : World} {l : List Gl} {a : Option Addr} {m c : Nat} (hs : SkV W l (.slice a m c)) {i : Nat} {g : Gl} (hg : l[i]? = some g) {b off : Nat} (ha : a = some ⟨b, off, none⟩) {v : Value} (hc : W.cell? ⟨b, off + i * 6 + 5, none⟩ = some v) : SkW W g.l v := by
  obtain ⟨a', c', e, h⟩ := hs
  injection e with e1 e2 e3
  subst e1
  rcases h with rfl | ⟨b', off', e4, h1, h2⟩
  · simp at hg
  · rw [ha] at e4
    cases e4
    obtain ⟨v', g1, g2, g3⟩ := h2.get i g hg
    rw [hc] at g2
    cases g2
    exact g3
theorem SkW.row {W : World} {ls : List (List Gl)} {a : Option Addr} {m c : Nat} (hs : SkW W ls (.slice a m c)) {i : Nat} {l : List Gl} (hg : ls[i]? = some l) {b off : Nat} (ha : a = some ⟨b, off, none⟩) {v : Value} (hc : W.cell? ⟨b, off + i, none⟩ = some v) : SkV W l v := by
  obtain ⟨a', c', e, h⟩ := hs
  injection e with e1 e2 e3
  subst e1
  rcases h with rfl | ⟨b', off', e4, h2⟩
  · simp at hg
  · rw [ha] at e4
    cases e4
    obtain ⟨v', g2, g3⟩ := h2.get i l hg
    rw [hc] at g2
    cases g2
    exact g3
def CrP (W w : World) (mb : Nat) (L : List (Key × Value)) (r : Value) (R : Key → Value → Prop) (e : Ending) (w' : World) : Prop := e = .returned r ∧ w.grownBy w' (some mb) ∧ ∃ L', KMap w' mb L' ∧ After R L L'
end Go.Proofs.YtaojalicnnnkmaaGreatDoor
/- Package body: counted.row, walked. -/
namespace Go.Proofs.YtaojalicnnnkmaaGreatDoor
open Go.RowKit
set_option linter.unusedVariables false

set_option maxHeartbeats 8000000 in
set_option maxRecDepth 100000 in
theorem crow_at {W : World} {mb : Nat} (hmb : W.heap.size ≤ mb) : ∀ (M : Nat) (l : List Gl), cntL l ≤ M → M ≤ 1000000 → ∀ (v : Value) (w : World) (L : List (Key × Value)), GoalsV W l v → SkV W l v → Below W.heap.size W w → KMap w mb L → Notes (RightC W) W L (cntL l) →
    Calls Tryz.prog 30 #[.map (some mb), v] w (CrP W w mb L (.int .i64 (cntL l : Nat)) (RightC W))
  | M, l, h, hM, v, w, L, hv, hs, hb, hk, hn => by
    obtain ⟨a, c, rfl, h1, h2, h3⟩ := hv.len
    unfold maxLen at h2
    have IH := Lib.hid (fun (r : List Gl) (hr : cntL r < M) => crow_at hmb (M - 1) r (by omega) (by omega))
    have HV := Lib.hid (And.intro hv hs)
    obtain ⟨m, hm⟩ : ∃ m, l.length = m := ⟨_, rfl⟩
    have HM := Lib.hid hm
    have hlen := cnt_len l
    obtain ⟨T, hT⟩ : ∃ T, cntL l = T := ⟨_, rfl⟩
    have HT := Lib.hid (And.intro hT (cnt_inn l))
    have HH := Lib.hid (show T ≤ M by omega)
    have HB := Lib.hid hb
    have HK := Lib.hid hk
    have HN := Lib.hid hn
    rw [hm] at h1 h3 HV ⊢
    rw [hT] at hlen HN ⊢
    have hmT : m ≤ T := by omega
    have hTM : T ≤ 1000000 := by omega
    by_cases h0 : m = 0
    · subst h0
      have : T = 0 := by
        obtain rfl : l = [] := List.length_eq_zero_iff.1 HM.out
        exact HT.out.1.symm
      subst this
      clear hv hs hb hk hn hm hT h hlen
      go_enter Tryz.func30, Tryz.ntmps30
      go_wp2
      go_ret
      exact ⟨rfl, grown_bel (Below.refl _ _), L, HK.out, After.refl _ _⟩
    obtain ⟨b, off, rfl, hrow⟩ := GoalsK.at HV.out.2 (by omega)
    have h0' : ((m : Int) == 0) = false := by apply beq_false_of_ne; omega
    have h0n : 0 < m := by omega
    obtain ⟨w1, e1, B1, z1, X1⟩ := box_new w #[.pointer (some ⟨b, off, none⟩), .int .i64 m] 97
    have HE := Lib.hid e1
    have HB1 := Lib.hid B1
    have HX1 := Lib.hid X1
    have HR := Lib.hid hrow
    have hpl : Plain w1 b := by
      obtain ⟨_, b', off', e, hp, _⟩ := hrow
      cases e
      exact (hp.below hb).below B1
    have look := (HK.out.below B1).look (mt := 70) Tryz.underlying70 (zeroIB w1) (⟨b, off, none⟩, m) hpl
    have HPL := Lib.hid hpl
    have x0 := X1.cells 0 _ rfl
    have x1 := X1.cells 1 _ rfl
    clear hv hs hb hk hn hm hT h hlen e1 B1 z1 X1 hrow hpl
    rcases look with ⟨d, hd, hrun⟩ | ⟨hd, hrun⟩
    · have hdt : d = .int .i64 (T : Nat) := by
        rcases HN.out _ _ hd with ⟨l', g1, g2⟩ | ⟨l', g1, g2⟩
        · rw [g2, (g1.same HR.out).1, HT.out.1]
        · have := (g1.same HR.out).1
          have := HT.out.1
          omega
      subst hdt
      clear hd
      go_enter Tryz.func30, Tryz.ntmps30
      go_wp2_with (at_lookup; (try rw [HE.out]); refine wpList_look_run rfl _ _ _ rfl rfl rfl hrun ?_)
      go_ret
      exact ⟨rfl, grown_bel HB1.out, L, HK.out.below HB1.out, After.refl _ _⟩
    · obtain ⟨L1, w2, hrun1, hk1, hg1, hl1⟩ := (HK.out.below HB1.out).put (mt := 70) Tryz.underlying70 (⟨b, off, none⟩, m) HPL.out (.int .i64 0)
      have HL1 := Lib.hid hl1
      have HK1 := Lib.hid (And.intro hk1 hg1)
      have HNE := Lib.hid (show w.heap.size ≠ mb by have := HK.out.lt; omega)
      have HBW1 := Lib.hid (Ext.trans' HB.out HB1.out)
      clear hl1 hk1 hg1 hd
      have HNN := Lib.hid (fun (r : List Gl) (L3 : List (Key × Value)) (ha : After (RightC W) L1 L3) (hr : cntL r < T) => (Notes.put HN.out HL1.out HR.out HT.out.1 hr).after ha (Nat.le_refl _))
      clear HN
      go_enter Tryz.func30, Tryz.ntmps30
      go_wp2_with (first | (at_lookup; (try rw [HE.out]); refine wpList_look_run rfl _ _ _ rfl rfl rfl hrun ?_) | (at_mapUpdate; refine wpList_put_run rfl _ _ _ _ rfl rfl rfl rfl hrun1 ?_) | fail)
      go_loopw [8, 35] (fun n i wr => ∃ (j z : Nat) (L2 : List (Key × Value)), j ≤ m ∧ i = .int .i64 j ∧ n = .int .i64 z ∧ Hid (z + innL (l.drop j) = T) ∧ Hid (w1.grownBy wr (some mb)) ∧ Hid (KMap wr mb L2 ∧ After (RightC W) L1 L2)) (fun _ i _ => m - (intOf i).toNat)
      case atStart => exact ⟨0, m, L1, Nat.zero_le _, rfl, rfl, Lib.hid (by rw [List.drop_zero, ← HT.out.1, HT.out.2, HM.out]), Lib.hid HK1.out.2, Lib.hid ⟨HK1.out.1, After.refl _ _⟩⟩
      case round =>
        obtain ⟨j, z, L2, hj, rfl, rfl, HZ, HG, HL2⟩ := hrel
        have HBR := Lib.hid (grown_base hmb HBW1.out HG.out)
        by_cases hjm : j < m
        · obtain ⟨g, hg⟩ : ∃ g, l[j]? = some g := ⟨_, List.getElem?_eq_getElem (by rw [HM.out]; exact hjm)⟩
          obtain ⟨b', off', kt, nt, st, at_, mt, ct, ar, mr, cr, e, _, d0, d1, d2, d3, d4, d5, _, _, hrows⟩ := HV.out.1.get hg
          have hsk := HV.out.2.row hg rfl (by cases e; exact d5)
          cases e
          have hgl : mr = g.l.length := by obtain ⟨_, _, e, _⟩ := hrows.len; cases e; rfl
          have hmrb : mr ≤ 9223372036854775807 := by obtain ⟨_, _, e, h5, h6, _⟩ := hrows.len; cases e; unfold maxLen at h6; omega
          have HRW := Lib.hid (And.intro hrows hsk)
          have HGG := Lib.hid (And.intro hg hgl)
          have hzz := HZ.out
          rw [inn_drop hg] at hzz
          have HZ2 := Lib.hid hzz
          have hjm2 : (j : Int) < m := by omega
          obtain ⟨kg, hkg⟩ : ∃ k, g.kind = k := ⟨_, rfl⟩
          rw [hkg] at d0
          replace d0 := cell_later HBR.out d0
          replace d1 := cell_later HBR.out d1
          replace d2 := cell_later HBR.out d2
          replace d3 := cell_later HBR.out d3
          replace d4 := cell_later HBR.out d4
          replace d5 := cell_later HBR.out d5
          obtain ⟨w3, e3, B3, z3, X3⟩ := box_new wr #[.int .i64 kg, .int .i64 kt, .int .i64 nt, .string st, .slice at_ mt ct, .slice ar mr cr] 35
          have HE3 := Lib.hid e3
          have HB3 := Lib.hid B3
          clear hrows hg hgl hzz hkg hsk e3 B3 z3 X3 HZ
          go_wp2_with fail
          (try rw [HE3.out])
          go_loopw [8, 42] (fun n i wx => ∃ (q y : Nat) (L3 : List (Key × Value)), q ≤ mr ∧ i = .int .i64 q ∧ n = .int .i64 y ∧ Hid (y + cntR (g.l.drop q) + innL (l.drop (j + 1)) = T) ∧ Hid (w3.grownBy wx (some mb)) ∧ Hid (KMap wx mb L3 ∧ After (RightC W) L1 L3)) (fun _ i _ => mr - (intOf i).toNat)
          case atStart => exact ⟨0, z, L2, Nat.zero_le _, rfl, rfl, Lib.hid (by rw [List.drop_zero]; have := HZ2.out; omega), Lib.hid (grown_bel (Below.refl _ _)), Lib.hid ⟨HL2.out.1.below HB3.out, HL2.out.2⟩⟩
          case round =>
            obtain ⟨q, y, L3, hq, rfl, rfl, HY, HGX, HL3⟩ := hrel
            have HBX := Lib.hid (grown_base hmb (Ext.trans' HBR.out HB3.out) HGX.out)
            clear d0 d1 d2 d3 d4 d5
            by_cases hqm : q < mr
            · obtain ⟨r, hr⟩ : ∃ r, g.l[q]? = some r := ⟨_, List.getElem?_eq_getElem (by rw [← HGG.out.2]; exact hqm)⟩
              obtain ⟨b2, off2, a2, c2, e, _, f0, hgv⟩ := HRW.out.1.get hr
              have hsv := HRW.out.2.row hr e f0
              cases e
              have hlt := cnt_row (List.mem_of_getElem? HGG.out.1) (List.mem_of_getElem? hr)
              have hrT : cntL r < T := by have := HT.out.1; omega
              have C := IH.out r (by have := HH.out; omega) _ wr L3 hgv hsv HBX.out HL3.out.1 (HNN.out r L3 HL3.out.2 hrT)
              have hyy := HY.out
              rw [cntR_drop hr] at hyy
              obtain ⟨x, hx⟩ : ∃ x, cntL r = x := ⟨_, rfl⟩
              rw [hx] at C hyy
              obtain ⟨yx, hyx⟩ : ∃ s : Nat, y + x = s := ⟨_, rfl⟩
              have hsum : (y : Int) + (x : Int) = (yx : Int) := by omega
              have hyT : yx + cntR (g.l.drop (q + 1)) + innL (l.drop (j + 1)) = T := by omega
              have hyT2 : yx ≤ T := by omega
              have hwy : IntKind.i64.wrap (yx : Int) = (yx : Int) := by rw [IntKind.wrap_i64]; omega
              have HY2 := Lib.hid hyT
              obtain ⟨lr, hlr⟩ : ∃ n, r.length = n := ⟨_, rfl⟩
              rw [hlr] at C f0
              replace f0 := cell_later HBX.out f0
              clear hyT
              have hqm2 : (q : Int) < mr := by omega
              clear hr hgv hsv hlt hx hyy hyx HY hrT hlr
              (go_wp2_with fail; go_fit (C); rintro e w' ⟨rfl, hg', L4, hk4, ha4⟩)
              have HG4 := Lib.hid (grown_trans HGX.out hg')
              have HL4 := Lib.hid (And.intro hk4 (HL3.out.2.trans ha4))
              clear C hg' hk4 ha4 f0
              go_wp2
              go_roundw
              case rel => exact ⟨q + 1, yx, L4, by omega, by go_num, by first | rfl | go_num, HY2, HG4, HL4⟩
              case measure => simp [intOf]; omega
            · have hqe : q = mr := by omega
              subst hqe
              have HY2 := Lib.hid (show y + innL (l.drop (j + 1)) = T by have := HY.out; rw [List.drop_eq_nil_of_le (by rw [← HGG.out.2]; exact Nat.le_refl _), cntR] at this; omega)
              have HG4 := Lib.hid (grown_trans HG.out (grown_trans (grown_bel HB3.out) HGX.out))
              go_wp2
              go_roundw
              case rel => exact ⟨j + 1, y, L3, by omega, by go_num, rfl, HY2, HG4, HL3⟩
              case measure => simp [intOf]; omega
        · have hje : j = m := by omega
          subst hje
          have hz : z = T := by have := HZ.out; rw [List.drop_eq_nil_of_le (by rw [HM.out]; exact Nat.le_refl _), innL] at this; omega
          subst hz
          have hbx := HX1.out.grown HG.out HNE.out
          have y0 := hbx.cells 0 _ rfl
          have y1 := hbx.cells 1 _ rfl
          obtain ⟨L5, w5, hrun5, hk5, hg5, hl5⟩ := HL2.out.1.put (mt := 70) Tryz.underlying70 (⟨b, off, none⟩, j) (by
            obtain ⟨_, b', off', e, hp, _⟩ := HR.out
            cases e
            exact hp.below HBR.out) (.int .i64 (z : Nat))
          have HEND := Lib.hid (show CrP W w mb L (.int .i64 (z : Nat)) (RightC W) (.returned (.int .i64 (z : Nat))) w5 from ⟨rfl, grown_trans (grown_bel HB1.out) (grown_trans HG.out hg5), L5, hk5, After.done HL1.out HL2.out.2 hl5 ⟨l, HR.out, by rw [HT.out.1]⟩⟩)
          clear hk5 hg5 hl5 hbx
          go_wp2_with (at_mapUpdate; refine wpList_put_run rfl _ _ _ _ rfl rfl rfl rfl hrun5 ?_)
          go_ret
          exact HEND.out
set_option maxHeartbeats 4000000 in
/-- Count: of no more than a million goals. -/
theorem Count_at (l : List Gl) (hl : cntL l ≤ 1000000) (w : World) (v : Value) (hv : GoalsK w l v) : Calls Tryz.prog 10 #[v] w fun e w' => e = .returned (.int .i64 (cntL l : Nat)) ∧ Below w.heap.size w w' := by
  obtain ⟨a, c, rfl, -, -, -⟩ := hv.1.len
  have hb : Below w.heap.size w (w.alloc (.map #[] 0)) := bel1' _ _
  have C := crow_at (W := w) (mb := w.heap.size) (Nat.le_refl _) (cntL l) l (Nat.le_refl _) hl _ (w.alloc (.map #[] 0)) [] hv.1 hv.2 hb
    ⟨⟨#[], 0, heap_alloc_new w _, rfl⟩, fun p hp => by simp at hp⟩ (fun k d h => by cases h)
  obtain ⟨T, hT⟩ : ∃ T, cntL l = T := ⟨_, rfl⟩
  obtain ⟨m, hm⟩ : ∃ m, l.length = m := ⟨_, rfl⟩
  rw [hT] at C ⊢
  rw [hm] at C ⊢
  have hmm := @run_makeMap Tryz.prog
  have HB := Lib.hid hb
  clear hv hl hT hm hb
  go_enter Tryz.func10, Tryz.ntmps10
  (go_wp2_with fail; go_fit (C); rintro e w1 ⟨rfl, g1, _⟩)
  have B1 := Lib.hid (grown_base (Nat.le_refl _) HB.out g1)
  clear g1 C
  go_wp2
  go_ret
  exact ⟨rfl, B1.out⟩
end Go.Proofs.YtaojalicnnnkmaaGreatDoor
/- The document's side of chapter 14: Cuts, walked. (gen_gcuts.py) -/
namespace Go.Proofs.YtaojalicnnnkmaaGreatDoor
open Go.RowKit
set_option linter.unusedVariables false

theorem cutL_drop {l : List Gl} {i : Nat} {g : Gl} (h : l[i]? = some g) : cutL (l.drop i) = (cutG g || cutL (l.drop (i + 1))) := by
  obtain ⟨hlt, rfl⟩ := List.getElem?_eq_some_iff.1 h
  rw [List.drop_eq_getElem_cons hlt, cutL]
theorem cutR_drop {l : List (List Gl)} {i : Nat} {g : List Gl} (h : l[i]? = some g) : cutR (l.drop i) = (cutL g || cutR (l.drop (i + 1))) := by
  obtain ⟨hlt, rfl⟩ := List.getElem?_eq_some_iff.1 h
  rw [List.drop_eq_getElem_cons hlt, cutR]
theorem cutT_eq : ∀ l : List (List Gl), cutT l = cutR (l.drop 1)
  | [] => by rw [cutT, List.drop_nil, cutR]
  | x :: r => by rw [cutT]; rfl
theorem cutG_eq (g : Gl) : cutG g = (g.kind == 2 || (!(g.kind == 5) && (if g.kind = 4 then cutR (g.l.drop 1) else cutR g.l))) := by
  obtain ⟨k, t, ls⟩ := g
  rw [cutG, cutT_eq]
  rfl
end Go.Proofs.YtaojalicnnnkmaaGreatDoor
/- Package body: Cuts, walked. -/
namespace Go.Proofs.YtaojalicnnnkmaaGreatDoor
open Go.RowKit
set_option linter.unusedVariables false

/-- Those rows whose cuts are the clause's. -/
def openG (g : Gl) : List (List Gl) := if g.kind = 5 then [] else if g.kind = 4 then g.l.drop 1 else g.l
theorem cut_open (g : Gl) : cutG g = (g.kind == 2 || cutR (openG g)) := by
  rw [cutG_eq]
  unfold openG
  by_cases h5 : g.kind = 5
  · rw [if_pos h5, h5]
    simp [cutR]
  · rw [if_neg h5]
    have : (g.kind == 5) = false := beq_false_of_ne h5
    rw [this]
    by_cases h4 : g.kind = 4
    · rw [if_pos h4, if_pos h4]; rfl
    · rw [if_neg h4, if_neg h4]; rfl
theorem open_mem {g : Gl} {r : List Gl} (h : r ∈ openG g) : r ∈ g.l := by
  unfold openG at h
  split at h
  · cases h
  · split at h
    · exact List.mem_of_mem_drop h
    · exact h
/-- All but the first. -/
theorem RowsK.tail {w : World} {ls : List (List Gl)} {a : Option Addr} {m c : Nat} (h : RowsK w ls (.slice a m c)) (hm : 0 < m) : ∃ b off, a = some ⟨b, off, none⟩ ∧ m ≤ c ∧ c ≤ maxLen ∧ RowsK w (ls.drop 1) (.slice (some ⟨b, off + 1, none⟩) (m - 1) (c - 1)) := by
  obtain ⟨⟨a1, c1, e, h1, h2, h3, h4⟩, ⟨a2, c2, e', g⟩⟩ := h
  injection e with e1 e2 e3
  injection e' with e1' e2' e3'
  subst e1
  subst e3
  subst e1'
  have hne : ls ≠ [] := fun e => by rw [e] at e2; simp at e2; omega
  obtain ⟨b, off, rfl, hb, hr⟩ := h4.resolve_left hne
  obtain ⟨b', off', e4, gr⟩ := g.resolve_left hne
  cases e4
  obtain ⟨x, r, rfl⟩ := List.exists_cons_of_ne_nil hne
  have hl : r.length = m - 1 := by rw [e2]; simp
  refine ⟨b, off, rfl, by rw [e2]; exact h1, h2, ⟨_, c - 1, ?_, ?_, by omega, ?_, Or.inr ⟨b, off + 1, rfl, hb, (rsRow_cons.1 hr).2⟩⟩, ⟨_, c - 1, ?_, Or.inr ⟨b, off + 1, rfl, (skR_cons.1 gr).2⟩⟩⟩
  · show Value.slice _ _ _ = .slice _ r.length _
    rw [hl]
  · show r.length ≤ _
    rw [hl]; rw [← e2] at h1; omega
  · show r.length * 24 ≤ BIG
    rw [List.length_cons] at h3; omega
  · show Value.slice _ _ _ = .slice _ r.length _
    rw [hl]
set_option maxHeartbeats 4000000 in
theorem bopen_at {W : World} {g : Gl} {w : World} {k : Int} {kt nt : Int} {st : ByteArray} {at_ : Option Addr} {mt ct : Nat} {ar : Option Addr} {mr cr : Nat} (hk : g.kind = k) (hv : RowsK W g.l (.slice ar mr cr)) :
    Calls Tryz.prog 51 #[.agg #[.int .i64 k, .int .i64 kt, .int .i64 nt, .string st, .slice at_ mt ct, .slice ar mr cr]] w fun e w' => ∃ a m c, e = .returned (.slice a m c) ∧ RowsK W (openG g) (.slice a m c) ∧ Below w.heap.size w w' := by
  obtain ⟨w1, e1, B1, z1, X1⟩ := box_new w #[.int .i64 k, .int .i64 kt, .int .i64 nt, .string st, .slice at_ mt ct, .slice ar mr cr] 35
  have HB := Lib.hid (bel1' w (.cells #[.int .i64 k, .int .i64 kt, .int .i64 nt, .string st, .slice at_ mt ct, .slice ar mr cr] 35))
  have x0 := X1.cells 0 _ rfl
  have x5 := X1.cells 5 _ rfl
  have HV := Lib.hid hv
  obtain ⟨ro, hro⟩ : ∃ ro, openG g = ro := ⟨_, rfl⟩
  rw [hro]
  have HO := Lib.hid hro
  have hmr : mr = g.l.length := by obtain ⟨_, _, e, _⟩ := hv.1.len; cases e; rfl
  have hbd : mr ≤ cr ∧ cr ≤ 9223372036854775807 := by obtain ⟨_, _, e, h5, h6, _⟩ := hv.1.len; cases e; unfold maxLen at h6; omega
  by_cases h5 : k = 5
  · subst h5
    have hr : ro = [] := by rw [← HO.out]; unfold openG; rw [if_pos hk]
    subst hr
    clear hv e1 B1 z1 X1 hro hk hmr
    go_enter Tryz.func51, Tryz.ntmps51
    go_wp2
    go_ret
    exact ⟨_, _, _, rfl, ⟨RowsV.nil _, SkW.nil _⟩, HB.out⟩
  · have h5b : (k == 5) = false := beq_false_of_ne h5
    by_cases h4 : k = 4
    · subst h4
      have hr : ro = g.l.drop 1 := by rw [← HO.out]; unfold openG; rw [if_neg (by rw [hk]; exact h5), if_pos hk]
      by_cases hm : mr = 0
      · have hr2 : ro = [] := by rw [hr, List.length_eq_zero_iff.1 (hmr.symm.trans hm)]; rfl
        have HRT := Lib.hid (show RowsK W ro (.slice ar mr cr) by
          rw [hr2]; have := HV.out; rw [List.length_eq_zero_iff.1 (hmr.symm.trans hm)] at this; exact this)
        subst hm
        clear hv e1 B1 z1 X1 hro hk hmr hr hr2
        go_enter Tryz.func51, Tryz.ntmps51
        go_wp2
        go_ret
        exact ⟨_, _, _, rfl, HRT.out, HB.out⟩
      · obtain ⟨b, off, rfl, q1, q2, htl⟩ := HV.out.tail (by omega)
        rw [← hr] at htl
        have HTL := Lib.hid htl
        have hm1 : (0 : Int) < mr := by omega
        have hm2 : (1 : Int) ≤ mr := by omega
        by_cases hc1 : cr = 1
        · subst hc1
          obtain rfl : mr = 1 := by omega
          have HNIL := Lib.hid (show RowsK W ro (.slice (some ⟨b, off, none⟩) 0 0) by
            have h1 := HTL.out.1.len
            obtain ⟨_, _, e, _⟩ := h1
            have : ro = [] := by injection e with _ e2 _; exact List.length_eq_zero_iff.1 e2.symm
            rw [this]
            exact ⟨⟨_, 0, rfl, Nat.le_refl _, Nat.zero_le _, by simp, Or.inl rfl⟩, ⟨_, 0, rfl, Or.inl rfl⟩⟩)
          clear hv e1 B1 z1 X1 hro hk hmr hr htl hm HTL
          go_enter Tryz.func51, Tryz.ntmps51
          go_wp2
          go_ret
          exact ⟨_, _, _, rfl, HNIL.out, HB.out⟩
        · have hc2 : (cr - 1 == 0) = false := by apply beq_false_of_ne; omega
          have hc3 : ¬ cr - 1 = 0 := by omega
          clear hv e1 B1 z1 X1 hro hk hmr hr htl hm
          go_enter Tryz.func51, Tryz.ntmps51
          go_wp2
          go_ret
          exact ⟨_, _, _, rfl, HTL.out, HB.out⟩
    · have h4b : (k == 4) = false := beq_false_of_ne h4
      have hr : ro = g.l := by rw [← HO.out]; unfold openG; rw [if_neg (by rw [hk]; exact h5), if_neg (by rw [hk]; exact h4)]
      subst hr
      clear hv e1 B1 z1 X1 hro hk hmr h5 h4
      go_enter Tryz.func51, Tryz.ntmps51
      go_wp2
      go_ret
      exact ⟨_, _, _, rfl, HV.out, HB.out⟩
/-- No cut so far, or one. -/
def CuP (W w : World) (mb : Nat) (L : List (Key × Value)) (r : Bool) (e : Ending) (w' : World) : Prop := e = .returned (.bool r) ∧ w.grownBy w' (some mb) ∧ (r = false → ∃ L', KMap w' mb L' ∧ After (RightU W) L L')
/-- A row in which there is no cut is gone through. -/
theorem After.stop {R : Key → Value → Prop} {L L1 L2 : List (Key × Value)} {k : Key} {v : Value} (h1 : ∀ k', lookK k' L1 = if k' = k then some v else lookK k' L) (h2 : After R L1 L2) (hr : R k v) : After R L L2 := fun k' d hk => by
  rcases h2 k' d hk with g | g
  · rw [h1] at g
    by_cases e : k' = k
    · rw [if_pos e] at g
      injection g with g
      rw [e, ← g]
      exact Or.inr hr
    · rw [if_neg e] at g
      exact Or.inl g
  · exact Or.inr g
def URow (W : World) (mb : Nat) (r : List Gl) : Prop := ∀ (v : Value) (w : World) (L : List (Key × Value)), GoalsV W r v → SkV W r v → Below W.heap.size W w → KMap w mb L → AllU L → Notes (RightU W) W L (cntL r) → Calls Tryz.prog 34 #[.map (some mb), v] w (CuP W w mb L (cutL r))
/-- The first row with a cut, or -1. -/
def IxP (W w : World) (mb : Nat) (L : List (Key × Value)) (c : Bool) (e : Ending) (w' : World) : Prop := ∃ z : Int, e = .returned (.int .i64 z) ∧ -1 ≤ z ∧ z ≤ 9223372036854775807 ∧ (decide (0 ≤ z) = c) ∧ w.grownBy w' (some mb) ∧ (c = false → ∃ L', KMap w' mb L' ∧ After (RightU W) L L')
set_option maxHeartbeats 8000000 in
theorem uidx_at {W : World} {mb : Nat} (hmb : W.heap.size ≤ mb) (ls : List (List Gl)) (IH : ∀ r ∈ ls, URow W mb r) {a : Option Addr} {m c : Nat} (w : World) (L : List (Key × Value)) (hv : RowsK W ls (.slice a m c)) (hb : Below W.heap.size W w) (hk : KMap w mb L) (hu : AllU L) (hn : ∀ r ∈ ls, ∀ L3, After (RightU W) L L3 → Notes (RightU W) W L3 (cntL r)) :
    Calls Tryz.prog 68 #[.slice a m c, .func (.func 34) #[.map (some mb)] #[]] w (IxP W w mb L (cutR ls)) := by
  obtain ⟨_, _, e0, h1, h2, h3⟩ := hv.1.len
  have hml : m = ls.length := by cases e0; rfl
  cases e0
  unfold maxLen at h2
  obtain ⟨m, hm⟩ : ∃ m, ls.length = m := ⟨_, rfl⟩
  have HM := Lib.hid hm
  have HV := Lib.hid hv
  rw [hm] at h1 h3 HV ⊢
  obtain ⟨T, hT⟩ : ∃ T, cutR ls = T := ⟨_, rfl⟩
  have HT := Lib.hid hT
  rw [hT]
  have HB := Lib.hid hb
  have HK := Lib.hid hk
  have HU := Lib.hid hu
  have HN := Lib.hid hn
  have HIH := Lib.hid IH
  clear hv hm hT hb hk hu hn IH hml
  go_enter Tryz.func68, Tryz.ntmps68
  go_wp2_with fail
  go_loopw [8] (fun i wr => ∃ (j : Nat) (L2 : List (Key × Value)), j ≤ m ∧ i = .int .i64 j ∧ Hid (cutR (ls.drop j) = T) ∧ Hid (w.grownBy wr (some mb)) ∧ Hid (KMap wr mb L2 ∧ After (RightU W) L L2)) (fun i _ => m - (intOf i).toNat)
  case atStart => exact ⟨0, L, Nat.zero_le _, rfl, Lib.hid (by rw [List.drop_zero]; exact HT.out), Lib.hid (grown_bel (Below.refl _ _)), Lib.hid ⟨HK.out, After.refl _ _⟩⟩
  case round =>
    obtain ⟨j, L2, hj, rfl, HZ, HG, HL2⟩ := hrel
    have HBR := Lib.hid (grown_base hmb HB.out HG.out)
    by_cases hjm : j < m
    · obtain ⟨r, hr⟩ : ∃ r, ls[j]? = some r := ⟨_, List.getElem?_eq_getElem (by rw [HM.out]; exact hjm)⟩
      have hjm2 : (j : Int) < m := by omega
      obtain ⟨b, off, a2, c2, e, _, f0, hgv⟩ := HV.out.1.get hr
      have hsv := HV.out.2.row hr e f0
      cases e
      have C := HIH.out r (List.mem_of_getElem? hr) _ wr L2 hgv hsv HBR.out HL2.out.1 (HU.out.after HL2.out.2) (HN.out r (List.mem_of_getElem? hr) L2 HL2.out.2)
      have hz := HZ.out
      rw [cutR_drop hr] at hz
      replace f0 := cell_later HBR.out f0
      obtain ⟨lr, hlr⟩ : ∃ n, r.length = n := ⟨_, rfl⟩
      rw [hlr] at C f0
      cases hc : cutL r
      · rw [hc] at C hz
        rw [Bool.false_or] at hz
        have HZ2 := Lib.hid hz
        clear hr hgv hsv hlr hz hc HZ
        (go_wp2_with fail; go_fit (C); rintro e w' ⟨rfl, hg', hL'⟩)
        obtain ⟨L4, hk4, ha4⟩ := hL' rfl
        have HG4 := Lib.hid (grown_trans HG.out hg')
        have HL4 := Lib.hid (And.intro hk4 (HL2.out.2.trans ha4))
        clear C hg' hk4 ha4 f0 hL'
        go_wp2
        go_roundw
        case rel => exact ⟨j + 1, L4, by omega, by go_num, HZ2, HG4, HL4⟩
        case measure => simp [intOf]; omega
      · rw [hc] at C hz
        rw [Bool.true_or] at hz
        have HZ2 := Lib.hid hz
        clear hr hgv hsv hlr hz hc HZ
        (go_wp2_with fail; go_fit (C); rintro e w' ⟨rfl, hg', _⟩)
        have HG4 := Lib.hid (grown_trans HG.out hg')
        clear C hg' f0
        go_wp2
        go_ret
        exact ⟨_, rfl, by omega, by omega, by rw [← HZ2.out]; simp, HG4.out, fun h => by rw [← HZ2.out] at h; cases h⟩
    · have hje : j = m := by omega
      subst hje
      have hz : T = false := by have := HZ.out; rw [List.drop_eq_nil_of_le (by rw [HM.out]; exact Nat.le_refl _), cutR] at this; exact this.symm
      subst hz
      go_wp2
      go_ret
      exact ⟨-1, rfl, by omega, by omega, by simp, HG.out, fun _ => ⟨L2, HL2.out⟩⟩
theorem ucont_at {W : World} {mb : Nat} (hmb : W.heap.size ≤ mb) (ls : List (List Gl)) (IH : ∀ r ∈ ls, URow W mb r) {a : Option Addr} {m c : Nat} (w : World) (L : List (Key × Value)) (hv : RowsK W ls (.slice a m c)) (hb : Below W.heap.size W w) (hk : KMap w mb L) (hu : AllU L) (hn : ∀ r ∈ ls, ∀ L3, After (RightU W) L L3 → Notes (RightU W) W L3 (cntL r)) :
    Calls Tryz.prog 50 #[.slice a m c, .func (.func 34) #[.map (some mb)] #[]] w (CuP W w mb L (cutR ls)) := by
  have C := uidx_at hmb ls IH w L hv hb hk hu hn
  obtain ⟨T, hT⟩ : ∃ T, cutR ls = T := ⟨_, rfl⟩
  rw [hT] at C ⊢
  clear hv hb hk hu hn IH hT
  go_enter Tryz.func50, Tryz.ntmps50
  (go_wp2_with fail; go_fit (C); rintro e w' ⟨z, rfl, g1, g2, g3, g4, g5⟩)
  have HG := Lib.hid (And.intro g4 g5)
  clear g4 g5 C
  subst g3
  go_wp2
  go_ret
  exact ⟨rfl, HG.out⟩
end Go.Proofs.YtaojalicnnnkmaaGreatDoor
/- Package body: searched.row and Cuts, walked. -/
namespace Go.Proofs.YtaojalicnnnkmaaGreatDoor
open Go.RowKit
set_option linter.unusedVariables false

theorem zeroSB (w : World) : (zeroValue 100).run Tryz.prog w = .ok (.agg #[]) w := by kernel_rfl
set_option maxHeartbeats 8000000 in
set_option maxRecDepth 100000 in
theorem urow_at {W : World} {mb : Nat} (hmb : W.heap.size ≤ mb) : ∀ (M : Nat) (l : List Gl), cntL l ≤ M → URow W mb l
  | M, l, h, v, w, L, hv, hs, hb, hk, hu, hn => by
    obtain ⟨a, c, rfl, h1, h2, h3⟩ := hv.len
    unfold maxLen at h2
    have IH := Lib.hid (fun (r : List Gl) (hr : cntL r < M) => urow_at hmb (M - 1) r (by omega))
    have HV := Lib.hid (And.intro hv hs)
    obtain ⟨m, hm⟩ : ∃ m, l.length = m := ⟨_, rfl⟩
    have HM := Lib.hid hm
    obtain ⟨T, hT⟩ : ∃ T, cutL l = T := ⟨_, rfl⟩
    have HT := Lib.hid hT
    have HH := Lib.hid h
    have HB := Lib.hid hb
    have HK := Lib.hid hk
    have HN := Lib.hid hn
    have HU := Lib.hid hu
    rw [hm] at h1 h3 HV ⊢
    rw [hT]
    by_cases h0 : m = 0
    · subst h0
      have : T = false := by
        obtain rfl : l = [] := List.length_eq_zero_iff.1 HM.out
        exact HT.out.symm
      subst this
      clear hv hs hb hk hu hn hm hT h
      go_enter Tryz.func34, Tryz.ntmps34
      go_wp2
      go_ret
      exact ⟨rfl, grown_bel (Below.refl _ _), fun _ => ⟨L, HK.out, After.refl _ _⟩⟩
    obtain ⟨b, off, rfl, hrow⟩ := GoalsK.at HV.out.2 (by omega)
    have h0' : ((m : Int) == 0) = false := by apply beq_false_of_ne; omega
    have h0n : 0 < m := by omega
    obtain ⟨w1, e1, B1, z1, X1⟩ := box_new w #[.pointer (some ⟨b, off, none⟩), .int .i64 m] 97
    have HE := Lib.hid e1
    have HB1 := Lib.hid B1
    have HX1 := Lib.hid X1
    have HR := Lib.hid hrow
    have hpl : Plain w1 b := by
      obtain ⟨_, b', off', e, hp, _⟩ := hrow
      cases e
      exact (hp.below hb).below B1
    have look := (HK.out.below B1).look (mt := 74) Tryz.underlying74 (zeroSB w1) (⟨b, off, none⟩, m) hpl
    have HPL := Lib.hid hpl
    have x0 := X1.cells 0 _ rfl
    have x1 := X1.cells 1 _ rfl
    obtain ⟨w2, e2, B2, z2, X2⟩ := box_new w1 #[] 100
    have HE2 := Lib.hid e2
    have HB2 := Lib.hid B2
    have HX2 := Lib.hid X2
    clear hv hs hb hk hu hn hm hT h e1 B1 z1 X1 hrow hpl e2 B2 z2 X2
    rcases look with ⟨d, hd, hrun⟩ | ⟨hd, hrun⟩
    · obtain rfl : d = .agg #[] := HU.out _ _ hd
      have hdt : T = false := by
        rcases HN.out _ _ hd with ⟨_, l', g1, g2⟩ | ⟨l', g1, g2⟩
        · rw [← HT.out, ← (g1.same HR.out).2, g2]
        · have := (g1.same HR.out).1
          omega
      subst hdt
      have HEND := Lib.hid (show CuP W w mb L false (.returned (.bool false)) w2 from ⟨rfl, grown_bel (Ext.trans' HB1.out HB2.out), fun _ => ⟨L, (HK.out.below HB1.out).below HB2.out, After.refl _ _⟩⟩)
      clear hd
      go_enter Tryz.func34, Tryz.ntmps34
      go_wp2_with (at_lookup; (try rw [HE.out]); refine wpList_look_run rfl _ _ _ rfl rfl rfl hrun ?_)
      (try rw [HE2.out])
      go_ret
      exact HEND.out
    · obtain ⟨L1, w3, hrun1, hk1, hg1, hl1⟩ := ((HK.out.below HB1.out).below HB2.out).put (mt := 74) Tryz.underlying74 (⟨b, off, none⟩, m) (HPL.out.below HB2.out) (.agg #[])
      have HL1 := Lib.hid hl1
      have HK1 := Lib.hid (And.intro hk1 hg1)
      have HBW2 := Lib.hid (Ext.trans' HB.out (Ext.trans' HB1.out HB2.out))
      have HU1 := Lib.hid (HU.out.put hl1)
      have HNN := Lib.hid (fun (r : List Gl) (L3 : List (Key × Value)) (ha : After (RightU W) L1 L3) (hr : cntL r < cntL l) => (Notes.put HN.out hl1 HR.out rfl hr).after ha (Nat.le_refl _))
      have y0 : (w1.alloc (.cells #[] 100)).cell? ⟨w.heap.size, 0, none⟩ = some (.pointer (some ⟨b, off, none⟩)) := by rw [HE2.out]; exact cell_later HB2.out x0
      have y1 : (w1.alloc (.cells #[] 100)).cell? ⟨w.heap.size, 1, none⟩ = some (.int .i64 m) := by rw [HE2.out]; exact cell_later HB2.out x1
      clear hl1 hk1 hg1 hd HN
      go_enter Tryz.func34, Tryz.ntmps34
      go_wp2_with (first | (at_lookup; (try rw [HE.out]); refine wpList_look_run rfl _ _ _ rfl rfl rfl hrun ?_) | (at_mapUpdate; (try rw [HE2.out]); refine wpList_put_run rfl _ _ _ _ rfl rfl rfl rfl hrun1 ?_) | fail)
      go_loopw [30] (fun i wr => ∃ (j : Nat) (L2 : List (Key × Value)), j ≤ m ∧ i = .int .i64 j ∧ Hid (cutL (l.drop j) = T) ∧ Hid (w2.grownBy wr (some mb)) ∧ Hid (KMap wr mb L2 ∧ After (RightU W) L1 L2)) (fun i _ => m - (intOf i).toNat)
      case atStart => exact ⟨0, L1, Nat.zero_le _, rfl, Lib.hid (by rw [List.drop_zero]; exact HT.out), Lib.hid HK1.out.2, Lib.hid ⟨HK1.out.1, After.refl _ _⟩⟩
      case round =>
        obtain ⟨j, L2, hj, rfl, HZ, HG, HL2⟩ := hrel
        have HBR := Lib.hid (grown_base hmb HBW2.out HG.out)
        clear x0 x1 y0 y1
        by_cases hjm : j < m
        · obtain ⟨g, hg⟩ : ∃ g, l[j]? = some g := ⟨_, List.getElem?_eq_getElem (by rw [HM.out]; exact hjm)⟩
          obtain ⟨b', off', kt, nt, st, at_, mt, ct, ar, mr, cr, e, _, d0, d1, d2, d3, d4, d5, _, _, hrows⟩ := HV.out.1.get hg
          have hsk := HV.out.2.row hg rfl (by cases e; exact d5)
          cases e
          have hgl : mr = g.l.length := by obtain ⟨_, _, e, _⟩ := hrows.len; cases e; rfl
          have hzz := HZ.out
          rw [cutL_drop hg, cut_open] at hzz
          have hjm2 : (j : Int) < m := by omega
          obtain ⟨kg, hkg⟩ : ∃ k, g.kind = k := ⟨_, rfl⟩
          rw [hkg] at d0 hzz
          replace d0 := cell_later HBR.out d0
          replace d1 := cell_later HBR.out d1
          replace d2 := cell_later HBR.out d2
          replace d3 := cell_later HBR.out d3
          replace d4 := cell_later HBR.out d4
          replace d5 := cell_later HBR.out d5
          obtain ⟨w4, e4, B4, z4, X4⟩ := box_new wr #[.int .i64 kg, .int .i64 kt, .int .i64 nt, .string st, .slice at_ mt ct, .slice ar mr cr] 35
          have HE4 := Lib.hid e4
          have HB4 := Lib.hid B4
          have q0 := X4.cells 0 _ rfl
          have q1 := X4.cells 1 _ rfl
          have q2 := X4.cells 2 _ rfl
          have q3 := X4.cells 3 _ rfl
          have q4 := X4.cells 4 _ rfl
          have q5 := X4.cells 5 _ rfl
          have HRW := Lib.hid (And.intro hrows hsk)
          by_cases hk2 : kg = 2
          · subst hk2
            have hTT : T = true := by rw [← hzz]; rfl
            subst hTT
            have HEND := Lib.hid (show CuP W w mb L true (.returned (.bool true)) w4 from ⟨rfl, grown_trans (grown_bel (Ext.trans' HB1.out HB2.out)) (grown_trans HG.out (grown_bel B4)), fun h => by cases h⟩)
            clear hrows hg hgl hzz hkg hsk e4 B4 z4 X4 HZ q0 q1 q2 q3 q4 q5
            go_wp2
            (try rw [HE4.out])
            go_ret
            exact HEND.out
          · have hk2b : (kg == 2) = false := beq_false_of_ne hk2
            rw [hk2b, Bool.false_or] at hzz
            have C1 := bopen_at (W := W) (w := w4) (kt := kt) (nt := nt) (st := st) (at_ := at_) (mt := mt) (ct := ct) hkg HRW.out
            have HLT := Lib.hid (fun (r : List Gl) (hr : r ∈ openG g) => cnt_row (List.mem_of_getElem? hg) (open_mem hr))
            have HC := Lib.hid (fun (w5 : World) (hb : Below w4.heap.size w4 w5) (a5 : Option Addr) (m5 c5 : Nat) (h5 : RowsK W (openG g) (.slice a5 m5 c5)) => ucont_at hmb (openG g) (fun r hr => IH.out r (by have := HLT.out r hr; have := HH.out; omega)) w5 L2 h5 (Ext.trans' HBR.out (Ext.trans' HB4.out hb)) (HL2.out.1.below (Ext.trans' HB4.out hb)) (HU1.out.after HL2.out.2) (fun r hr L3 ha => HNN.out r L3 (HL2.out.2.trans ha) (HLT.out r hr)))
            have hmf : ∀ (fn : Fn) (first cap : Array Value) (w : World), (Instr.makeFunc fn first cap).run Tryz.prog w = .ok (.func fn first cap) w := fun _ _ _ _ => rfl
            cases hcr : cutR (openG g)
            · rw [hcr] at HC hzz
              rw [Bool.false_or] at hzz
              have HZ2 := Lib.hid hzz
              clear hrows hg hgl hkg hsk e4 B4 z4 X4 HZ HRW hcr hzz
              go_wp2_with fail
              (try rw [HE4.out])
              (go_wp2_with fail; go_fit (C1); rintro e w5 ⟨a5, m5, c5, rfl, hro, b5⟩)
              have C2 := HC.out w5 b5 a5 m5 c5 hro
              have HB5 := Lib.hid (Ext.trans' HB4.out b5)
              clear C1 hro b5 q0 q1 q2 q3 q4 q5 d0 d1 d2 d3 d4 d5
              (go_wp2_with fail; go_fit (C2); rintro e w6 ⟨rfl, hg6, hL6⟩)
              obtain ⟨L6, hk6, ha6⟩ := hL6 rfl
              have HG6 := Lib.hid (grown_trans HG.out (grown_trans (grown_bel HB5.out) hg6))
              have HL6 := Lib.hid (And.intro hk6 (HL2.out.2.trans ha6))
              clear C2 hL6 hk6 ha6 hg6
              go_wp2
              go_roundw
              case rel => exact ⟨j + 1, L6, by omega, by go_num, HZ2, HG6, HL6⟩
              case measure => simp [intOf]; omega
            · rw [hcr] at HC hzz
              have hTT : T = true := by rw [← hzz]; rfl
              subst hTT
              clear hrows hg hgl hkg hsk e4 B4 z4 X4 HZ HRW hcr hzz
              go_wp2_with fail
              (try rw [HE4.out])
              (go_wp2_with fail; go_fit (C1); rintro e w5 ⟨a5, m5, c5, rfl, hro, b5⟩)
              have C2 := HC.out w5 b5 a5 m5 c5 hro
              have HB5 := Lib.hid (Ext.trans' HB4.out b5)
              clear C1 hro b5 q0 q1 q2 q3 q4 q5 d0 d1 d2 d3 d4 d5
              (go_wp2_with fail; go_fit (C2); rintro e w6 ⟨rfl, hg6, _⟩)
              have HEND := Lib.hid (show CuP W w mb L true (.returned (.bool true)) w6 from ⟨rfl, grown_trans (grown_bel (Ext.trans' HB1.out HB2.out)) (grown_trans HG.out (grown_trans (grown_bel HB5.out) hg6)), fun h => by cases h⟩)
              clear C2 hg6
              go_wp2
              go_ret
              exact HEND.out
        · have hje : j = m := by omega
          subst hje
          have hz : T = false := by have := HZ.out; rw [List.drop_eq_nil_of_le (by rw [HM.out]; exact Nat.le_refl _), cutL] at this; exact this.symm
          subst hz
          have HEND := Lib.hid (show CuP W w mb L false (.returned (.bool false)) wr from ⟨rfl, grown_trans (grown_bel (Ext.trans' HB1.out HB2.out)) HG.out, fun _ => ⟨L2, HL2.out.1, After.stop HL1.out HL2.out.2 ⟨rfl, l, HR.out, HT.out⟩⟩⟩)
          go_wp2
          go_ret
          exact HEND.out
set_option maxHeartbeats 4000000 in
/-- Cuts. -/
theorem Cuts_at (l : List Gl) (w : World) (v : Value) (hv : GoalsK w l v) : Calls Tryz.prog 14 #[v] w fun e w' => e = .returned (.bool (cutL l)) ∧ Below w.heap.size w w' := by
  obtain ⟨a, c, rfl, -, -, -⟩ := hv.1.len
  have hb : Below w.heap.size w (w.alloc (.map #[] 0)) := bel1' _ _
  have C := urow_at (W := w) (mb := w.heap.size) (Nat.le_refl _) (cntL l) l (Nat.le_refl _) _ (w.alloc (.map #[] 0)) [] hv.1 hv.2 hb
    ⟨⟨#[], 0, heap_alloc_new w _, rfl⟩, fun p hp => by simp at hp⟩ (fun k d h => by cases h) (fun k d h => by cases h)
  obtain ⟨T, hT⟩ : ∃ T, cutL l = T := ⟨_, rfl⟩
  obtain ⟨m, hm⟩ : ∃ m, l.length = m := ⟨_, rfl⟩
  rw [hT] at C ⊢
  rw [hm] at C ⊢
  have hmm := @run_makeMap Tryz.prog
  have HB := Lib.hid hb
  clear hv hT hm hb
  go_enter Tryz.func14, Tryz.ntmps14
  (go_wp2_with fail; go_fit (C); rintro e w1 ⟨rfl, g1, _⟩)
  have B1 := Lib.hid (grown_base (Nat.le_refl _) HB.out g1)
  clear g1 C
  go_wp2
  go_ret
  exact ⟨rfl, B1.out⟩
end Go.Proofs.YtaojalicnnnkmaaGreatDoor
