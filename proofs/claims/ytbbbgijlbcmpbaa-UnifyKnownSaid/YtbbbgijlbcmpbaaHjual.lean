import Derived.Test.YtbbbgijlbcmpbaaHjuaf
import Derived.Test.YtbbbgijlbcmpbaaHjuad
import Derived.Test.YtbbbgijlbcmpbaaHjuai
import Derived.Test.YtbbbgijlbcmpbaaHjuac
import Derived.Test.YtbbbgijlbcmpbaaHjuab
import Derived.Lib.Strings
import Derived.Deep.QuietTactic
import Derived.Test.YtbbbgijlbcmpbaaHjuaj
import Derived.Test.YtbbbgijlbcmpbaaHjuae
set_option linter.unusedVariables false
set_option linter.unusedSimpArgs false
/- Drawn together by pull.py from XPrN XRen XRenA XRenB. -/
namespace Go.Proofs.Ytbbbgijlbcmpbaa
open Go.RowKit
set_option linter.unusedVariables false

theorem near_cell {w : World} {rb j k : Nat} {u : Value} (hk : j ≠ k) : (w.setCell ⟨rb, k, none⟩ u).cell? ⟨rb, j, none⟩ = w.cell? ⟨rb, j, none⟩ := by
  rw [World.cell?_setCell_other]
  intro e; injection e with _ e _; exact hk e.symm

/-- A row of m terms in the making, in a block of its own: the first ones stand there. -/
structure Lay (w : World) (lb m : Nat) (ps : List TmP) : Prop where
  done : ∀ i p, ps[i]? = some p → ∀ j u, (pCells p)[j]? = some u → w.cell? ⟨lb, i * 4 + j, none⟩ = some u
  rest : ∀ i, ps.length ≤ i → i < m → w.cell? ⟨lb, i * 4, none⟩ = some (.int .i64 0) ∧ w.cell? ⟨lb, i * 4 + 1, none⟩ = some (.int .i64 0) ∧ w.cell? ⟨lb, i * 4 + 2, none⟩ = some (.string ⟨#[]⟩) ∧ w.cell? ⟨lb, i * 4 + 3, none⟩ = some (.slice none 0 0)
  fz : ∀ j, w.frozen? ⟨lb, j, none⟩ = false
  lt : lb < w.heap.size
theorem Lay.later {w w' : World} {lb m : Nat} {ps : List TmP} (h : Lay w lb m ps) (hb : Below w.heap.size w w') : Lay w' lb m ps where
  done := fun i p hp j u hu => cell_later hb (h.done i p hp j u hu)
  rest := fun i h1 h2 => by obtain ⟨a, b, c, d⟩ := h.rest i h1 h2; exact ⟨cell_later hb a, cell_later hb b, cell_later hb c, cell_later hb d⟩
  fz := fun j => (hb.frozen (p := ⟨lb, j, none⟩) h.lt).trans (h.fz j)
  lt := Nat.lt_of_lt_of_le h.lt hb.size
abbrev setAt (w : World) (lb o : Nat) (u0 u1 u2 u3 : Value) : World := (((w.setCell ⟨lb, o, none⟩ u0).setCell ⟨lb, o + 1, none⟩ u1).setCell ⟨lb, o + 2, none⟩ u2).setCell ⟨lb, o + 3, none⟩ u3
theorem setAt_off {w : World} {lb o j : Nat} {u0 u1 u2 u3 : Value} (h : j < o ∨ o + 4 ≤ j) : (setAt w lb o u0 u1 u2 u3).cell? ⟨lb, j, none⟩ = w.cell? ⟨lb, j, none⟩ := by
  rw [near_cell (by omega), near_cell (by omega), near_cell (by omega), near_cell (by omega)]
theorem Lay.put {w : World} {lb m : Nat} {ps : List TmP} (h : Lay w lb m ps) (hm : ps.length < m) {p : TmP} {u0 u1 u2 u3 : Value} (hp : pCells p = [u0, u1, u2, u3]) : Lay (setAt w lb (ps.length * 4) u0 u1 u2 u3) lb m (ps ++ [p]) where
  done := fun i q hq j u hu => by
    have hj : j < 4 := by
      have := (List.getElem?_eq_some_iff.1 hu).1
      rw [pCells_len] at this
      exact this
    by_cases hi : i < ps.length
    · rw [setAt_off (by omega)]
      exact h.done i q (by rw [List.getElem?_append_left hi] at hq; exact hq) j u hu
    · have hi2 : i = ps.length := by
        have := (List.getElem?_eq_some_iff.1 hq).1
        rw [List.length_append, List.length_singleton] at this
        omega
      subst hi2
      have hqp : q = p := by
        rw [List.getElem?_append_right (Nat.le_refl _), Nat.sub_self] at hq
        simpa using hq.symm
      subst hqp
      obtain ⟨r0, r1, r2, r3⟩ := h.rest ps.length (Nat.le_refl _) hm
      rw [hp] at hu
      match j, hj, hu with
      | 0, _, hu =>
        cases hu
        rw [near_cell (by omega), near_cell (by omega), near_cell (by omega)]
        exact css r0
      | 1, _, hu =>
        cases hu
        rw [near_cell (by omega), near_cell (by omega)]
        exact css (u := .int .i64 0) (by rw [near_cell (by omega)]; exact r1)
      | 2, _, hu =>
        cases hu
        rw [near_cell (by omega)]
        exact css (u := .string ⟨#[]⟩) (by rw [near_cell (by omega), near_cell (by omega)]; exact r2)
      | 3, _, hu =>
        cases hu
        exact css (u := .slice none 0 0) (by rw [near_cell (by omega), near_cell (by omega), near_cell (by omega)]; exact r3)
  rest := fun i h1 h2 => by
    rw [List.length_append, List.length_singleton] at h1
    obtain ⟨a, b, c, d⟩ := h.rest i (by omega) h2
    exact ⟨by rw [setAt_off (by omega)]; exact a, by rw [setAt_off (by omega)]; exact b, by rw [setAt_off (by omega)]; exact c, by rw [setAt_off (by omega)]; exact d⟩
  fz := fun j => by rw [World.frozen?_setCell, World.frozen?_setCell, World.frozen?_setCell, World.frozen?_setCell]; exact h.fz j
  lt := by have := h.lt; simpa [World.setCell] using this
theorem made_get (m i j : Nat) (hi : i < m) (hj : j < 4) (z : Array Value) (hz : z.size = 4) : (madeCells z (m * 4))[i * 4 + j]? = some z[j]! := by
  unfold madeCells
  rw [Array.getElem?_map, Array.getElem?_range, if_pos (by omega)]
  simp only [Option.map_some, hz]
  rw [show (i * 4 + j) % 4 = j by omega]
theorem lay_new (w : World) (m : Nat) (ty : TypeId) : Lay (w.alloc (.cells (madeCells #[.int .i64 0, .int .i64 0, .string ⟨#[]⟩, .slice none 0 0] (m * 4)) ty)) w.heap.size m [] where
  done := fun i p hp => by simp at hp
  rest := fun i _ h => by
    have k : ∀ j, j < 4 → (w.alloc (.cells (madeCells #[.int .i64 0, .int .i64 0, .string ⟨#[]⟩, .slice none 0 0] (m * 4)) ty)).cell? ⟨w.heap.size, i * 4 + j, none⟩ = some (#[Value.int .i64 0, .int .i64 0, .string ⟨#[]⟩, .slice none 0 0])[j]! := fun j hj => by
      rw [World.cell?_alloc_at _ _ _ _ rfl]
      exact made_get m i j h hj _ rfl
    exact ⟨k 0 (by omega), k 1 (by omega), k 2 (by omega), k 3 (by omega)⟩
  fz := fun j => by simp
  lt := by simp
theorem formed_args {k n : Int} {s : ByteArray} {ts : List Tm} (h : formedT (.mk k n s ts) = true) (hne : ts ≠ []) : k = 2 ∧ n = 0 ∧ ts.length ≤ 8 := by
  rw [formedT, Bool.and_eq_true] at h
  have h1 := h.1
  have hl : ¬ ts.length = 0 := fun e => hne (List.eq_nil_of_length_eq_zero e)
  unfold plainT at h1
  split at h1
  · simp [hl] at h1
  split at h1
  · simp [hl] at h1
  split at h1
  · rename_i h2
    simp only [Bool.and_eq_true, decide_eq_true_eq] at h1
    exact ⟨h2, h1.1.1.1, h1.1.2⟩
  · cases h1

theorem Lay.out {w : World} {lb m : Nat} {ps : List TmP} {D : Nat → Bool} (h : Lay w lb m ps) (hm : ps.length = m) (hD : D lb = false) (hp : ∀ p ∈ ps, TmV (hide D w) p.1 (pVal p)) (hl : m * 56 ≤ BIG) : Tms (hide D w) (.slice (some ⟨lb, 0, none⟩) m m) (ps.map (·.1)) := by
  subst hm
  refine ⟨some ⟨lb, 0, none⟩, ps.length, by rw [List.length_map], by rw [List.length_map]; exact Nat.le_refl _, by unfold BIG at hl; unfold maxLen; omega, by rw [List.length_map]; exact hl, Or.inr ⟨_, _, rfl, by rw [hide_size]; exact h.lt, TmRow.mk fun i x hx => ?_⟩⟩
  rw [List.getElem?_map] at hx
  obtain ⟨p, hpi, rfl⟩ := Option.map_eq_some_iff.1 hx
  have hv := hp p (List.mem_of_getElem? hpi)
  have key : ∀ j u, (pCells p)[j]? = some u → (hide D w).cell? ⟨lb, 0 + i * 4 + j, none⟩ = some u := fun j u hu => by
    rw [hide_cell D w _ hD, Nat.zero_add]; exact h.done i p hpi j u hu
  exact ⟨_, _, _, _, key 0 _ rfl, key 1 _ rfl, key 2 _ rfl, key 3 _ rfl, hv⟩
end Go.Proofs.Ytbbbgijlbcmpbaa
/- The document's side of chapter 11: one more variable, in memory. -/
namespace Go.Proofs.Ytbbbgijlbcmpbaa
open Go.RowKit
set_option linter.unusedVariables false

section
variable {V w : World} {F : List Nat} {p : Value} {N : Nat} {R : List (Int × Tm)}
theorem IsR.grow (h : IsR V F w p N R) (hN : N < 65536) {bt : Nat} (hp : p = .pointer (some ⟨bt, 0, none⟩)) {a1 a2 : Option Addr} {c1 c2 : Nat} (hc1 : w.cell? ⟨bt, 0, none⟩ = some (.slice a1 N c1)) (hc2 : w.cell? ⟨bt, 1, none⟩ = some (.slice a2 N c2)) :
    ∃ xs ys, w.ownsRow 0 48 4 (.slice a1 N c1) N xs ∧ w.ownsRow 0 4 1 (.slice a2 N c2) N ys ∧
      (∀ x1 wA x2 : World, Below w.heap.size w x1 → x1.grownBy wA (Value.slice a1 N c1).ownBlock → Below wA.heap.size wA x2 → x2.ownsRow 0 4 1 (.slice a2 N c2) N ys ∧ (∀ j, x2.cell? ⟨bt, j, none⟩ = w.cell? ⟨bt, j, none⟩) ∧ (∀ j, x2.frozen? ⟨bt, j, none⟩ = false)) ∧
      ∀ (x1 wA x2 wB : World) (v1 v2 : Value), Below w.heap.size w x1 → x1.grownBy wA (Value.slice a1 N c1).ownBlock → (v1.ownBlock = (Value.slice a1 N c1).ownBlock ∨ v1.ownBlock = some x1.heap.size) → wA.ownsRow 0 48 4 v1 (N + 1) (xs ++ [.int .i64 0, .int .i64 0, .string ⟨#[]⟩, .slice none 0 0]) →
        Below wA.heap.size wA x2 → x2.grownBy wB (Value.slice a2 N c2).ownBlock → (v2.ownBlock = (Value.slice a2 N c2).ownBlock ∨ v2.ownBlock = some x2.heap.size) → wB.ownsRow 0 4 1 v2 (N + 1) (ys ++ [.bool false]) →
        (∀ j, wB.cell? ⟨bt, j, none⟩ = w.cell? ⟨bt, j, none⟩) ∧ (∀ j, wB.frozen? ⟨bt, j, none⟩ = false) ∧
          ∃ F', IsR V F' ((wB.setCell ⟨bt, 0, none⟩ v1).setCell ⟨bt, 1, none⟩ v2) p (N + 1) R ∧ Touch F w ((wB.setCell ⟨bt, 0, none⟩ v1).setCell ⟨bt, 1, none⟩ v2) ∧ (∀ k ∈ F', k ∈ F ∨ x1.heap.size ≤ k) ∧ (∀ k, w.heap.size ≤ k → k < x1.heap.size → ((wB.setCell ⟨bt, 0, none⟩ v1).setCell ⟨bt, 1, none⟩ v2).heap[k]? = x1.heap[k]?) ∧ x1.heap.size ≤ ((wB.setCell ⟨bt, 0, none⟩ v1).setCell ⟨bt, 1, none⟩ v2).heap.size := by
  have hF := h.lt
  obtain ⟨bt', v1, v2, v3, ts, bs, rfl, rfl, hn, h1, hl1, hl2, h4, h5, h6, h7, h8, h9, h10, h11⟩ := h
  cases hp
  have hv : v1 = .slice a1 N c1 := by
    have : w.cell? ⟨bt, 0, none⟩ = some v1 := by simp [blk_cell h1]
    rw [hc1] at this
    exact (Option.some.inj this).symm
  subst hv
  have hv : v2 = .slice a2 N c2 := by
    have : w.cell? ⟨bt, 1, none⟩ = some v2 := by simp [blk_cell h1]
    rw [hc2] at this
    exact (Option.some.inj this).symm
  subst hv
  have hnb := List.nodup_cons.1 hn
  have hbt : bt < w.heap.size := hF bt (by simp)
  have hb1 : (Value.slice a1 N c1).ownBlock ≠ some bt := fun e => hnb.1 (by simp [e])
  have hb2 : (Value.slice a2 N c2).ownBlock ≠ some bt := fun e => hnb.1 (by simp [e])
  have hb3 : v3.ownBlock ≠ some bt := fun e => hnb.1 (by simp [e])
  have h12 : ∀ k, (Value.slice a1 N c1).ownBlock = some k → (Value.slice a2 N c2).ownBlock ≠ some k := fun k e1 e2 => (List.nodup_append.1 hnb.2).2.2 k (by simp [e1]) k (by simp [e2]) rfl
  have h13 : ∀ k, (Value.slice a1 N c1).ownBlock = some k → v3.ownBlock ≠ some k := fun k e1 e2 => (List.nodup_append.1 hnb.2).2.2 k (by simp [e1]) k (by simp [e2]) rfl
  have h23 : ∀ k, (Value.slice a2 N c2).ownBlock = some k → v3.ownBlock ≠ some k := fun k e1 e2 => (List.nodup_append.1 (List.nodup_append.1 hnb.2).2.1).2.2 k (by simp [e1]) k (by simp [e2]) rfl
  have ho1 : ∀ k, (Value.slice a1 N c1).ownBlock = some k → k < w.heap.size := fun k e => hF k (by simp [e])
  have ho2 : ∀ k, (Value.slice a2 N c2).ownBlock = some k → k < w.heap.size := fun k e => hF k (by simp [e])
  have ho3 : ∀ k, v3.ownBlock = some k → k < w.heap.size := fun k e => hF k (by simp [e])
  have key2 : ∀ x1 wA x2 : World, Below w.heap.size w x1 → x1.grownBy wA (Value.slice a1 N c1).ownBlock → Below wA.heap.size wA x2 → ∀ k, k < w.heap.size → (Value.slice a1 N c1).ownBlock ≠ some k → x2.heap[k]? = w.heap[k]? := fun x1 wA x2 q1 q2 q3 k hk hne => by
    have := q1.size
    have := q2.size
    rw [q3.block k (by omega), q2.block k (by omega) (fun e => hne e.symm), q1.block k hk]
  refine ⟨_, _, h4, h5, fun x1 wA x2 q1 q2 q3 => ?_, fun x1 wA x2 wB u1 u2 q1 q2 q3 q4 q5 q6 q7 q8 => ?_⟩
  · have hb := key2 x1 wA x2 q1 q2 q3 bt hbt hb1
    exact ⟨row_at h5 (fun g hg => key2 x1 wA x2 q1 q2 q3 g (ho2 g hg) (fun e => h12 g e hg)), fun j => World.cell?_of_block hb, fun j => by simp [World.frozen?, hb, h1]⟩
  · have s1 := q1.size
    have s2 := q2.size
    have s3 := q5.size
    have s4 := q6.size
    have key : ∀ k, k < w.heap.size → (Value.slice a1 N c1).ownBlock ≠ some k → (Value.slice a2 N c2).ownBlock ≠ some k → wB.heap[k]? = w.heap[k]? := fun k hk e1 e2 => by
      rw [q6.block k (by omega) (fun e => e2 e.symm)]
      exact key2 x1 wA x2 q1 q2 q5 k hk e1
    have hb := key bt hbt hb1 hb2
    have bB := hb.trans h1
    have hu1 : ∀ k, u1.ownBlock = some k → (Value.slice a1 N c1).ownBlock = some k ∨ k = x1.heap.size := fun k hk => by
      rcases q3 with e | e <;> rw [hk] at e
      · exact Or.inl e.symm
      · injection e with e; exact Or.inr e
    have hu2 : ∀ k, u2.ownBlock = some k → (Value.slice a2 N c2).ownBlock = some k ∨ k = x2.heap.size := fun k hk => by
      rcases q7 with e | e <;> rw [hk] at e
      · exact Or.inl e.symm
      · injection e with e; exact Or.inr e
    have hwA : ∀ k, u1.ownBlock = some k → k < wA.heap.size := fun k hk => (q4.lt k hk).2
    have n1 : u1.ownBlock ≠ some bt := fun e => by
      rcases hu1 _ e with h | h
      · exact hb1 h
      · omega
    have n2 : u2.ownBlock ≠ some bt := fun e => by
      rcases hu2 _ e with h | h
      · exact hb2 h
      · omega
    have n12 : ∀ k, u1.ownBlock = some k → u2.ownBlock ≠ some k := fun k e1 e2 => by
      have hk := hwA k e1
      rcases hu1 k e1 with h | h <;> rcases hu2 k e2 with g | g
      · exact h12 k h g
      · omega
      · have := ho2 k g; omega
      · omega
    have n13 : ∀ k, u1.ownBlock = some k → v3.ownBlock ≠ some k := fun k e1 e2 => by
      rcases hu1 k e1 with h | h
      · exact h13 k h e2
      · have := ho3 k e2; omega
    have n23 : ∀ k, u2.ownBlock = some k → v3.ownBlock ≠ some k := fun k e1 e2 => by
      rcases hu2 k e1 with h | h
      · exact h23 k h e2
      · have := ho3 k e2; omega
    have hset : ∀ k, k ≠ bt → ((wB.setCell ⟨bt, 0, none⟩ u1).setCell ⟨bt, 1, none⟩ u2).heap[k]? = wB.heap[k]? := fun k hk => (Below.heap_setCell _ _ _ k hk).trans (Below.heap_setCell _ _ _ k hk)
    have tw : Touch (bt :: ((Value.slice a1 N c1).ownBlock.toList ++ ((Value.slice a2 N c2).ownBlock.toList ++ v3.ownBlock.toList))) w ((wB.setCell ⟨bt, 0, none⟩ u1).setCell ⟨bt, 1, none⟩ u2) := by
      refine ⟨q6.os.trans (q5.os.trans (q2.os.trans q1.os)), q6.tape.trans (q5.tape.trans (q2.tape.trans q1.tape)), q6.output.trans (q5.output.trans (q2.output.trans q1.output)), by simp [World.setCell]; omega, fun j hj hm => ?_⟩
      simp only [List.mem_cons, List.mem_append, Option.mem_toList, not_or] at hm
      rw [hset j hm.1]
      exact key j hj hm.2.1 hm.2.2.1
    have hin : ∀ k ∈ bt :: (u1.ownBlock.toList ++ (u2.ownBlock.toList ++ v3.ownBlock.toList)), k ∈ bt :: ((Value.slice a1 N c1).ownBlock.toList ++ ((Value.slice a2 N c2).ownBlock.toList ++ v3.ownBlock.toList)) ∨ x1.heap.size ≤ k := fun k hk => by
      simp only [List.mem_cons, List.mem_append, Option.mem_toList] at hk ⊢
      rcases hk with hk | hk | hk | hk
      · exact Or.inl (Or.inl hk)
      · rcases hu1 k hk with h | h
        · exact Or.inl (Or.inr (Or.inl h))
        · exact Or.inr (by omega)
      · rcases hu2 k hk with h | h
        · exact Or.inl (Or.inr (Or.inr (Or.inl h)))
        · exact Or.inr (by omega)
      · exact Or.inl (Or.inr (Or.inr (Or.inr hk)))
    refine ⟨fun j => World.cell?_of_block hb, fun j => by simp [World.frozen?, bB], _, ⟨bt, u1, u2, v3, ts ++ [(varV 0, .slice none 0 0)], bs ++ [false], rfl, rfl, ?_, ?_, by simp [hl1], by simp [hl2], ?_, ?_, ?_, ⟨fun i hi => ?_, fun i t ht => ?_⟩, h8.more, by omega, h10.touch h11 tw, Blind.some h11 h10 (fun k hk => (hin k hk).imp id (fun h => Nat.le_trans s1 h))⟩, tw, hin, fun k g1 g2 => by
      rw [hset k (by omega), q6.block k (by omega) (fun e => by have := ho2 k e.symm; omega), q5.block k (by omega), q2.block k g2 (fun e => by have := ho1 k e.symm; omega)], by simp [World.setCell]; omega⟩
    · refine List.nodup_cons.2 ⟨fun hm => ?_, List.nodup_append.2 ⟨by cases u1.ownBlock <;> simp, List.nodup_append.2 ⟨by cases u2.ownBlock <;> simp, by cases v3.ownBlock <;> simp, fun a ha b hb e => ?_⟩, fun a ha b hb e => ?_⟩⟩
      · simp only [List.mem_append, Option.mem_toList] at hm
        rcases hm with hm | hm | hm
        · exact n1 hm
        · exact n2 hm
        · exact hb3 hm
      · subst e
        simp only [Option.mem_toList] at ha hb
        exact n23 a ha hb
      · subst e
        simp only [List.mem_append, Option.mem_toList] at ha hb
        rcases hb with hb | hb
        · exact n12 a ha hb
        · exact n13 a ha hb
    · rw [blk_setc (blk_setc bB 0 u1) 1 u2]; rfl
    · rw [List.flatMap_append]
      refine row_at q4 (fun g hg => ?_)
      have hgb : g ≠ bt := fun e => n1 (by rw [← e]; exact hg)
      have hgA := hwA g hg
      rw [hset g hgb, q6.block g (by omega) (fun e => ?_), q5.block g hgA]
      rcases hu1 g hg with h | h
      · exact h12 g h e.symm
      · have := ho2 g e.symm; omega
    · rw [List.map_append]
      exact row_at q8 (fun g hg => hset g (fun e => n2 (by rw [← e]; exact hg)))
    · exact row_at h6 (fun g hg => by
        rw [hset g (fun e => hb3 (by rw [← e]; exact hg))]
        exact key g (ho3 g hg) (fun e => h13 g e hg) (fun e => h23 g e hg))
    · by_cases hiN : i < N
      · rw [List.getElem?_append_left (by omega)]
        exact h7.is i hiN
      · have : i = N := by omega
        subst this
        rw [List.getElem?_append_right (by omega), hl2, Nat.sub_self]
        have hno : getB R (i : Int) = none := by
          rw [get_none]
          intro hd
          obtain ⟨q, hq, e⟩ := List.mem_map.1 hd
          have := (h8.mem (p := q) hq).2.1
          omega
        rw [hno]; rfl
    · obtain ⟨u, e1, e2⟩ := h7.held i t ht
      exact ⟨u, by rw [List.getElem?_append_left (List.getElem?_eq_some_iff.1 e1).1]; exact e1, e2⟩
end
end Go.Proofs.Ytbbbgijlbcmpbaa
/- The document's side of chapter 11: Fresh. -/
namespace Go.Proofs.Ytbbbgijlbcmpbaa
open Go.RowKit
set_option linter.unusedVariables false

theorem infoBool : (Try.prog.info? 4).map (fun i => (i.zero, i.size, i.bytes)) = some (some (.bool false), 1, 1) := by kernel_rfl
section
variable {V w : World} {F : List Nat} {p : Value} {N : Nat} {R : List (Int × Tm)}
set_option maxHeartbeats 8000000 in
set_option maxRecDepth 100000 in
theorem RFresh_at (h : IsR V F w p N R) (hN : N < 65536) :
    Calls Try.prog 33 #[p] w fun e w' => ∃ F', e = .returned (.tuple #[.agg #[.int .i64 0, .int .i64 N, .string ⟨#[]⟩, .slice none 0 0], .bool true]) ∧ IsR V F' w' p (N + 1) R ∧ Touch F w w' ∧ ∀ k ∈ F', k ∈ F ∨ w.heap.size ≤ k := by
  have HLT := Lib.hid h.lt
  have HSEE := Lib.hid h.see
  obtain ⟨bt, a1, c1, a2, c2, a3, c3, rfl, hlt, d0, d1, _, _⟩ := h.open
  obtain ⟨xs, ys, hrow1, hrow2, hmid, hgrow⟩ := h.grow hN rfl d0 d1
  obtain ⟨i0, hi0, hz0, hs0, hb0⟩ := info_parts infoTermR
  have hbn : (∀ j, w.frozen? ⟨bt, j, none⟩ = false) := by
    obtain ⟨bt', v1, v2, v3, ts, bs, e, rfl, hn, h1, _⟩ := h
    cases e
    exact fun j => by simp [World.frozen?, h1]
  have hge : decide ((65536 : Int) ≤ (N : Int)) = false := by simp; omega
  have hwr : IntKind.i64.wrap (((N + 1 : Nat) : Int) - 1) = (N : Int) := by rw [IntKind.wrap_i64]; omega
  obtain ⟨w1, e1, B1, z1, X1⟩ := box_new w #[.int .i64 0, .int .i64 0, .string ⟨#[]⟩, .slice none 0 0] 48
  have HB1 := Lib.hid (And.intro B1 X1)
  have HO1 := Lib.hid (fun (k : Nat) (hk : some k = (Value.slice a1 N c1).ownBlock ∨ (Value.slice a1 N c1).ownBlock = some k) => (show k < w.heap.size from (hrow1.lt k (hk.elim Eq.symm id)).2))
  have HR1 := Lib.hid (fun (x : World) (hb : Below w.heap.size w x) => row_ext hrow1 hb)
  have HMID := Lib.hid hmid
  have HGROW := Lib.hid hgrow
  have k0 := cell_later B1 d0
  have k1 := cell_later B1 d1
  have f0 : w1.frozen? ⟨bt, 0, none⟩ = false := (B1.frozen (p := ⟨bt, 0, none⟩) hlt).trans (hbn 0)
  have f1 : w1.frozen? ⟨bt, 1, none⟩ = false := (B1.frozen (p := ⟨bt, 1, none⟩) hlt).trans (hbn 1)
  have HE1 := Lib.hid e1
  have HD0 := Lib.hid (And.intro d0 d1)
  have HZ1 := Lib.hid z1
  obtain ⟨j0, hj0, hy0, hy1, hy2⟩ := info_parts infoBool
  clear h hrow1 hrow2 hmid hgrow B1 X1 d0 d1 hbn e1
  go_enter Try.func33, Try.ntmps33
  go_upto_region 1 with fail
  rw [HE1.out]
  go_upto_region 3 with fail
  refine g_begin (B := fun w' => w'.frozen? ⟨bt, 0, none⟩ = false ∧ w'.frozen? ⟨bt, 1, none⟩ = false) (C := fun w' => w'.cell? ⟨bt, 0, none⟩ = some (.slice a1 N c1) ∧ w'.cell? ⟨bt, 1, none⟩ = some (.slice a2 N c2)) 17 (by kernel_rfl) ⟨f0, f1⟩ ⟨k0, k1⟩ (fun hHB hHC => ?_)
  refine g_tb (i := 0) ⟨hHB, fun _ => hHC⟩ ?_; apply Exists.intro; refine ⟨fun wq hq => ?_, ?_⟩; (focus ((try dsimp only at hq); go_simp; (first | done | with_reducible rfl | fail)))
  refine g_tb (i := 1) ⟨hHB, fun _ => hHC⟩ ?_; apply Exists.intro; refine ⟨fun wq hq => ?_, ?_⟩; (focus ((try dsimp only at hq); go_simp; (first | done | with_reducible rfl | fail)))
  refine g_tb (i := 2) ⟨hHB, fun _ => hHC⟩ ?_; apply Exists.intro; refine ⟨fun wq hq => ?_, ?_⟩; (focus ((try dsimp only at hq); go_simp; (first | done | with_reducible rfl | fail)))
  refine g_tb (i := 3) ⟨hHB, fun _ => hHC⟩ ?_; apply Exists.intro; refine ⟨fun wq hq => ?_, ?_⟩; (focus ((try dsimp only at hq); go_simp; (first | done | with_reducible rfl | fail)))
  refine g_tb (i := 4) ⟨hHB, fun _ => hHC⟩ ?_; apply Exists.intro; refine ⟨fun wq hq => ?_, ?_⟩; (focus ((try dsimp only at hq); go_simp; (first | done | with_reducible rfl | fail)))
  refine g_tc (i := 5) ⟨hHB, fun _ => hHC⟩ ?_; apply Exists.intro; refine ⟨fun wq hq => ?_, ?_⟩; (focus ((try dsimp only at hq); go_simp; (first | done | with_reducible rfl | fail)))
  refine g_tb (i := 6) ⟨hHB, fun _ => hHC⟩ ?_; apply Exists.intro; refine ⟨fun wq hq => ?_, ?_⟩; (focus ((try dsimp only at hq); go_simp; (first | done | with_reducible rfl | fail)))
  refine g_tb (i := 9) ⟨hHB, fun _ => hHC⟩ ?_; apply Exists.intro; refine ⟨fun wq hq => ?_, ?_⟩; (focus ((try dsimp only at hq); go_simp; (first | done | with_reducible rfl | fail)))
  refine g_tb (i := 10) ⟨hHB, fun _ => hHC⟩ ?_; apply Exists.intro; refine ⟨fun wq hq => ?_, ?_⟩; (focus ((try dsimp only at hq); go_simp; (first | done | with_reducible rfl | fail)))
  refine g_tb (i := 11) ⟨hHB, fun _ => hHC⟩ ?_; apply Exists.intro; refine ⟨fun wq hq => ?_, ?_⟩; (focus ((try dsimp only at hq); go_simp; (first | done | with_reducible rfl | fail)))
  refine g_tc (i := 12) ⟨hHB, fun _ => hHC⟩ ?_; apply Exists.intro; refine ⟨fun wq hq => ?_, ?_⟩; (focus ((try dsimp only at hq); go_simp; (first | done | with_reducible rfl | fail)))
  try simp only [Act.put, List.setIfInBounds_toArray, List.set_cons_zero, List.set_cons_succ]
  refine g_ready (rs := [7, 13]) (by kernel_rfl) (by simp) ?_
  refine AllReadyG.cons (by simp only [List.getElem?_toArray, List.getElem?_cons_zero, List.getElem?_cons_succ]; rfl) (fun K hK => ?_) (AllReadyG.cons (by simp only [List.getElem?_toArray, List.getElem?_cons_zero, List.getElem?_cons_succ]; rfl) (fun K hK => ?_) AllReadyG.nil)
  · go_simp
    refine hK.out _ _ ⟨⟨((bel1' _ _).frozen (p := ⟨bt, 0, none⟩) (World.block_lt_of_cell? _ _ hHC.1)).trans hHB.1, ((bel1' _ _).frozen (p := ⟨bt, 1, none⟩) (World.block_lt_of_cell? _ _ hHC.2)).trans hHB.2⟩, fun _ => ⟨cell_later (bel1' _ _) hHC.1, cell_later (bel1' _ _) hHC.2⟩⟩ (fun hHeld => ?_)
    replace hHB := hHeld.1
    replace hHC := hHeld.2 (by kernel_rfl)
    dsimp only at hHB hHC
    clear hHeld hK K
    try simp only [Act.put, List.setIfInBounds_toArray, List.set_cons_zero, List.set_cons_succ]
    refine g_ready (rs := [8, 13]) (by kernel_rfl) (by simp) ?_
    refine AllReadyG.cons (by simp only [List.getElem?_toArray, List.getElem?_cons_zero, List.getElem?_cons_succ]; rfl) (fun K hK => ?_) (AllReadyG.cons (by simp only [List.getElem?_toArray, List.getElem?_cons_zero, List.getElem?_cons_succ]; rfl) (fun K hK => ?_) AllReadyG.nil)
    · have HX1 := Lib.hid (show Below w.heap.size w (w1.alloc (.cells #[.int .i64 0, .int .i64 0, .string ⟨#[]⟩, .slice none 0 0] 48)).drew from (Ext.trans' HB1.out.1 (bel1' _ _)).drew)
      refine step_append_k (by rfl) _ _ 46 (by rfl) 0 48 i0 (.agg #[.int .i64 0, .int .i64 0, .string ⟨#[]⟩, .slice none 0 0]) 4 56 Try.underlying46 hi0 hz0 hs0 (by decide) hb0 rfl (.slice a1 N c1) N xs (by rfl) (HR1.out _ HX1.out) (some ⟨w.heap.size + 1, 0, none⟩) 1 1 [.int .i64 0, .int .i64 0, .string ⟨#[]⟩, .slice none 0 0] (by rfl) (by rfl) (Or.inr ⟨_, rfl, fun j u hu => (by rw [← HZ1.out]; exact cell_new w1 #[.int .i64 0, .int .i64 0, .string ⟨#[]⟩, .slice none 0 0] 48 j u hu)⟩) (by simp [Value.oneCell']) (by unfold maxLen; omega) (by omega) (Nat.zero_le _) (N + 1) (xs ++ [.int .i64 0, .int .i64 0, .string ⟨#[]⟩, .slice none 0 0]) rfl rfl ?_
      intro a4 c4 wA hownA hgrowA hatA
      obtain ⟨_, mc, mf⟩ := HMID.out _ wA wA HX1.out hgrowA (Below.refl _ _)
      have HGA := Lib.hid (And.intro hgrowA (And.intro hatA hownA))
      refine hK.out _ _ ⟨⟨mf 0, mf 1⟩, fun _ => ⟨(mc 0).trans HD0.out.1, (mc 1).trans HD0.out.2⟩⟩ (fun hHeld => ?_)
      replace hHB := hHeld.1
      replace hHC := hHeld.2 (by kernel_rfl)
      dsimp only at hHB hHC
      clear hHeld hK K
      try simp only [Act.put, List.setIfInBounds_toArray, List.set_cons_zero, List.set_cons_succ]
      clear mc mf hgrowA hatA hownA
      refine g_ready (rs := [13]) (by kernel_rfl) (by simp) ?_
      refine AllReadyG.cons (by simp only [List.getElem?_toArray, List.getElem?_cons_zero, List.getElem?_cons_succ]; rfl) (fun K hK => ?_) AllReadyG.nil
      go_simp
      refine hK.out _ _ ⟨⟨((bel1' _ _).frozen (p := ⟨bt, 0, none⟩) (World.block_lt_of_cell? _ _ hHC.1)).trans hHB.1, ((bel1' _ _).frozen (p := ⟨bt, 1, none⟩) (World.block_lt_of_cell? _ _ hHC.2)).trans hHB.2⟩, fun _ => ⟨cell_later (bel1' _ _) hHC.1, cell_later (bel1' _ _) hHC.2⟩⟩ (fun hHeld => ?_)
      replace hHB := hHeld.1
      replace hHC := hHeld.2 (by kernel_rfl)
      dsimp only at hHB hHC
      clear hHeld hK K
      try simp only [Act.put, List.setIfInBounds_toArray, List.set_cons_zero, List.set_cons_succ]
      refine g_ready (rs := [14]) (by kernel_rfl) (by simp) ?_
      refine AllReadyG.cons (by simp only [List.getElem?_toArray, List.getElem?_cons_zero, List.getElem?_cons_succ]; rfl) (fun K hK => ?_) AllReadyG.nil
      have HX2 := Lib.hid (bel1' wA (.cells #[.bool false] 4))
      refine step_append_k (by rfl) _ _ 50 (by rfl) 0 4 j0 (.bool false) 1 1 Try.underlying50 hj0 hy0 hy1 (by decide) hy2 rfl (.slice a2 N c2) N ys (by rfl) (HMID.out _ wA _ HX1.out HGA.out.1 HX2.out).1 (some ⟨wA.heap.size, 0, none⟩) 1 1 [.bool false] (by rfl) (by rfl) (Or.inr ⟨_, rfl, fun j u hu => cell_new wA #[.bool false] 4 j u hu⟩) (by simp [Value.oneCell']) (by unfold maxLen; omega) (by omega) (Nat.zero_le _) (N + 1) (ys ++ [.bool false]) rfl rfl ?_
      intro a5 c5 wB hownB hgrowB hatB
      obtain ⟨mc, mf, F', q1, q2, q3, q4, q5⟩ := HGROW.out _ wA _ wB (.slice a4 (N + 1) c4) (.slice a5 (N + 1) c5) HX1.out HGA.out.1 HGA.out.2.1 HGA.out.2.2 HX2.out hgrowB hatB hownB
      have HQ := Lib.hid (And.intro q1 (And.intro q2 q3))
      have HBX := Lib.hid (And.intro q4 q5)
      refine hK.out _ _ ⟨⟨mf 0, mf 1⟩, fun _ => ⟨(mc 0).trans HD0.out.1, (mc 1).trans HD0.out.2⟩⟩ (fun hHeld => ?_)
      replace hHB := hHeld.1
      replace hHC := hHeld.2 (by kernel_rfl)
      dsimp only at hHB hHC
      clear hHeld hK K
      try simp only [Act.put, List.setIfInBounds_toArray, List.set_cons_zero, List.set_cons_succ]
      clear mc mf q1 q2 q3 q4 q5 hownB hgrowB hatB
      refine g_tb (i := 15) ⟨hHB, fun _ => hHC⟩ ?_; apply Exists.intro; refine ⟨fun wq hq => ?_, ?_⟩; (focus ((try dsimp only at hq); go_simp; (first | done | with_reducible rfl | fail)))
      refine g_tb (i := 16) ⟨hHB, fun _ => hHC⟩ ?_; apply Exists.intro; refine ⟨fun wq hq => ?_, ?_⟩; (focus ((try dsimp only at hq); go_simp; (first | done | with_reducible rfl | fail)))
      try simp only [Act.put, List.setIfInBounds_toArray, List.set_cons_zero, List.set_cons_succ]
      refine g_ready (rs := [17]) (by kernel_rfl) (by simp) ?_
      refine AllReadyG.cons (by simp only [List.getElem?_toArray, List.getElem?_cons_zero, List.getElem?_cons_succ]; rfl) (fun K hK => ?_) AllReadyG.nil
      have HC0 := Lib.hid hHC.1
      have hC1 : (wB.setCell ⟨bt, 0, none⟩ (.slice a4 (N + 1) c4)).cell? ⟨bt, 1, none⟩ = some (.slice a2 N c2) := by rw [World.cell?_setCell_other]; exact hHC.2; intro e; injection e with _ e _; cases e
      go_simp
      refine hK.out _ _ ⟨(by (show (wB.setCell ⟨bt, 0, none⟩ (.slice a4 (N + 1) c4)).frozen? ⟨bt, 0, none⟩ = false ∧ (wB.setCell ⟨bt, 0, none⟩ (.slice a4 (N + 1) c4)).frozen? ⟨bt, 1, none⟩ = false); exact ⟨by rw [World.frozen?_setCell]; exact hHB.1, by rw [World.frozen?_setCell]; exact hHB.2⟩), (fun h => absurd h (by decide +kernel))⟩ (fun hHeld => ?_)
      replace hHB := hHeld.1
      dsimp only at hHB
      clear hHeld hK K
      try simp only [Act.put, List.setIfInBounds_toArray, List.set_cons_zero, List.set_cons_succ]
      refine g_tb (i := 18) ⟨hHB, (fun h => absurd h (by decide +kernel))⟩ ?_; apply Exists.intro; refine ⟨fun wq hq => ?_, ?_⟩; (focus ((try dsimp only at hq); go_simp; (first | done | with_reducible rfl | fail)))
      refine g_tb (i := 19) ⟨hHB, (fun h => absurd h (by decide +kernel))⟩ ?_; apply Exists.intro; refine ⟨fun wq hq => ?_, ?_⟩; (focus ((try dsimp only at hq); go_simp; (first | done | with_reducible rfl | fail)))
      try simp only [Act.put, List.setIfInBounds_toArray, List.set_cons_zero, List.set_cons_succ]
      refine g_ready (rs := [20]) (by kernel_rfl) (by simp) ?_
      refine AllReadyG.cons (by simp only [List.getElem?_toArray, List.getElem?_cons_zero, List.getElem?_cons_succ]; rfl) (fun K hK => ?_) AllReadyG.nil
      go_simp
      refine hK.out _ _ ⟨(by (show ((wB.setCell ⟨bt, 0, none⟩ (.slice a4 (N + 1) c4)).setCell ⟨bt, 1, none⟩ (.slice a5 (N + 1) c5)).frozen? ⟨bt, 0, none⟩ = false ∧ ((wB.setCell ⟨bt, 0, none⟩ (.slice a4 (N + 1) c4)).setCell ⟨bt, 1, none⟩ (.slice a5 (N + 1) c5)).frozen? ⟨bt, 1, none⟩ = false); exact ⟨by rw [World.frozen?_setCell]; exact hHB.1, by rw [World.frozen?_setCell]; exact hHB.2⟩), (fun h => absurd h (by decide +kernel))⟩ (fun hHeld => ?_)
      replace hHB := hHeld.1
      dsimp only at hHB
      clear hHeld hK K
      try simp only [Act.put, List.setIfInBounds_toArray, List.set_cons_zero, List.set_cons_succ]
      refine g_done (by kernel_rfl) ?_ _
      clear hHB hHC hC1
      have hbox : Box ((wB.setCell ⟨bt, 0, none⟩ (.slice a4 (N + 1) c4)).setCell ⟨bt, 1, none⟩ (.slice a5 (N + 1) c5)) w.heap.size [.int .i64 0, .int .i64 0, .string ⟨#[]⟩, .slice none 0 0] := by
        have hx : Box _ w.heap.size _ := HB1.out.2.ext ((bel1' w1 (.cells #[.int .i64 0, .int .i64 0, .string ⟨#[]⟩, .slice none 0 0] 48)).drew)
        exact hx.block (HBX.out.1 _ (Nat.le_refl _) hx.lt) (Nat.lt_of_lt_of_le hx.lt HBX.out.2)
      have hc0 : ((wB.setCell ⟨bt, 0, none⟩ (.slice a4 (N + 1) c4)).setCell ⟨bt, 1, none⟩ (.slice a5 (N + 1) c5)).cell? ⟨bt, 0, none⟩ = some (.slice a4 (N + 1) c4) := by
        rw [World.cell?_setCell_other]
        · exact css HC0.out
        · intro e; injection e with _ e _; cases e
      obtain ⟨wS, eS⟩ : ∃ wS, (wB.setCell ⟨bt, 0, none⟩ (.slice a4 (N + 1) c4)).setCell ⟨bt, 1, none⟩ (.slice a5 (N + 1) c5) = wS := ⟨_, rfl⟩
      rw [eS] at hbox hc0 HQ
      rw [eS]
      clear eS HBX
      obtain ⟨x0, x1, x2, x3, xf⟩ := hbox.four
      have HEND := Lib.hid (show ∀ u0 u1 u2 u3, IsR V F' (set4 wS w.heap.size u0 u1 u2 u3) (.pointer (some ⟨bt, 0, none⟩)) (N + 1) R ∧ Touch F w (set4 wS w.heap.size u0 u1 u2 u3) ∧ ∀ k ∈ F', k ∈ F ∨ w.heap.size ≤ k from fun u0 u1 u2 u3 => by
        have ht : Touch [w.heap.size] wS (set4 wS w.heap.size u0 u1 u2 u3) := ⟨rfl, rfl, rfl, Nat.le_of_eq (set4_size _ _ _ _ _ _).symm, fun j hj hn => set4_other _ _ _ _ _ _ j (by simpa using hn)⟩
        have hx1 : w.heap.size < (w1.alloc (.cells #[.int .i64 0, .int .i64 0, .string ⟨#[]⟩, .slice none 0 0] 48)).drew.heap.size := by have := HZ1.out; show _ < (w1.alloc (.cells #[.int .i64 0, .int .i64 0, .string ⟨#[]⟩, .slice none 0 0] 48)).heap.size; simp; omega
        have hFr : ∀ k ∈ [w.heap.size], ¬ k ∈ F' := fun k hk hm => by
          simp at hk
          subst hk
          rcases HQ.out.2.2 _ hm with h | h
          · have := HLT.out _ h; omega
          · exact absurd hx1 (Nat.not_lt.2 h)
        exact ⟨HQ.out.1.touch ht hFr (Blind.new HSEE.out.1 (fun k hk => by simp at hk; omega)), HQ.out.2.1.four (Nat.le_refl _) _ _ _ _, fun k hk => (HQ.out.2.2 k hk).imp id (fun h => Nat.le_of_lt (Nat.lt_of_lt_of_le hx1 h))⟩)
      clear hbox
      go_wp2
      refine bodyPost_ret (v := .tuple #[.agg #[.int .i64 0, .int .i64 N, .string ⟨#[]⟩, .slice none 0 0], .bool true]) (by rw [results_cell_tmp rfl]; go_simp) rfl ?_
      obtain ⟨q1, q2, q3⟩ := HEND.out (.int .i64 0) (.int .i64 N) (.string ⟨#[]⟩) (.slice none 0 0)
      first | exact ⟨F', rfl, q1, q2, q3⟩ | exact ⟨rfl, F', q1, q2, q3⟩
    · go_simp
      refine hK.out _ _ ⟨⟨((bel1' _ _).frozen (p := ⟨bt, 0, none⟩) (World.block_lt_of_cell? _ _ hHC.1)).trans hHB.1, ((bel1' _ _).frozen (p := ⟨bt, 1, none⟩) (World.block_lt_of_cell? _ _ hHC.2)).trans hHB.2⟩, fun _ => ⟨cell_later (bel1' _ _) hHC.1, cell_later (bel1' _ _) hHC.2⟩⟩ (fun hHeld => ?_)
      replace hHB := hHeld.1
      replace hHC := hHeld.2 (by kernel_rfl)
      dsimp only at hHB hHC
      clear hHeld hK K
      try simp only [Act.put, List.setIfInBounds_toArray, List.set_cons_zero, List.set_cons_succ]
      refine g_ready (rs := [8]) (by kernel_rfl) (by simp) ?_
      refine AllReadyG.cons (by simp only [List.getElem?_toArray, List.getElem?_cons_zero, List.getElem?_cons_succ]; rfl) (fun K hK => ?_) AllReadyG.nil
      have HX1 := Lib.hid (show Below w.heap.size w ((w1.alloc (.cells #[.int .i64 0, .int .i64 0, .string ⟨#[]⟩, .slice none 0 0] 48)).alloc (.cells #[.bool false] 4)).drew from (Ext.trans' (Ext.trans' HB1.out.1 (bel1' _ _)) (bel1' _ _)).drew)
      refine step_append_k (by rfl) _ _ 46 (by rfl) 0 48 i0 (.agg #[.int .i64 0, .int .i64 0, .string ⟨#[]⟩, .slice none 0 0]) 4 56 Try.underlying46 hi0 hz0 hs0 (by decide) hb0 rfl (.slice a1 N c1) N xs (by rfl) (HR1.out _ HX1.out) (some ⟨w.heap.size + 1, 0, none⟩) 1 1 [.int .i64 0, .int .i64 0, .string ⟨#[]⟩, .slice none 0 0] (by rfl) (by rfl) (Or.inr ⟨_, rfl, fun j u hu => cell_later (bel1' _ _).drew (by rw [← HZ1.out]; exact cell_new w1 #[.int .i64 0, .int .i64 0, .string ⟨#[]⟩, .slice none 0 0] 48 j u hu)⟩) (by simp [Value.oneCell']) (by unfold maxLen; omega) (by omega) (Nat.zero_le _) (N + 1) (xs ++ [.int .i64 0, .int .i64 0, .string ⟨#[]⟩, .slice none 0 0]) rfl rfl ?_
      intro a4 c4 wA hownA hgrowA hatA
      obtain ⟨_, mc, mf⟩ := HMID.out _ wA wA HX1.out hgrowA (Below.refl _ _)
      have HGA := Lib.hid (And.intro hgrowA (And.intro hatA hownA))
      refine hK.out _ _ ⟨⟨mf 0, mf 1⟩, fun _ => ⟨(mc 0).trans HD0.out.1, (mc 1).trans HD0.out.2⟩⟩ (fun hHeld => ?_)
      replace hHB := hHeld.1
      replace hHC := hHeld.2 (by kernel_rfl)
      dsimp only at hHB hHC
      clear hHeld hK K
      try simp only [Act.put, List.setIfInBounds_toArray, List.set_cons_zero, List.set_cons_succ]
      clear mc mf hgrowA hatA hownA
      refine g_ready (rs := [14]) (by kernel_rfl) (by simp) ?_
      refine AllReadyG.cons (by simp only [List.getElem?_toArray, List.getElem?_cons_zero, List.getElem?_cons_succ]; rfl) (fun K hK => ?_) AllReadyG.nil
      have HX2 := Lib.hid (Below.refl wA.heap.size wA)
      refine step_append_k (by rfl) _ _ 50 (by rfl) 0 4 j0 (.bool false) 1 1 Try.underlying50 hj0 hy0 hy1 (by decide) hy2 rfl (.slice a2 N c2) N ys (by rfl) (HMID.out _ wA _ HX1.out HGA.out.1 HX2.out).1 (some ⟨w.heap.size + 1 + 1, 0, none⟩) 1 1 [.bool false] (by rfl) (by rfl) (Or.inr ⟨_, rfl, fun j u hu => (World.cell?_of_block (a := (⟨w.heap.size + 1 + 1, 0, none⟩ : Addr).add j) (by rw [add_plain]; exact HGA.out.1.block (w.heap.size + 1 + 1) (by show w.heap.size + 1 + 1 < (((w1.alloc (.cells #[.int .i64 0, .int .i64 0, .string ⟨#[]⟩, .slice none 0 0] 48)).alloc (.cells #[.bool false] 4))).heap.size; have := HZ1.out; first | (simp; omega) | simp [*] | simp) (fun e => by have := HO1.out _ (by first | exact Or.inl e | exact Or.inr e); omega))).trans (show (((w1.alloc (.cells #[.int .i64 0, .int .i64 0, .string ⟨#[]⟩, .slice none 0 0] 48)).alloc (.cells #[.bool false] 4))).cell? ((⟨w.heap.size + 1 + 1, 0, none⟩ : Addr).add j) = some u from by have h := cell_new (w1.alloc (.cells #[.int .i64 0, .int .i64 0, .string ⟨#[]⟩, .slice none 0 0] 48)) #[.bool false] 4 j u hu; rw [show (w1.alloc (.cells #[.int .i64 0, .int .i64 0, .string ⟨#[]⟩, .slice none 0 0] 48)).heap.size = w.heap.size + 1 + 1 by simp [HZ1.out]] at h; exact h)⟩) (by simp [Value.oneCell']) (by unfold maxLen; omega) (by omega) (Nat.zero_le _) (N + 1) (ys ++ [.bool false]) rfl rfl ?_
      intro a5 c5 wB hownB hgrowB hatB
      obtain ⟨mc, mf, F', q1, q2, q3, q4, q5⟩ := HGROW.out _ wA _ wB (.slice a4 (N + 1) c4) (.slice a5 (N + 1) c5) HX1.out HGA.out.1 HGA.out.2.1 HGA.out.2.2 HX2.out hgrowB hatB hownB
      have HQ := Lib.hid (And.intro q1 (And.intro q2 q3))
      have HBX := Lib.hid (And.intro q4 q5)
      refine hK.out _ _ ⟨⟨mf 0, mf 1⟩, fun _ => ⟨(mc 0).trans HD0.out.1, (mc 1).trans HD0.out.2⟩⟩ (fun hHeld => ?_)
      replace hHB := hHeld.1
      replace hHC := hHeld.2 (by kernel_rfl)
      dsimp only at hHB hHC
      clear hHeld hK K
      try simp only [Act.put, List.setIfInBounds_toArray, List.set_cons_zero, List.set_cons_succ]
      clear mc mf q1 q2 q3 q4 q5 hownB hgrowB hatB
      refine g_tb (i := 15) ⟨hHB, fun _ => hHC⟩ ?_; apply Exists.intro; refine ⟨fun wq hq => ?_, ?_⟩; (focus ((try dsimp only at hq); go_simp; (first | done | with_reducible rfl | fail)))
      refine g_tb (i := 16) ⟨hHB, fun _ => hHC⟩ ?_; apply Exists.intro; refine ⟨fun wq hq => ?_, ?_⟩; (focus ((try dsimp only at hq); go_simp; (first | done | with_reducible rfl | fail)))
      try simp only [Act.put, List.setIfInBounds_toArray, List.set_cons_zero, List.set_cons_succ]
      refine g_ready (rs := [17]) (by kernel_rfl) (by simp) ?_
      refine AllReadyG.cons (by simp only [List.getElem?_toArray, List.getElem?_cons_zero, List.getElem?_cons_succ]; rfl) (fun K hK => ?_) AllReadyG.nil
      have HC0 := Lib.hid hHC.1
      have hC1 : (wB.setCell ⟨bt, 0, none⟩ (.slice a4 (N + 1) c4)).cell? ⟨bt, 1, none⟩ = some (.slice a2 N c2) := by rw [World.cell?_setCell_other]; exact hHC.2; intro e; injection e with _ e _; cases e
      go_simp
      refine hK.out _ _ ⟨(by (show (wB.setCell ⟨bt, 0, none⟩ (.slice a4 (N + 1) c4)).frozen? ⟨bt, 0, none⟩ = false ∧ (wB.setCell ⟨bt, 0, none⟩ (.slice a4 (N + 1) c4)).frozen? ⟨bt, 1, none⟩ = false); exact ⟨by rw [World.frozen?_setCell]; exact hHB.1, by rw [World.frozen?_setCell]; exact hHB.2⟩), (fun h => absurd h (by decide +kernel))⟩ (fun hHeld => ?_)
      replace hHB := hHeld.1
      dsimp only at hHB
      clear hHeld hK K
      try simp only [Act.put, List.setIfInBounds_toArray, List.set_cons_zero, List.set_cons_succ]
      refine g_tb (i := 18) ⟨hHB, (fun h => absurd h (by decide +kernel))⟩ ?_; apply Exists.intro; refine ⟨fun wq hq => ?_, ?_⟩; (focus ((try dsimp only at hq); go_simp; (first | done | with_reducible rfl | fail)))
      refine g_tb (i := 19) ⟨hHB, (fun h => absurd h (by decide +kernel))⟩ ?_; apply Exists.intro; refine ⟨fun wq hq => ?_, ?_⟩; (focus ((try dsimp only at hq); go_simp; (first | done | with_reducible rfl | fail)))
      try simp only [Act.put, List.setIfInBounds_toArray, List.set_cons_zero, List.set_cons_succ]
      refine g_ready (rs := [20]) (by kernel_rfl) (by simp) ?_
      refine AllReadyG.cons (by simp only [List.getElem?_toArray, List.getElem?_cons_zero, List.getElem?_cons_succ]; rfl) (fun K hK => ?_) AllReadyG.nil
      go_simp
      refine hK.out _ _ ⟨(by (show ((wB.setCell ⟨bt, 0, none⟩ (.slice a4 (N + 1) c4)).setCell ⟨bt, 1, none⟩ (.slice a5 (N + 1) c5)).frozen? ⟨bt, 0, none⟩ = false ∧ ((wB.setCell ⟨bt, 0, none⟩ (.slice a4 (N + 1) c4)).setCell ⟨bt, 1, none⟩ (.slice a5 (N + 1) c5)).frozen? ⟨bt, 1, none⟩ = false); exact ⟨by rw [World.frozen?_setCell]; exact hHB.1, by rw [World.frozen?_setCell]; exact hHB.2⟩), (fun h => absurd h (by decide +kernel))⟩ (fun hHeld => ?_)
      replace hHB := hHeld.1
      dsimp only at hHB
      clear hHeld hK K
      try simp only [Act.put, List.setIfInBounds_toArray, List.set_cons_zero, List.set_cons_succ]
      refine g_done (by kernel_rfl) ?_ _
      clear hHB hHC hC1
      have hbox : Box ((wB.setCell ⟨bt, 0, none⟩ (.slice a4 (N + 1) c4)).setCell ⟨bt, 1, none⟩ (.slice a5 (N + 1) c5)) w.heap.size [.int .i64 0, .int .i64 0, .string ⟨#[]⟩, .slice none 0 0] := by
        have hx : Box _ w.heap.size _ := HB1.out.2.ext ((Ext.trans' (bel1' w1 (.cells #[.int .i64 0, .int .i64 0, .string ⟨#[]⟩, .slice none 0 0] 48)) (bel1' _ (.cells #[.bool false] 4))).drew)
        exact hx.block (HBX.out.1 _ (Nat.le_refl _) hx.lt) (Nat.lt_of_lt_of_le hx.lt HBX.out.2)
      have hc0 : ((wB.setCell ⟨bt, 0, none⟩ (.slice a4 (N + 1) c4)).setCell ⟨bt, 1, none⟩ (.slice a5 (N + 1) c5)).cell? ⟨bt, 0, none⟩ = some (.slice a4 (N + 1) c4) := by
        rw [World.cell?_setCell_other]
        · exact css HC0.out
        · intro e; injection e with _ e _; cases e
      obtain ⟨wS, eS⟩ : ∃ wS, (wB.setCell ⟨bt, 0, none⟩ (.slice a4 (N + 1) c4)).setCell ⟨bt, 1, none⟩ (.slice a5 (N + 1) c5) = wS := ⟨_, rfl⟩
      rw [eS] at hbox hc0 HQ
      rw [eS]
      clear eS HBX
      obtain ⟨x0, x1, x2, x3, xf⟩ := hbox.four
      have HEND := Lib.hid (show ∀ u0 u1 u2 u3, IsR V F' (set4 wS w.heap.size u0 u1 u2 u3) (.pointer (some ⟨bt, 0, none⟩)) (N + 1) R ∧ Touch F w (set4 wS w.heap.size u0 u1 u2 u3) ∧ ∀ k ∈ F', k ∈ F ∨ w.heap.size ≤ k from fun u0 u1 u2 u3 => by
        have ht : Touch [w.heap.size] wS (set4 wS w.heap.size u0 u1 u2 u3) := ⟨rfl, rfl, rfl, Nat.le_of_eq (set4_size _ _ _ _ _ _).symm, fun j hj hn => set4_other _ _ _ _ _ _ j (by simpa using hn)⟩
        have hx1 : w.heap.size < ((w1.alloc (.cells #[.int .i64 0, .int .i64 0, .string ⟨#[]⟩, .slice none 0 0] 48)).alloc (.cells #[.bool false] 4)).drew.heap.size := by have := HZ1.out; show _ < ((w1.alloc (.cells #[.int .i64 0, .int .i64 0, .string ⟨#[]⟩, .slice none 0 0] 48)).alloc (.cells #[.bool false] 4)).heap.size; simp; omega
        have hFr : ∀ k ∈ [w.heap.size], ¬ k ∈ F' := fun k hk hm => by
          simp at hk
          subst hk
          rcases HQ.out.2.2 _ hm with h | h
          · have := HLT.out _ h; omega
          · exact absurd hx1 (Nat.not_lt.2 h)
        exact ⟨HQ.out.1.touch ht hFr (Blind.new HSEE.out.1 (fun k hk => by simp at hk; omega)), HQ.out.2.1.four (Nat.le_refl _) _ _ _ _, fun k hk => (HQ.out.2.2 k hk).imp id (fun h => Nat.le_of_lt (Nat.lt_of_lt_of_le hx1 h))⟩)
      clear hbox
      go_wp2
      refine bodyPost_ret (v := .tuple #[.agg #[.int .i64 0, .int .i64 N, .string ⟨#[]⟩, .slice none 0 0], .bool true]) (by rw [results_cell_tmp rfl]; go_simp) rfl ?_
      obtain ⟨q1, q2, q3⟩ := HEND.out (.int .i64 0) (.int .i64 N) (.string ⟨#[]⟩) (.slice none 0 0)
      first | exact ⟨F', rfl, q1, q2, q3⟩ | exact ⟨rfl, F', q1, q2, q3⟩
  · go_simp
    refine hK.out _ _ ⟨⟨((bel1' _ _).frozen (p := ⟨bt, 0, none⟩) (World.block_lt_of_cell? _ _ hHC.1)).trans hHB.1, ((bel1' _ _).frozen (p := ⟨bt, 1, none⟩) (World.block_lt_of_cell? _ _ hHC.2)).trans hHB.2⟩, fun _ => ⟨cell_later (bel1' _ _) hHC.1, cell_later (bel1' _ _) hHC.2⟩⟩ (fun hHeld => ?_)
    replace hHB := hHeld.1
    replace hHC := hHeld.2 (by kernel_rfl)
    dsimp only at hHB hHC
    clear hHeld hK K
    try simp only [Act.put, List.setIfInBounds_toArray, List.set_cons_zero, List.set_cons_succ]
    refine g_ready (rs := [7]) (by kernel_rfl) (by simp) ?_
    refine AllReadyG.cons (by simp only [List.getElem?_toArray, List.getElem?_cons_zero, List.getElem?_cons_succ]; rfl) (fun K hK => ?_) AllReadyG.nil
    go_simp
    refine hK.out _ _ ⟨⟨((bel1' _ _).frozen (p := ⟨bt, 0, none⟩) (World.block_lt_of_cell? _ _ hHC.1)).trans hHB.1, ((bel1' _ _).frozen (p := ⟨bt, 1, none⟩) (World.block_lt_of_cell? _ _ hHC.2)).trans hHB.2⟩, fun _ => ⟨cell_later (bel1' _ _) hHC.1, cell_later (bel1' _ _) hHC.2⟩⟩ (fun hHeld => ?_)
    replace hHB := hHeld.1
    replace hHC := hHeld.2 (by kernel_rfl)
    dsimp only at hHB hHC
    clear hHeld hK K
    try simp only [Act.put, List.setIfInBounds_toArray, List.set_cons_zero, List.set_cons_succ]
    refine g_ready (rs := [8]) (by kernel_rfl) (by simp) ?_
    refine AllReadyG.cons (by simp only [List.getElem?_toArray, List.getElem?_cons_zero, List.getElem?_cons_succ]; rfl) (fun K hK => ?_) AllReadyG.nil
    have HX1 := Lib.hid (show Below w.heap.size w ((w1.alloc (.cells #[.bool false] 4)).alloc (.cells #[.int .i64 0, .int .i64 0, .string ⟨#[]⟩, .slice none 0 0] 48)).drew from (Ext.trans' (Ext.trans' HB1.out.1 (bel1' _ _)) (bel1' _ _)).drew)
    refine step_append_k (by rfl) _ _ 46 (by rfl) 0 48 i0 (.agg #[.int .i64 0, .int .i64 0, .string ⟨#[]⟩, .slice none 0 0]) 4 56 Try.underlying46 hi0 hz0 hs0 (by decide) hb0 rfl (.slice a1 N c1) N xs (by rfl) (HR1.out _ HX1.out) (some ⟨w.heap.size + 1 + 1, 0, none⟩) 1 1 [.int .i64 0, .int .i64 0, .string ⟨#[]⟩, .slice none 0 0] (by rfl) (by rfl) (Or.inr ⟨_, rfl, fun j u hu => (by have h := cell_new (w1.alloc (.cells #[.bool false] 4)) #[.int .i64 0, .int .i64 0, .string ⟨#[]⟩, .slice none 0 0] 48 j u hu; rw [show (w1.alloc (.cells #[.bool false] 4)).heap.size = w.heap.size + 1 + 1 by simp [HZ1.out]] at h; exact h)⟩) (by simp [Value.oneCell']) (by unfold maxLen; omega) (by omega) (Nat.zero_le _) (N + 1) (xs ++ [.int .i64 0, .int .i64 0, .string ⟨#[]⟩, .slice none 0 0]) rfl rfl ?_
    intro a4 c4 wA hownA hgrowA hatA
    obtain ⟨_, mc, mf⟩ := HMID.out _ wA wA HX1.out hgrowA (Below.refl _ _)
    have HGA := Lib.hid (And.intro hgrowA (And.intro hatA hownA))
    refine hK.out _ _ ⟨⟨mf 0, mf 1⟩, fun _ => ⟨(mc 0).trans HD0.out.1, (mc 1).trans HD0.out.2⟩⟩ (fun hHeld => ?_)
    replace hHB := hHeld.1
    replace hHC := hHeld.2 (by kernel_rfl)
    dsimp only at hHB hHC
    clear hHeld hK K
    try simp only [Act.put, List.setIfInBounds_toArray, List.set_cons_zero, List.set_cons_succ]
    clear mc mf hgrowA hatA hownA
    refine g_ready (rs := [14]) (by kernel_rfl) (by simp) ?_
    refine AllReadyG.cons (by simp only [List.getElem?_toArray, List.getElem?_cons_zero, List.getElem?_cons_succ]; rfl) (fun K hK => ?_) AllReadyG.nil
    have HX2 := Lib.hid (Below.refl wA.heap.size wA)
    refine step_append_k (by rfl) _ _ 50 (by rfl) 0 4 j0 (.bool false) 1 1 Try.underlying50 hj0 hy0 hy1 (by decide) hy2 rfl (.slice a2 N c2) N ys (by rfl) (HMID.out _ wA _ HX1.out HGA.out.1 HX2.out).1 (some ⟨w.heap.size + 1, 0, none⟩) 1 1 [.bool false] (by rfl) (by rfl) (Or.inr ⟨_, rfl, fun j u hu => (World.cell?_of_block (a := (⟨w.heap.size + 1, 0, none⟩ : Addr).add j) (by rw [add_plain]; exact HGA.out.1.block (w.heap.size + 1) (by show w.heap.size + 1 < (((w1.alloc (.cells #[.bool false] 4)).alloc (.cells #[.int .i64 0, .int .i64 0, .string ⟨#[]⟩, .slice none 0 0] 48))).heap.size; have := HZ1.out; first | (simp; omega) | simp [*] | simp) (fun e => by have := HO1.out _ (by first | exact Or.inl e | exact Or.inr e); omega))).trans (cell_later (bel1' (w1.alloc (.cells #[.bool false] 4)) (.cells #[.int .i64 0, .int .i64 0, .string ⟨#[]⟩, .slice none 0 0] 48)).drew (by rw [← HZ1.out]; exact cell_new w1 #[.bool false] 4 j u hu))⟩) (by simp [Value.oneCell']) (by unfold maxLen; omega) (by omega) (Nat.zero_le _) (N + 1) (ys ++ [.bool false]) rfl rfl ?_
    intro a5 c5 wB hownB hgrowB hatB
    obtain ⟨mc, mf, F', q1, q2, q3, q4, q5⟩ := HGROW.out _ wA _ wB (.slice a4 (N + 1) c4) (.slice a5 (N + 1) c5) HX1.out HGA.out.1 HGA.out.2.1 HGA.out.2.2 HX2.out hgrowB hatB hownB
    have HQ := Lib.hid (And.intro q1 (And.intro q2 q3))
    have HBX := Lib.hid (And.intro q4 q5)
    refine hK.out _ _ ⟨⟨mf 0, mf 1⟩, fun _ => ⟨(mc 0).trans HD0.out.1, (mc 1).trans HD0.out.2⟩⟩ (fun hHeld => ?_)
    replace hHB := hHeld.1
    replace hHC := hHeld.2 (by kernel_rfl)
    dsimp only at hHB hHC
    clear hHeld hK K
    try simp only [Act.put, List.setIfInBounds_toArray, List.set_cons_zero, List.set_cons_succ]
    clear mc mf q1 q2 q3 q4 q5 hownB hgrowB hatB
    refine g_tb (i := 15) ⟨hHB, fun _ => hHC⟩ ?_; apply Exists.intro; refine ⟨fun wq hq => ?_, ?_⟩; (focus ((try dsimp only at hq); go_simp; (first | done | with_reducible rfl | fail)))
    refine g_tb (i := 16) ⟨hHB, fun _ => hHC⟩ ?_; apply Exists.intro; refine ⟨fun wq hq => ?_, ?_⟩; (focus ((try dsimp only at hq); go_simp; (first | done | with_reducible rfl | fail)))
    try simp only [Act.put, List.setIfInBounds_toArray, List.set_cons_zero, List.set_cons_succ]
    refine g_ready (rs := [17]) (by kernel_rfl) (by simp) ?_
    refine AllReadyG.cons (by simp only [List.getElem?_toArray, List.getElem?_cons_zero, List.getElem?_cons_succ]; rfl) (fun K hK => ?_) AllReadyG.nil
    have HC0 := Lib.hid hHC.1
    have hC1 : (wB.setCell ⟨bt, 0, none⟩ (.slice a4 (N + 1) c4)).cell? ⟨bt, 1, none⟩ = some (.slice a2 N c2) := by rw [World.cell?_setCell_other]; exact hHC.2; intro e; injection e with _ e _; cases e
    go_simp
    refine hK.out _ _ ⟨(by (show (wB.setCell ⟨bt, 0, none⟩ (.slice a4 (N + 1) c4)).frozen? ⟨bt, 0, none⟩ = false ∧ (wB.setCell ⟨bt, 0, none⟩ (.slice a4 (N + 1) c4)).frozen? ⟨bt, 1, none⟩ = false); exact ⟨by rw [World.frozen?_setCell]; exact hHB.1, by rw [World.frozen?_setCell]; exact hHB.2⟩), (fun h => absurd h (by decide +kernel))⟩ (fun hHeld => ?_)
    replace hHB := hHeld.1
    dsimp only at hHB
    clear hHeld hK K
    try simp only [Act.put, List.setIfInBounds_toArray, List.set_cons_zero, List.set_cons_succ]
    refine g_tb (i := 18) ⟨hHB, (fun h => absurd h (by decide +kernel))⟩ ?_; apply Exists.intro; refine ⟨fun wq hq => ?_, ?_⟩; (focus ((try dsimp only at hq); go_simp; (first | done | with_reducible rfl | fail)))
    refine g_tb (i := 19) ⟨hHB, (fun h => absurd h (by decide +kernel))⟩ ?_; apply Exists.intro; refine ⟨fun wq hq => ?_, ?_⟩; (focus ((try dsimp only at hq); go_simp; (first | done | with_reducible rfl | fail)))
    try simp only [Act.put, List.setIfInBounds_toArray, List.set_cons_zero, List.set_cons_succ]
    refine g_ready (rs := [20]) (by kernel_rfl) (by simp) ?_
    refine AllReadyG.cons (by simp only [List.getElem?_toArray, List.getElem?_cons_zero, List.getElem?_cons_succ]; rfl) (fun K hK => ?_) AllReadyG.nil
    go_simp
    refine hK.out _ _ ⟨(by (show ((wB.setCell ⟨bt, 0, none⟩ (.slice a4 (N + 1) c4)).setCell ⟨bt, 1, none⟩ (.slice a5 (N + 1) c5)).frozen? ⟨bt, 0, none⟩ = false ∧ ((wB.setCell ⟨bt, 0, none⟩ (.slice a4 (N + 1) c4)).setCell ⟨bt, 1, none⟩ (.slice a5 (N + 1) c5)).frozen? ⟨bt, 1, none⟩ = false); exact ⟨by rw [World.frozen?_setCell]; exact hHB.1, by rw [World.frozen?_setCell]; exact hHB.2⟩), (fun h => absurd h (by decide +kernel))⟩ (fun hHeld => ?_)
    replace hHB := hHeld.1
    dsimp only at hHB
    clear hHeld hK K
    try simp only [Act.put, List.setIfInBounds_toArray, List.set_cons_zero, List.set_cons_succ]
    refine g_done (by kernel_rfl) ?_ _
    clear hHB hHC hC1
    have hbox : Box ((wB.setCell ⟨bt, 0, none⟩ (.slice a4 (N + 1) c4)).setCell ⟨bt, 1, none⟩ (.slice a5 (N + 1) c5)) w.heap.size [.int .i64 0, .int .i64 0, .string ⟨#[]⟩, .slice none 0 0] := by
      have hx : Box _ w.heap.size _ := HB1.out.2.ext ((Ext.trans' (bel1' w1 (.cells #[.bool false] 4)) (bel1' _ (.cells #[.int .i64 0, .int .i64 0, .string ⟨#[]⟩, .slice none 0 0] 48))).drew)
      exact hx.block (HBX.out.1 _ (Nat.le_refl _) hx.lt) (Nat.lt_of_lt_of_le hx.lt HBX.out.2)
    have hc0 : ((wB.setCell ⟨bt, 0, none⟩ (.slice a4 (N + 1) c4)).setCell ⟨bt, 1, none⟩ (.slice a5 (N + 1) c5)).cell? ⟨bt, 0, none⟩ = some (.slice a4 (N + 1) c4) := by
      rw [World.cell?_setCell_other]
      · exact css HC0.out
      · intro e; injection e with _ e _; cases e
    obtain ⟨wS, eS⟩ : ∃ wS, (wB.setCell ⟨bt, 0, none⟩ (.slice a4 (N + 1) c4)).setCell ⟨bt, 1, none⟩ (.slice a5 (N + 1) c5) = wS := ⟨_, rfl⟩
    rw [eS] at hbox hc0 HQ
    rw [eS]
    clear eS HBX
    obtain ⟨x0, x1, x2, x3, xf⟩ := hbox.four
    have HEND := Lib.hid (show ∀ u0 u1 u2 u3, IsR V F' (set4 wS w.heap.size u0 u1 u2 u3) (.pointer (some ⟨bt, 0, none⟩)) (N + 1) R ∧ Touch F w (set4 wS w.heap.size u0 u1 u2 u3) ∧ ∀ k ∈ F', k ∈ F ∨ w.heap.size ≤ k from fun u0 u1 u2 u3 => by
      have ht : Touch [w.heap.size] wS (set4 wS w.heap.size u0 u1 u2 u3) := ⟨rfl, rfl, rfl, Nat.le_of_eq (set4_size _ _ _ _ _ _).symm, fun j hj hn => set4_other _ _ _ _ _ _ j (by simpa using hn)⟩
      have hx1 : w.heap.size < ((w1.alloc (.cells #[.bool false] 4)).alloc (.cells #[.int .i64 0, .int .i64 0, .string ⟨#[]⟩, .slice none 0 0] 48)).drew.heap.size := by have := HZ1.out; show _ < ((w1.alloc (.cells #[.bool false] 4)).alloc (.cells #[.int .i64 0, .int .i64 0, .string ⟨#[]⟩, .slice none 0 0] 48)).heap.size; simp; omega
      have hFr : ∀ k ∈ [w.heap.size], ¬ k ∈ F' := fun k hk hm => by
        simp at hk
        subst hk
        rcases HQ.out.2.2 _ hm with h | h
        · have := HLT.out _ h; omega
        · exact absurd hx1 (Nat.not_lt.2 h)
      exact ⟨HQ.out.1.touch ht hFr (Blind.new HSEE.out.1 (fun k hk => by simp at hk; omega)), HQ.out.2.1.four (Nat.le_refl _) _ _ _ _, fun k hk => (HQ.out.2.2 k hk).imp id (fun h => Nat.le_of_lt (Nat.lt_of_lt_of_le hx1 h))⟩)
    clear hbox
    go_wp2
    refine bodyPost_ret (v := .tuple #[.agg #[.int .i64 0, .int .i64 N, .string ⟨#[]⟩, .slice none 0 0], .bool true]) (by rw [results_cell_tmp rfl]; go_simp) rfl ?_
    obtain ⟨q1, q2, q3⟩ := HEND.out (.int .i64 0) (.int .i64 N) (.string ⟨#[]⟩) (.slice none 0 0)
    first | exact ⟨F', rfl, q1, q2, q3⟩ | exact ⟨rfl, F', q1, q2, q3⟩
end
end Go.Proofs.Ytbbbgijlbcmpbaa
/- Stage 11's laws: both. -/
namespace Go.Proofs.Ytbbbgijlbcmpbaa
open Go.RowKit
set_option linter.unusedVariables false

section
variable {V w : World}
theorem IsR.new {w1 w2 : World} (hs : Stays V w1) (e : w1.alloc (.cells #[.slice none 0 0, .slice none 0 0, .slice none 0 0] 53) = w2) : IsR V [w1.heap.size] w2 (.pointer (some ⟨w1.heap.size, 0, none⟩)) 0 [] := by
  have hb : Below w1.heap.size w1 w2 := by rw [← e]; exact bel1' _ _
  refine ⟨w1.heap.size, .slice none 0 0, .slice none 0 0, .slice none 0 0, [], [], rfl, rfl, by simp, by rw [← e]; exact heap_alloc_new w1 _, rfl, rfl, World.ownsRow_nil _ _ _ _, World.ownsRow_nil _ _ _ _, World.ownsRow_nil _ _ _ _, ⟨fun i hi => by omega, fun i t ht => by cases ht⟩, trivial, by omega, hs.later hb, Blind.new hs (fun k hk => by simp at hk; omega)⟩
/-- Both, with so many variables. -/
def BothI (V w : World) (p q : Value) (i : Nat) (wr : World) : Prop :=
  ∃ F F2, IsB V F wr p i [] ∧ IsR V F2 wr q i [] ∧ (∀ k ∈ F, w.heap.size ≤ k) ∧ (∀ k ∈ F2, w.heap.size ≤ k) ∧ (∀ k ∈ F, ¬ k ∈ F2) ∧ Below w.heap.size w wr
end
end Go.Proofs.Ytbbbgijlbcmpbaa
/- Stage 12's laws: both. -/
namespace Go.Proofs.Ytbbbgijlbcmpbaa
open Go.RowKit
set_option linter.unusedVariables false

section
variable {V w : World}
set_option maxHeartbeats 8000000 in
theorem both12_at (hs : Stays V w) (n : Nat) (hn : n ≤ 60000) : Calls Try.prog 41 #[.int .i64 n] w fun e w' => ∃ p q, e = .returned (.tuple #[p, q]) ∧ BothI V w p q n w' := by
  have HS := Lib.hid hs
  have C := New_at (V := V) (w := w) hs
  clear hs
  go_enter Try.func41, Try.ntmps41
  (go_wp2_with fail; go_fit (C); rintro e w1 ⟨p, F, rfl, h1, b1, hf1⟩)
  obtain ⟨w2, e2⟩ : ∃ w2, w1.alloc (.cells #[.slice none 0 0, .slice none 0 0, .slice none 0 0] 53) = w2 := ⟨_, rfl⟩
  have hr2 := IsR.new (HS.out.later b1) e2
  have hb2 : Below w1.heap.size w1 w2 := by rw [← e2]; exact bel1' _ _
  obtain ⟨q, hq⟩ : ∃ q : Value, .pointer (some ⟨w1.heap.size, 0, none⟩) = q := ⟨_, rfl⟩
  rw [hq] at hr2
  have H2 := Lib.hid (show BothI V w p q 0 w2 from ⟨F, [w1.heap.size], h1.ext hb2, hr2, hf1, fun k hk => by simp at hk; have := b1.size; omega, fun k hk hm => by simp at hm; have := h1.lt k hk; omega, Ext.trans' b1 hb2⟩)
  clear h1 hr2 b1 hb2 hf1
  have HE2 := Lib.hid e2
  have HQ := Lib.hid hq
  clear e2 hq
  go_upto_region 2 with fail
  rw [HE2.out, HQ.out]
  go_wp2_with fail
  go_loopw [6] (fun z wr => ∃ j : Nat, j ≤ n ∧ z = .int .i64 j ∧ Hid (BothI V w p q j wr)) (fun z _ => n - (intOf z).toNat)
  case atStart => exact ⟨0, Nat.zero_le _, rfl, H2⟩
  case round =>
    obtain ⟨j, hj, rfl, HP⟩ := hrel
    by_cases hjn : j < n
    · obtain ⟨F, F2, h1, h2, h3, h4, h5, h6⟩ := HP.out
      have hjn2 : (j : Int) < n := by omega
      have C1 := Fresh_at h1 (by omega)
      have HP2 := Lib.hid (And.intro h2 (And.intro h3 (And.intro h4 (And.intro h5 h6))))
      have HV := Lib.hid h1.see
      have HSZ := Lib.hid h2.lt
      clear h1 h2 h3 h4 h5 h6 HP
      (go_wp2_with fail; go_fit (C1); rintro e w5 ⟨F', rfl, h1, t1, hin⟩)
      obtain ⟨h2, h3, h4, h5, h6⟩ := HP2.out
      have h2' := h2.touch t1 h5 HV.out.2
      have C2 := RFresh_at h2' (by omega)
      have hF' : ∀ k ∈ F', w.heap.size ≤ k := fun k hk => (hin k hk).elim (h3 k) (fun h => by have := h6.size; omega)
      have hd' : ∀ k ∈ F', ¬ k ∈ F2 := fun k hk hm => (hin k hk).elim (fun h => h5 k h hm) (fun h => by have := HSZ.out k hm; omega)
      have H5 := Lib.hid (show IsB V F' w5 p (j + 1) [] ∧ (∀ k ∈ F', w.heap.size ≤ k) ∧ (∀ k ∈ F', ¬ k ∈ F2) ∧ (∀ k ∈ F2, w.heap.size ≤ k) ∧ Below w.heap.size w w5 from ⟨h1, hF', hd', h4, h6.trans (t1.below h6.size h3)⟩)
      have HV2 := Lib.hid h2'.see
      clear h1 t1 hin h2 h3 h4 h5 h6 h2' hF' hd'
      (go_wp2_with fail; go_fit (C2); rintro e w6 ⟨F2', rfl, h2, t2, hin2⟩)
      obtain ⟨h1, hF', hd', h4, h6⟩ := H5.out
      have HN := Lib.hid (show BothI V w p q (j + 1) w6 from ⟨F', F2', h1.touch t2 (fun k hk hm => hd' k hm hk) HV2.out.2, h2, hF', fun k hk => (hin2 k hk).elim (h4 k) (fun h => by have := h6.size; omega), fun k hk hm => (hin2 k hm).elim (hd' k hk) (fun h => by have := h1.lt k hk; omega), h6.trans (t2.below h6.size h4)⟩)
      clear h1 hF' hd' h4 h6 h2 t2 hin2
      go_wp2
      go_roundw
      case rel => exact ⟨j + 1, by omega, by go_num, HN⟩
      case measure => simp [intOf]; omega
    · have hjn2 : j = n := by omega
      subst hjn2
      go_wp2
      go_ret2
      exact ⟨p, q, rfl, HP.out⟩
end
end Go.Proofs.Ytbbbgijlbcmpbaa
