/- A stack in memory: its block, its row. -/
import Derived.Test.YtmdilndaipiajaaStr
import Derived.Test.YtmdilndaipiajaaOpen
import Derived.Maps.AppendAt
import Derived.Laws.CopyOwn
import Derived.Laws.CopyRow
import Derived.Laws.Pointers
import Derived.Deep.OwnRows
import Derived.Deep.QuietTactic
import Derived.BigQuiet
import Derived.OwnWalk
import Derived.Test.YtmdilndaipiajaaAppC
import Derived.Test.YtmdilndaipiajaaRows
namespace Go.Proofs.Ytmdilndaipiajaa
open Go.RowKit

/-- Of the old blocks none has turned but those of F. -/
structure Touch (F : List Nat) (w w' : World) : Prop where
  os : w'.os = w.os
  tape : w'.tape = w.tape
  output : w'.output = w.output
  size : w.heap.size ≤ w'.heap.size
  block : ∀ k, k < w.heap.size → k ∉ F → w'.heap[k]? = w.heap[k]?
theorem Touch.refl' (F : List Nat) (w : World) : Touch F w w := ⟨rfl, rfl, rfl, Nat.le_refl _, fun _ _ _ => rfl⟩
theorem Touch.of_below {w w' : World} (h : Below w.heap.size w w') (F : List Nat) : Touch F w w' := ⟨h.os, h.tape, h.output, h.size, fun k hk _ => h.block k hk⟩
theorem Touch.below {F : List Nat} {w w' : World} (h : Touch F w w') {B : Nat} (hB : B ≤ w.heap.size) (hF : ∀ k ∈ F, B ≤ k) : Below B w w' :=
  ⟨h.os, h.tape, h.output, h.size, fun k hk => h.block k (by omega) (fun hm => by have := hF k hm; omega)⟩
theorem Touch.trans {F F' : List Nat} {a b c : World} (h : Touch F a b) (h' : Touch F' b c) (hF : ∀ k ∈ F', k ∈ F ∨ a.heap.size ≤ k) : Touch F a c :=
  ⟨h'.os.trans h.os, h'.tape.trans h.tape, h'.output.trans h.output, Nat.le_trans h.size h'.size, fun k hk hn =>
    (h'.block k (Nat.lt_of_lt_of_le hk h.size) (fun hm => by rcases hF k hm with h1 | h1; exact hn h1; omega)).trans (h.block k hk hn)⟩
theorem Touch.sub {F F' : List Nat} {a b : World} (h : Touch F a b) (hs : ∀ k ∈ F, k ∈ F') : Touch F' a b := ⟨h.os, h.tape, h.output, h.size, fun k hk hn => h.block k hk (fun hm => hn (hs k hm))⟩
theorem Touch.undrew {F : List Nat} {w w' : World} {n : Nat} (h : Touch F (w.drewN n) w') : Touch F w w' := ⟨h.os, h.tape, h.output, h.size, h.block⟩
theorem belN {B : Nat} {a w : World} (h : Below B a w) (n : Nat) : Below B a (w.drewN n) := ⟨h.os, h.tape, h.output, h.size, h.block⟩
theorem blk_cell {w : World} {b t : Nat} {cs : Array Value} {fz : Nat × Nat} (h : w.heap[b]? = some (.cells cs t fz)) (i : Nat) : w.cell? ⟨b, i, none⟩ = cs[i]? := by simp [World.cell?, h]
theorem blk_froz {w : World} {b t : Nat} {cs : Array Value} (h : w.heap[b]? = some (.cells cs t (0, 0))) (i : Nat) : w.frozen? ⟨b, i, none⟩ = false := by simp [World.frozen?, h]
theorem blk_set {w : World} {b t : Nat} {x y : Value} (h : w.heap[b]? = some (.cells #[x, y] t (0, 0))) (u : Value) : (w.setCell ⟨b, 1, none⟩ u).heap[b]? = some (.cells #[x, u] t (0, 0)) := by
  simp [World.setCell, Array.getElem?_modify, h]
theorem heap_set_other (w : World) (a : Addr) (u : Value) (k : Nat) (h : k ≠ a.block) : (w.setCell a u).heap[k]? = w.heap[k]? := Below.heap_setCell w a u k h
theorem touch_set {w : World} {bt : Nat} {F : List Nat} {u : Value} : Touch (bt :: F) w (w.setCell ⟨bt, 1, none⟩ u) :=
  ⟨rfl, rfl, rfl, by simp [World.setCell], fun k _ hn => heap_set_other _ _ _ _ (fun e => hn (by simp [e]))⟩
theorem owns_row_block {w w' : World} {base e size n : Nat} {v : Value} {xs : List Value} (h : w.ownsRow base e size v n xs) (hb : ∀ k, v.ownBlock = some k → w'.heap[k]? = w.heap[k]?) : w'.ownsRow base e size v n xs := by
  refine ⟨h.1, ?_⟩
  rcases h.2 with h2 | ⟨g, cap, cur, rfl, h3, h4, h5⟩
  · exact Or.inl h2
  · exact Or.inr ⟨g, cap, cur, rfl, h3, (hb g rfl).trans h4, h5⟩
theorem row_cells {w : World} {e : TypeId} {v : Value} {xs : List Value} (hr : w.ownsRow 0 e 1 v xs.length xs) :
    (v = .slice none 0 0 ∧ xs = []) ∨ ∃ g c cur, v = .slice (some ⟨g, 0, none⟩) xs.length c ∧ w.heap[g]? = some (.cells cur e (0, 0)) ∧ xs.length ≤ c ∧ c ≤ maxLen ∧ cur.size = c ∧ cur.toList.take xs.length = xs := by
  rcases hr.2 with ⟨rfl, h0⟩ | ⟨g, cap, cur, rfl, hg, hh, hc1, hc2, hc3, hc4⟩
  · exact Or.inl ⟨rfl, List.length_eq_zero_iff.1 h0⟩
  · exact Or.inr ⟨g, cap, cur, rfl, hh, hc1, hc2, by simpa using hc3, by simpa using hc4⟩
theorem cells_row {w : World} {e : TypeId} {g c : Nat} {cur : Array Value} {xs : List Value} (hh : w.heap[g]? = some (.cells cur e (0, 0))) (h1 : xs.length ≤ c) (h2 : c ≤ maxLen) (h3 : cur.size = c) (h4 : cur.toList.take xs.length = xs) :
    w.ownsRow 0 e 1 (.slice (some ⟨g, 0, none⟩) xs.length c) xs.length xs := ⟨by simp, Or.inr ⟨g, c, cur, rfl, Nat.zero_le _, hh, h1, h2, by simpa using h3, by simpa using h4⟩⟩
theorem cur_at {cur : Array Value} {xs : List Value} (h4 : cur.toList.take xs.length = xs) {i : Nat} {x : Value} (hx : xs[i]? = some x) : cur[i]? = some x := by
  have hi := (List.getElem?_eq_some_iff.1 hx).1
  have h5 : (cur.toList.take xs.length)[i]? = some x := by rw [h4]; exact hx
  rw [List.getElem?_take, if_pos hi] at h5
  simpa using h5

/-- p is a stack at w: room for R, these on it, the first first; F: its blocks. -/
def IsStk (e tb : TypeId) (F : List Nat) (w : World) (p : Value) (R : Nat) (xs : List Value) : Prop :=
  ∃ bt v, p = .pointer (some ⟨bt, 0, none⟩) ∧ v.ownBlock ≠ some bt ∧ F = bt :: v.ownBlock.toList ∧ w.heap[bt]? = some (.cells #[.int .i64 (R : Int), v] tb (0, 0)) ∧ w.ownsRow 0 e 1 v xs.length xs ∧
    (∀ x ∈ xs, x.oneCell' = true) ∧ 1 ≤ R ∧ R ≤ 65536 ∧ xs.length ≤ R
section
variable {e tb : TypeId} {F : List Nat} {w : World} {p : Value} {R : Nat} {xs : List Value}
theorem IsStk.lt (h : IsStk e tb F w p R xs) : ∀ k ∈ F, k < w.heap.size := by
  obtain ⟨bt, v, rfl, h1, rfl, hb, hr, _⟩ := h
  intro k hk
  simp only [List.mem_cons, Option.mem_toList] at hk
  rcases hk with rfl | hk
  · exact (Array.getElem?_eq_some_iff.1 hb).1
  · exact (hr.lt k hk).2
theorem IsStk.keep {w' : World} (h : IsStk e tb F w p R xs) (hb : ∀ k ∈ F, w'.heap[k]? = w.heap[k]?) : IsStk e tb F w' p R xs := by
  obtain ⟨bt, v, rfl, h1, rfl, hbt, hr, hN⟩ := h
  exact ⟨bt, v, rfl, h1, rfl, (hb bt (by simp)).trans hbt, owns_row_block hr (fun k hk => hb k (by simp [hk])), hN⟩
theorem IsStk.ext {w' : World} (h : IsStk e tb F w p R xs) (hb : Below w.heap.size w w') : IsStk e tb F w' p R xs := h.keep (fun k hk => hb.block k (h.lt k hk))
theorem IsStk.room (h : IsStk e tb F w p R xs) : 1 ≤ R ∧ R ≤ 65536 ∧ xs.length ≤ R := by obtain ⟨bt, v, rfl, h1, rfl, hbt, hr, hN, h3⟩ := h; exact h3
theorem IsStk.one (h : IsStk e tb F w p R xs) : ∀ x ∈ xs, x.oneCell' = true := by obtain ⟨bt, v, rfl, h1, rfl, hbt, hr, hN, h3⟩ := h; exact hN

/-- A stack that was made since W, apart from the blocks of G. -/
def StkIn (e tb : TypeId) (W w : World) (p : Value) (R : Nat) (xs : List Value) (G : List Nat) : Prop :=
  ∃ F, IsStk e tb F w p R xs ∧ (∀ k ∈ F, W.heap.size ≤ k) ∧ (∀ k ∈ F, k ∉ G) ∧ (∀ k ∈ G, k < w.heap.size) ∧ Below W.heap.size W w
end
/-- What lies apart lies as it lay. -/
def Apart (G : List Nat) (w w' : World) : Prop := w.heap.size ≤ w'.heap.size ∧ ∀ k ∈ G, w'.heap[k]? = w.heap[k]?
theorem Apart.refl' (G : List Nat) (w : World) : Apart G w w := ⟨Nat.le_refl _, fun _ _ => rfl⟩
theorem Apart.cell {G : List Nat} {w w' : World} (h : Apart G w w') {g o : Nat} {v : Value} (hg : g ∈ G) (hc : w.cell? ⟨g, o, none⟩ = some v) : w'.cell? ⟨g, o, none⟩ = some v := by
  rw [World.cell?_of_block (w := w) (a := ⟨g, o, none⟩) (h.2 g hg)]; exact hc
theorem Apart.of_below {G : List Nat} {w w' : World} (h : Below w.heap.size w w') (hG : ∀ k ∈ G, k < w.heap.size) : Apart G w w' := ⟨h.size, fun k hk => h.block k (hG k hk)⟩
section
variable {e tb : TypeId} {W w : World} {p : Value} {R : Nat} {xs : List Value} {G : List Nat}
theorem StkIn.below (h : StkIn e tb W w p R xs G) : Below W.heap.size W w := by obtain ⟨F, h⟩ := h; exact h.2.2.2.2
theorem StkIn.room (h : StkIn e tb W w p R xs G) : 1 ≤ R ∧ R ≤ 65536 ∧ xs.length ≤ R := by obtain ⟨F, h⟩ := h; exact h.1.room
theorem StkIn.glt (h : StkIn e tb W w p R xs G) : ∀ k ∈ G, k < w.heap.size := by obtain ⟨F, h⟩ := h; exact h.2.2.2.1
/-- New blocks alone: they may be held apart from the stack. -/
theorem StkIn.ext {w' : World} (h : StkIn e tb W w p R xs G) (hb : Below w.heap.size w w') (G' : List Nat) (hG : ∀ k ∈ G', k ∈ G ∨ (w.heap.size ≤ k ∧ k < w'.heap.size)) : StkIn e tb W w' p R xs G' := by
  obtain ⟨F, h1, h2, h3, h4, h5⟩ := h
  refine ⟨F, h1.ext hb, h2, fun k hk hk' => ?_, fun k hk => ?_, h5.trans (hb.mono h5.size)⟩
  · rcases hG k hk' with hg | ⟨hg, _⟩
    · exact h3 k hk hg
    · have := h1.lt k hk; omega
  · rcases hG k hk with hg | ⟨_, hg⟩
    · have := h4 k hg; have := hb.size; omega
    · exact hg
theorem StkIn.same (h : StkIn e tb W w p R xs G) {w' : World} (hb : Below w.heap.size w w') : StkIn e tb W w' p R xs G := h.ext hb G (fun _ h => Or.inl h)
theorem StkIn.less (h : StkIn e tb W w p R xs G) (G' : List Nat) (hG : ∀ k ∈ G', k ∈ G) : StkIn e tb W w p R xs G' := h.ext (Below.refl _ _) G' (fun k hk => Or.inl (hG k hk))
/-- Writes in blocks made since W that are none of the stack's. -/
theorem StkIn.write {w' : World} (h : StkIn e tb W w p R xs G) (T : List Nat) (hT : Touch T w w') (hTG : ∀ k ∈ T, k ∈ G) (hTW : ∀ k ∈ T, W.heap.size ≤ k) (G' : List Nat) (hG : ∀ k ∈ G', k ∈ G ∨ (w.heap.size ≤ k ∧ k < w'.heap.size)) : StkIn e tb W w' p R xs G' := by
  obtain ⟨F, h1, h2, h3, h4, h5⟩ := h
  refine ⟨F, h1.keep (fun k hk => hT.block k (h1.lt k hk) (fun hm => h3 k hk (hTG k hm))), h2, fun k hk hk' => ?_, fun k hk => ?_, h5.trans ((hT.below h5.size hTW))⟩
  · rcases hG k hk' with hg | ⟨hg, _⟩
    · exact h3 k hk hg
    · have := h1.lt k hk; omega
  · rcases hG k hk with hg | ⟨_, hg⟩
    · have := h4 k hg; have := hT.size; omega
    · exact hg
theorem StkIn.of_touch {w' : World} {F F' : List Nat} {R' : Nat} {xs' : List Value} {p' : Value} (h1 : IsStk e tb F w p R xs) (h2 : ∀ k ∈ F, W.heap.size ≤ k) (h3 : ∀ k ∈ F, k ∉ G) (h4 : ∀ k ∈ G, k < w.heap.size) (h5 : Below W.heap.size W w)
    (t1 : IsStk e tb F' w' p' R' xs') (t2 : Touch F w w') (t3 : ∀ k ∈ F', k ∈ F ∨ w.heap.size ≤ k) : StkIn e tb W w' p' R' xs' G ∧ Apart G w w' := by
  refine ⟨⟨F', t1, fun k hk => ?_, fun k hk hg => ?_, fun k hk => Nat.lt_of_lt_of_le (h4 k hk) t2.size, h5.trans (t2.below h5.size h2)⟩, t2.size, fun k hk => t2.block k (h4 k hk) (fun hf => h3 k hf hk)⟩
  · rcases t3 k hk with hf | hf
    · exact h2 k hf
    · exact Nat.le_trans h5.size hf
  · rcases t3 k hk with hf | hf
    · exact h3 k hf hg
    · have := h4 k hg; omega
end
theorem run_clear_row {P : Program} (w : World) (t e ty : TypeId) (z : Value) (ht : P.underlying t = some (.slice e)) (hv : ∀ w, (zeroValue e).run P w = .ok z w) (hz : z.cells = #[z]) (h1 : z.oneCell' = true) (g o n c : Nat) (cur : Array Value) (tt : TypeId)
    (hg : w.heap[g]? = some (.cells cur tt (0, 0))) (hn : 0 < n) (hfit : o + n ≤ cur.size) :
    (Builtin.clear_ #[t] ty #[.slice (some ⟨g, o, none⟩) n c]).run P w = .ok (.tuple #[]) (w.setRow g (cur.toList.take o ++ List.replicate n z ++ cur.toList.drop (o + n)).toArray) := by
  have hzc : (Builtin.zeroCells z.cells n).toList = List.replicate n z := by
    rw [hz]
    simp [Builtin.zeroCells]
    apply List.ext_getElem
    · simp
    · intro i h1 h2
      simp [Nat.mod_one]
  have hst := run_storeCells_at P g o tt (List.replicate n z) 0 cur w hg (by simpa using hfit) (by intro v hv'; rw [List.eq_of_mem_replicate hv']; exact h1)
  simp only [Nat.add_zero, List.length_replicate] at hst
  obtain ⟨m, rfl⟩ : ∃ m, n = m + 1 := ⟨n - 1, by omega⟩
  simp [Builtin.clear_, run_underlying ht, hv, hzc, hst]
theorem run_clear_none {P : Program} (w : World) (t e ty : TypeId) (ht : P.underlying t = some (.slice e)) (a : Option Addr) (c : Nat) :
    (Builtin.clear_ #[t] ty #[.slice a 0 c]).run P w = .ok (.tuple #[]) w := by
  cases a <;> simp [Builtin.clear_, run_underlying ht]
end Go.Proofs.Ytmdilndaipiajaa
