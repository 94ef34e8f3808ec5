/- A table in memory: its block, its row of keys, its map. -/
import Derived.Test.YtjpdigdocdppbaaStr
import Derived.Test.YtjpdigdocdppbaaTabD
import Derived.Maps.AppendAt
import Derived.Laws.CopyOwn
import Derived.Defers
import Derived.Recover
import Derived.Laws.Pointers
import Derived.Test.YtjpdigdocdppbaaRows
namespace Go.Proofs.Ytjpdigdocdppbaa
open Go.RowKit Go.Maps

/-- Of the old blocks none has turned but those of F. -/
structure Touch (F : List Nat) (w w' : World) : Prop where
  os : w'.os = w.os
  tape : w'.tape = w.tape
  output : w'.output = w.output
  size : w.heap.size ≤ w'.heap.size
  block : ∀ k, k < w.heap.size → k ∉ F → w'.heap[k]? = w.heap[k]?
theorem Touch.of_below {w w' : World} (h : Below w.heap.size w w') (F : List Nat) : Touch F w w' := ⟨h.os, h.tape, h.output, h.size, fun k hk _ => h.block k hk⟩
theorem Touch.below {F : List Nat} {w w' : World} (h : Touch F w w') {B : Nat} (hB : B ≤ w.heap.size) (hF : ∀ k ∈ F, B ≤ k) : Below B w w' :=
  ⟨h.os, h.tape, h.output, h.size, fun k hk => h.block k (by omega) (fun hm => by have := hF k hm; omega)⟩
theorem Touch.trans {F F' : List Nat} {a b c : World} (h : Touch F a b) (h' : Touch F' b c) (hF : ∀ k ∈ F', k ∈ F ∨ a.heap.size ≤ k) : Touch F a c :=
  ⟨h'.os.trans h.os, h'.tape.trans h.tape, h'.output.trans h.output, Nat.le_trans h.size h'.size, fun k hk hn =>
    (h'.block k (Nat.lt_of_lt_of_le hk h.size) (fun hm => by rcases hF k hm with h1 | h1; exact hn h1; omega)).trans (h.block k hk hn)⟩
theorem Touch.grown {F : List Nat} {w w' : World} {row : Option Nat} (h : w.grownBy w' row) (hr : ∀ k, row = some k → k ∈ F) : Touch F w w' :=
  ⟨h.os, h.tape, h.output, h.size, fun k hk hn => h.block k hk (fun e => hn (hr k e.symm))⟩

/-- p is a table at w: room for R keys, these keys in their order; F: its blocks. -/
def IsTab {κ : Type} (P : Program) (kt it tb sz : TypeId) (cells : κ → List Value) (lit : κ → Lit) (ok : κ → Prop) (F : List Nat) (w : World) (p : Value) (R : Nat) (ks : List κ) : Prop :=
  ∃ bt bm v D, p = .pointer (some ⟨bt, 0, none⟩) ∧ bt ≠ bm ∧ v.ownBlock ≠ some bt ∧ v.ownBlock ≠ some bm ∧ F = bt :: bm :: v.ownBlock.toList ∧
    w.heap[bt]? = some (.cells #[.int .i64 (R : Int), v, .map (some bm)] tb (0, 0)) ∧ w.ownsRow 0 kt sz v ks.length (ks.flatMap cells) ∧
    w.ownsMap P kt (plainElem P it) bm ks.length D ∧ Numbers lit ok D ks ∧ 1 ≤ R ∧ R ≤ 65536 ∧ ks.length ≤ R

section
variable {κ : Type} {P : Program} {kt it tb sz : TypeId} {cells : κ → List Value} {lit : κ → Lit} {ok : κ → Prop} {F : List Nat} {w : World} {p : Value} {R : Nat} {ks : List κ}

theorem owns_row_block {w' : World} {base e size n : Nat} {v : Value} {xs : List Value} (h : w.ownsRow base e size v n xs) (hb : ∀ k, v.ownBlock = some k → w'.heap[k]? = w.heap[k]?) : w'.ownsRow base e size v n xs := by
  refine ⟨h.1, ?_⟩
  rcases h.2 with h2 | ⟨g, cap, cur, rfl, h3, h4, h5⟩
  · exact Or.inl h2
  · exact Or.inr ⟨g, cap, cur, rfl, h3, (hb g rfl).trans h4, h5⟩

theorem IsTab.lt (h : IsTab P kt it tb sz cells lit ok F w p R ks) : ∀ k ∈ F, k < w.heap.size := by
  obtain ⟨bt, bm, v, D, rfl, hne, h1, h2, rfl, hb, hr, hm, hN, _⟩ := h
  intro k hk
  simp only [List.mem_cons, Option.mem_toList] at hk
  rcases hk with rfl | rfl | hk
  · exact (Array.getElem?_eq_some_iff.1 hb).1
  · exact hm.lt
  · exact (hr.lt k hk).2
theorem IsTab.keep {w' : World} (h : IsTab P kt it tb sz cells lit ok F w p R ks) (hb : ∀ k ∈ F, w'.heap[k]? = w.heap[k]?) : IsTab P kt it tb sz cells lit ok F w' p R ks := by
  obtain ⟨bt, bm, v, D, rfl, hne, h1, h2, rfl, hbt, hr, hm, hN⟩ := h
  exact ⟨bt, bm, v, D, rfl, hne, h1, h2, rfl, (hb bt (by simp)).trans hbt, owns_row_block hr (fun k hk => hb k (by simp [hk])), owns_of_block hm (hb bm (by simp)), hN⟩
theorem IsTab.ext {w' : World} (h : IsTab P kt it tb sz cells lit ok F w p R ks) (hb : Below w.heap.size w w') : IsTab P kt it tb sz cells lit ok F w' p R ks :=
  h.keep (fun k hk => hb.block k (h.lt k hk))
theorem IsTab.nodup (h : IsTab P kt it tb sz cells lit ok F w p R ks) : ks.Nodup := by
  obtain ⟨bt, bm, v, D, rfl, hne, h1, h2, rfl, hbt, hr, hm, hN, _⟩ := h; exact hN.nodup
theorem IsTab.good (h : IsTab P kt it tb sz cells lit ok F w p R ks) : ∀ k ∈ ks, ok k := by
  obtain ⟨bt, bm, v, D, rfl, hne, h1, h2, rfl, hbt, hr, hm, hN, _⟩ := h; exact hN.good
theorem IsTab.room (h : IsTab P kt it tb sz cells lit ok F w p R ks) : 1 ≤ R ∧ R ≤ 65536 ∧ ks.length ≤ R := by
  obtain ⟨bt, bm, v, D, rfl, hne, h1, h2, rfl, hbt, hr, hm, hN, h3⟩ := h; exact h3
end

/-- What a look tells: the number n, or 0; b: it is there. -/
def Looks {κ : Type} (ks : List κ) (k : κ) (n : Int) (b : Bool) : Prop := (b = true ∧ ∃ i : Nat, n = i ∧ ks[i]? = some k) ∨ (b = false ∧ n = 0 ∧ k ∉ ks)
theorem looks_ex {κ : Type} (ks : List κ) (k : κ) : ∃ n b, Looks ks k n b := by
  by_cases h : k ∈ ks
  · obtain ⟨i, hi⟩ := List.getElem?_of_mem h
    exact ⟨i, true, Or.inl ⟨rfl, i, rfl, hi⟩⟩
  · exact ⟨0, false, Or.inr ⟨rfl, rfl, h⟩⟩
/-- What a put tells, and what there is behind it. -/
def Puts {κ : Type} (R : Nat) (ks : List κ) (k : κ) (n : Int) (b : Bool) (ks' : List κ) : Prop :=
  (b = true ∧ ks' = ks ∧ ∃ i : Nat, n = i ∧ ks[i]? = some k) ∨ (b = false ∧ n = 0 ∧ k ∉ ks ∧ ks' = ks ∧ R ≤ ks.length) ∨ (b = true ∧ n = ks.length ∧ k ∉ ks ∧ ks' = ks ++ [k] ∧ ks.length < R)
theorem puts_ex {κ : Type} (R : Nat) (ks : List κ) (k : κ) : ∃ n b ks', Puts R ks k n b ks' := by
  by_cases h : k ∈ ks
  · obtain ⟨i, hi⟩ := List.getElem?_of_mem h
    exact ⟨i, true, ks, Or.inl ⟨rfl, rfl, i, rfl, hi⟩⟩
  · by_cases hr : ks.length < R
    · exact ⟨ks.length, true, _, Or.inr (Or.inr ⟨rfl, rfl, h, rfl, hr⟩)⟩
    · exact ⟨0, false, ks, Or.inr (Or.inl ⟨rfl, rfl, h, rfl, by omega⟩)⟩
end Go.Proofs.Ytjpdigdocdppbaa
