/- A term in a box that is turned. -/
import Derived.Test.YthikbenfhaglkaaTnL
namespace Go.Proofs.Ythikbenfhaglkaa
open Go.RowKit
set_option linter.unusedVariables false

def only (B : Nat) : Nat → Bool := fun k => k == B
theorem only_ne {B k : Nat} (h : k ≠ B) : only B k = false := beq_false_of_ne h
theorem only_old {B : Nat} {w : World} (h : B < w.heap.size) : Old (only B) w := fun k hk => beq_false_of_ne (by omega)
theorem set_keptQ {w4 : World} {B : Nat} (v0 v1 v2 v3 : Value) (k : Nat) (hk : k ≠ B) : (setFour w4 B v0 v1 v2 v3).heap[k]? = w4.heap[k]? := by
  unfold setFour
  rw [Below.heap_setCell _ _ _ _ hk, Below.heap_setCell _ _ _ _ hk, Below.heap_setCell _ _ _ _ hk, Below.heap_setCell _ _ _ _ hk]
theorem set_sizeQ (w4 : World) (B : Nat) (v0 v1 v2 v3 : Value) : (setFour w4 B v0 v1 v2 v3).heap.size = w4.heap.size := by
  unfold setFour
  simp [World.setCell]
theorem TmQ.set {B : Nat} {w : World} {x : Tm} {v : Value} (v0 v1 v2 v3 : Value) (h : TmQ (only B) w x v) : TmQ (only B) (setFour w B v0 v1 v2 v3) x v := by
  refine TmV.stay (Stays.hide (by rw [set_sizeQ]; exact Nat.le_refl _) fun k hk hd => ?_) x v h
  obtain ⟨h1, h2⟩ := npl_no hd
  have hne : k ≠ B := fun e => by
    unfold only at h1
    rw [e, beq_self_eq_true] at h1
    cases h1
  have e := set_keptQ (w4 := w) v0 v1 v2 v3 k hne
  refine ⟨npl_of h1 ?_, e⟩
  obtain ⟨c, t, h3⟩ := h2
  exact ⟨c, t, e.trans h3⟩
structure BoxAt (B : Nat) (w : World) (x : Tm) (u : Value) : Prop where
  tm : TmQ (only B) w x (pVal (x, u))
  b0 : w.cell? ⟨B, 0, none⟩ = some (.int .i64 x.k)
  b1 : w.cell? ⟨B, 1, none⟩ = some (.int .i64 x.n)
  b2 : w.cell? ⟨B, 2, none⟩ = some (.string x.s)
  b3 : w.cell? ⟨B, 3, none⟩ = some u
  fz : ∀ j, w.frozen? ⟨B, j, none⟩ = false
  lt : B < w.heap.size
theorem BoxAt.new {w : World} {x : Tm} {k n : Int} {s : ByteArray} {u : Value} (hk : x.k = k) (hn : x.n = n) (hs : x.s = s) (h : TmQ noB w x (.agg #[.int .i64 k, .int .i64 n, .string s, u])) : BoxAt w.heap.size (w.alloc (box4 k n s u 25)) x u := by
  subst hk hn hs
  refine { tm := ?_, b0 := by simp, b1 := by simp, b2 := by simp, b3 := by simp, fz := fun j => by simp, lt := by simp }
  have hb := bel1' w (box4 x.k x.n x.s u 25)
  exact TmV.stay (Stays.below hb fun k hk hd => npl_of (only_ne (by omega)) ((npl_no hd).2.below hb)) _ _ h
theorem BoxAt.at4 {B : Nat} {w w4 : World} {x : Tm} {u : Value} {o : Obj} (h : BoxAt B w x u) (hb : Below (w.alloc o).heap.size (w.alloc o) w4) :
    w4.cell? ⟨B, 0, none⟩ = some (.int .i64 x.k) ∧ w4.cell? ⟨B, 1, none⟩ = some (.int .i64 x.n) ∧ w4.cell? ⟨B, 2, none⟩ = some (.string x.s) ∧ w4.cell? ⟨B, 3, none⟩ = some u ∧ ∀ j, w4.frozen? ⟨B, j, none⟩ = false := by
  have k0 := (Ext.trans' (bel1' w o) hb).block B h.lt
  exact ⟨(World.cell?_of_block (a := ⟨B, 0, none⟩) k0).trans h.b0, (World.cell?_of_block (a := ⟨B, 1, none⟩) k0).trans h.b1, (World.cell?_of_block (a := ⟨B, 2, none⟩) k0).trans h.b2, (World.cell?_of_block (a := ⟨B, 3, none⟩) k0).trans h.b3,
    fun j => by rw [World.frozen?_of_block k0]; exact h.fz j⟩
theorem BoxAt.next {B : Nat} {w w4 : World} {x y : Tm} {u u' : Value} {o : Obj} (h : BoxAt B w x u) (hb : Below (w.alloc o).heap.size (w.alloc o) w4) (hq : TmQ (only B) w4 y (pVal (y, u'))) :
    BoxAt B (setFour w4 B (.int .i64 y.k) (.int .i64 y.n) (.string y.s) u') y u' := by
  obtain ⟨c0, c1, c2, c3, cf⟩ := h.at4 hb
  obtain ⟨d0, d1, d2, d3⟩ := four_cells (.int .i64 y.k) (.int .i64 y.n) (.string y.s) u' c0 c1 c2 c3
  have hs := hb.size
  have hlt := h.lt
  exact { tm := hq.set _ _ _ _, b0 := d0, b1 := d1, b2 := d2, b3 := d3, lt := by rw [set_sizeQ]; simp at hs; omega
          fz := fun j => by unfold setFour; rw [World.frozen?_setCell, World.frozen?_setCell, World.frozen?_setCell, World.frozen?_setCell]; exact cf j }
theorem BoxAt.next' {B : Nat} {w w4 : World} {x z : Tm} {u u' : Value} {o : Obj} {k n : Int} {s : ByteArray} {ts : List Tm} (h : BoxAt B w x u) (hb : Below (w.alloc o).heap.size (w.alloc o) w4) (hz : z = .mk k n s ts) (hq : TmQ (only B) w4 (.mk k n s ts) (.agg #[.int .i64 k, .int .i64 n, .string s, u'])) :
    BoxAt B (setFour w4 B (.int .i64 k) (.int .i64 n) (.string s) u') z u' := by
  subst hz
  exact h.next (y := .mk k n s ts) hb hq
theorem BoxAt.full {B : Nat} {w : World} {x : Tm} {u : Value} (h : BoxAt B w x u) : ∃ k n s a m c, TmQ (only B) w x (.agg #[.int .i64 k, .int .i64 n, .string s, .slice a m c]) ∧ w.cell? ⟨B, 0, none⟩ = some (.int .i64 k) ∧ w.cell? ⟨B, 1, none⟩ = some (.int .i64 n) ∧ w.cell? ⟨B, 2, none⟩ = some (.string s) ∧ w.cell? ⟨B, 3, none⟩ = some (.slice a m c) := by
  obtain ⟨k, n, s, a, m, c, e⟩ := h.tm.bare.full
  have hq := h.tm
  rw [e] at hq
  simp only [pVal, Value.agg.injEq] at e
  have h2 := congrArg Array.toList e
  simp only [List.cons.injEq, and_true] at h2
  obtain ⟨e0, e1, e2, e3⟩ := h2
  exact ⟨k, n, s, a, m, c, hq, by rw [h.b0, e0], by rw [h.b1, e1], by rw [h.b2, e2], by rw [h.b3, e3]⟩
theorem comp_one {E : Nat → Bool} {w : World} {c : Nat} {x : Tm} {k n : Int} {s0 : ByteArray} {a : Option Addr} {m c0 : Nat} (s : ByteArray) (hs : s.size ≤ BIG) (hE : Old E w) (hq : TmQ E w x (.agg #[.int .i64 k, .int .i64 n, .string s0, .slice a m c0])) (ad : Addr)
    (hsrc : ∀ (j : Nat) (v : Value), ([.int .i64 k, .int .i64 n, .string s0, .slice a m c0] : List Value)[j]? = some v → w.cell? (ad.add j) = some v) :
    Calls Try.prog 8 #[.string s, .slice (some ad) 1 c] w fun e w' => ∃ a c', e = .returned (.agg #[.int .i64 2, .int .i64 0, .string s, .slice a 1 c']) ∧ TmQ E w' (.mk 2 0 s [x]) (.agg #[.int .i64 2, .int .i64 0, .string s, .slice a 1 c']) ∧ Below w.heap.size w w' := by
  obtain ⟨u, hu⟩ := hq.bare.pair
  rw [hu] at hq
  simp only [pVal, Value.agg.injEq] at hu
  have h2 := congrArg Array.toList hu
  simp only [List.cons.injEq, and_true] at h2
  obtain ⟨e0, e1, e2, e3⟩ := h2
  rw [e0, e1, e2, e3] at hsrc
  exact comp_q (m := 1) [(x, u)] s hs hE (fun p hp => by simp at hp; subst hp; exact hq) rfl (by unfold BIG; omega) (Or.inr ⟨ad, rfl, hsrc⟩)
abbrev cs8 (a b c d : Value) : Array Value := #[a, b, c, d, a, b, c, d, a, b, c, d, a, b, c, d, a, b, c, d, a, b, c, d, a, b, c, d, a, b, c, d]
theorem cs8_list (a b c d : Value) : (cs8 a b c d).toList = (List.replicate 8 [a, b, c, d]).flatten := rfl
theorem comp_eight {E : Nat → Bool} {w : World} {c : Nat} {x : Tm} {k n : Int} {s0 : ByteArray} {a : Option Addr} {m c0 : Nat} (s : ByteArray) (hs : s.size ≤ BIG) (hE : Old E w) (hq : TmQ E w x (.agg #[.int .i64 k, .int .i64 n, .string s0, .slice a m c0])) (ad : Addr)
    (hsrc : ∀ (j : Nat) (v : Value), ((List.replicate 8 ([.int .i64 k, .int .i64 n, .string s0, .slice a m c0] : List Value)).flatten)[j]? = some v → w.cell? (ad.add j) = some v) :
    Calls Try.prog 8 #[.string s, .slice (some ad) 8 c] w fun e w' => ∃ a c', e = .returned (.agg #[.int .i64 2, .int .i64 0, .string s, .slice a 8 c']) ∧ TmQ E w' (.mk 2 0 s (List.replicate 8 x)) (.agg #[.int .i64 2, .int .i64 0, .string s, .slice a 8 c']) ∧ Below w.heap.size w w' := by
  obtain ⟨u, hu⟩ := hq.bare.pair
  rw [hu] at hq
  simp only [pVal, Value.agg.injEq] at hu
  have h2 := congrArg Array.toList hu
  simp only [List.cons.injEq, and_true] at h2
  obtain ⟨e0, e1, e2, e3⟩ := h2
  rw [e0, e1, e2, e3] at hsrc
  have := comp_q (m := 8) (c := c) (List.replicate 8 (x, u)) s hs hE (fun p hp => by rw [List.eq_of_mem_replicate hp]; exact hq) rfl (by unfold BIG; omega) (Or.inr ⟨ad, rfl, fun j v hv => hsrc j v hv⟩)
  rw [List.map_replicate] at this
  exact this
end Go.Proofs.Ythikbenfhaglkaa
