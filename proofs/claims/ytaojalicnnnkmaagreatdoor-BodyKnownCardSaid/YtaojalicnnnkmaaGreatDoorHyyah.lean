import Derived.Test.YtaojalicnnnkmaaGreatDoorHyyaa
import Derived.Test.YtaojalicnnnkmaaGreatDoorHyyac
import Derived.Test.YtaojalicnnnkmaaGreatDoorHyyaf
import Derived.Test.YtaojalicnnnkmaaGreatDoorHyyag
import Derived.Deep.RegionHeld3
import Derived.Laws.StructEq
import Derived.Laws.ResultCell
import Derived.LoopTactic
set_option linter.unusedVariables false
set_option linter.unusedSimpArgs false
/- The project's reader in memory: its operators, what is not read yet, its variables. -/
namespace Go.Proofs.YtaojalicnnnkmaaGreatDoor
open Go.RowKit
set_option linter.unusedVariables false

abbrev tkVal (q : TokP) : Value := .agg #[.int .i64 (q.1.kind : Int), .string ⟨q.1.text.toArray⟩, .int .i64 (q.1.n : Int), .bool q.1.opens, .int .i64 (q.2 : Int)]
def nmCells (p : NmP) : List Value := [.string ⟨p.1.toArray⟩, .int .i64 (p.2 : Int)]
theorem nmCells_len (p : NmP) : (nmCells p).length = 2 := rfl
def Nms (w : World) (v : Value) (l : List NmP) : Prop := Elems 2 nmCells w v l
abbrev preO (xs : List O) (n : List UInt8) : O × Bool := oneB xs n 1
abbrev betO (xs : List O) (n : List UInt8) : O × Bool := oneB xs n 2
abbrev TERMX (xs : List O) := TERM (preO xs) (betO xs)
/-- A token that a text may have. -/
def tokOk (q : TokP) : Prop := q.1.n ≤ 9223372036854775807 ∧ q.1.text.length ≤ 5000 ∧ q.2 ≤ 4096
/-- Nothing runs over. -/
def Nice (s : RS) : Prop := s.next + s.rest.length ≤ 2000 ∧ s.names.length ≤ s.next ∧ (∀ q ∈ s.rest, tokOk q) ∧ ∀ p ∈ s.names, p.2 < s.next
theorem Nice.drop {s : RS} (h : Nice s) : Nice (dropR s) := by
  obtain ⟨h1, h2, h3, h4⟩ := h
  have := dropS_le s
  exact ⟨by show s.next + (dropR s).rest.length ≤ 2000; omega, h2, fun q hq => h3 q (List.mem_of_mem_tail hq), h4⟩
theorem Nice.head {s : RS} (h : Nice s) : tokOk (headR s) := by
  unfold headR
  cases hr : s.rest with
  | nil => exact ⟨by decide, by decide, by decide⟩
  | cons a r => exact h.2.2.1 a (by rw [hr]; exact List.mem_cons_self)
theorem Nice.next {s : RS} (h : Nice (dropR s)) (hne : s.rest ≠ []) (hs : Nice s) : Nice { dropR s with next := (dropR s).next + 1 } := by
  obtain ⟨h1, h2, h3, h4⟩ := h
  have hd := dropS_lt hne
  have h0 := hs.1
  have en : (dropR s).next = s.next := rfl
  refine ⟨?_, ?_, h3, fun p hp => ?_⟩
  · show (dropR s).next + 1 + (dropR s).rest.length ≤ 2000
    omega
  · show (dropR s).names.length ≤ (dropR s).next + 1
    omega
  · have := h4 p hp
    show p.2 < (dropR s).next + 1
    omega
theorem Nice.var {s : RS} (name : List UInt8) (h : Nice (dropR s)) (hne : s.rest ≠ []) (hs : Nice s) : Nice (varR name (dropR s)).2 := by
  obtain ⟨g1, g2, g3, g4⟩ := Nice.next h hne hs
  have h2 := h.2.1
  unfold varR
  split
  · exact h
  · refine ⟨g1, ?_, g3, fun p hp => ?_⟩
    · simp only
      split
      · omega
      · rw [List.length_append, List.length_singleton]; omega
    · simp only at hp
      split at hp
      · exact g4 p hp
      · rcases List.mem_append.1 hp with hp | hp
        · exact g4 p hp
        · simp at hp
          subst hp
          show (dropR s).next < (dropR s).next + 1
          omega

theorem Elems.stay {α : Type} {S : Nat} {cells : α → List Value} {w w' : World} {v : Value} {xs : List α} (h : Elems S cells w v xs) (hb : Stays w w') : Elems S cells w' v xs := by
  obtain ⟨a, cap, h1, h2, h3, h6⟩ := h
  refine ⟨a, cap, h1, h2, h3, ?_⟩
  rcases h6 with h6 | ⟨b, off, e1, e2, e3⟩
  · exact Or.inl h6
  · exact Or.inr ⟨b, off, e1, Nat.lt_of_lt_of_le e2 hb.1, fun i x hx j u hu => hb.2 _ _ (e3 i x hx j u hu)⟩
/-- The reader lies there, in block rb. D: blocks that are not looked at for anything else; M, some of them: blocks that turn. -/
structure St (D M : Nat → Bool) (w : World) (rb : Nat) (xs : List O) (s : RS) : Prop where
  mb : M rb = true
  md : ∀ k, M k = true → D k = true
  old : Old D w
  co : ∃ vo, w.cell? ⟨rb, 0, none⟩ = some vo ∧ Ops (hide D w) vo xs
  cl : ∃ vl, w.cell? ⟨rb, 1, none⟩ = some vl ∧ Toks (hide D w) vl s.rest
  c2 : w.cell? ⟨rb, 2, none⟩ = some (.int .i64 (s.next : Int))
  c3 : ∃ vn, w.cell? ⟨rb, 3, none⟩ = some vn ∧ w.ownsRow (rb + 1) 179 2 vn s.names.length (s.names.flatMap nmCells) ∧ ∀ k, vn.ownBlock = some k → M k = true
  fz : ∀ j, w.frozen? ⟨rb, j, none⟩ = false
  nice : Nice s
theorem St.lt {D M : Nat → Bool} {w : World} {rb : Nat} {xs : List O} {s : RS} (h : St D M w rb xs s) : rb < w.heap.size := World.block_lt_of_cell? _ _ h.c2
/-- Of the old blocks only those of M have turned; of them the same are not looked at, the same turn. -/
structure Turn (D M D' M' : Nat → Bool) (w w' : World) : Prop where
  size : w.heap.size ≤ w'.heap.size
  dd : ∀ k, k < w.heap.size → D' k = D k
  mm : ∀ k, k < w.heap.size → M' k = M k
  kept : ∀ k, k < w.heap.size → M k = false → w'.heap[k]? = w.heap[k]?
  ot : Below 0 w w'
theorem Turn.refl (D M : Nat → Bool) (w : World) : Turn D M D M w w := ⟨Nat.le_refl _, fun _ _ => rfl, fun _ _ => rfl, fun _ _ _ => rfl, Below.refl _ _⟩
theorem Turn.trans {D M D' M' D2 M2 : Nat → Bool} {a b c : World} (h : Turn D M D' M' a b) (g : Turn D' M' D2 M2 b c) : Turn D M D2 M2 a c :=
  ⟨Nat.le_trans h.size g.size, fun k hk => (g.dd k (Nat.lt_of_lt_of_le hk h.size)).trans (h.dd k hk), fun k hk => (g.mm k (Nat.lt_of_lt_of_le hk h.size)).trans (h.mm k hk),
    fun k hk hm => (g.kept k (Nat.lt_of_lt_of_le hk h.size) ((h.mm k hk).trans hm)).trans (h.kept k hk hm), h.ot.trans g.ot⟩
theorem Turn.below {D M : Nat → Bool} {w w' : World} (h : Below w.heap.size w w') : Turn D M D M w w' := ⟨h.size, fun _ _ => rfl, fun _ _ => rfl, fun k hk _ => h.block k hk, h.mono (Nat.zero_le _)⟩
theorem Turn.stays {D M D' M' : Nat → Bool} {w w' : World} (h : Turn D M D' M' w w') (md : ∀ k, M k = true → D k = true) : Stays (hide D w) (hide D' w') :=
  Stays.hide h.size fun k hk hd => ⟨(h.dd k hk).trans hd, h.kept k hk (by cases hm : M k with | false => rfl | true => rw [md k hm] at hd; cases hd)⟩
theorem Turn.cell {D M D' M' : Nat → Bool} {w w' : World} (h : Turn D M D' M' w w') {b j : Nat} {v : Value} (hm : M b = false) (hc : w.cell? ⟨b, j, none⟩ = some v) : w'.cell? ⟨b, j, none⟩ = some v := by
  rw [World.cell?_of_block (h.kept b (World.block_lt_of_cell? _ _ hc) hm)]; exact hc
theorem Turn.froz {D M D' M' : Nat → Bool} {w w' : World} (h : Turn D M D' M' w w') {b j : Nat} (hb : b < w.heap.size) (hm : M b = false) (hc : w.frozen? ⟨b, j, none⟩ = false) : w'.frozen? ⟨b, j, none⟩ = false := by
  rw [World.frozen?_of_block (h.kept b hb hm)]; exact hc
/-- As many blocks as lie below n and don't turn are as they were. -/
theorem Turn.bel {D M D' M' : Nat → Bool} {w w' : World} (h : Turn D M D' M' w w') {n : Nat} (hn : n ≤ w.heap.size) (hm : ∀ k, k < n → M k = false) : Below n w w' :=
  ⟨h.ot.os, h.ot.tape, h.ot.output, h.size, fun k hk => h.kept k (Nat.lt_of_lt_of_le hk hn) (hm k hk)⟩
/-- A block of one's own that turns in the end. -/
theorem Turn.set {D M D' M' : Nat → Bool} {w w' : World} (h : Turn D M D' M' w w') (a : Addr) (u : Value) (ha : w.heap.size ≤ a.block ∨ M a.block = true) : Turn D M D' M' w (w'.setCell a u) :=
  ⟨Nat.le_trans h.size (by simp [World.setCell]), h.dd, h.mm, fun k hk hm => (Below.heap_setCell w' a u k (fun e => by
    rcases ha with ha | ha
    · omega
    · rw [e, ha] at hm; cases hm)).trans (h.kept k hk hm), h.ot.setCell (Nat.zero_le _) u⟩
theorem row_at {w w' : World} {B k n : Nat} {e : TypeId} {v : Value} {xs : List Value} (h : w.ownsRow B e k v n xs) (hb : ∀ g, v.ownBlock = some g → w'.heap[g]? = w.heap[g]?) : w'.ownsRow B e k v n xs := by
  obtain ⟨h0, h1⟩ := h
  refine ⟨h0, ?_⟩
  rcases h1 with h1 | ⟨g, cap, cur, rfl, hg, hh, h2⟩
  · exact Or.inl h1
  · exact Or.inr ⟨g, cap, cur, rfl, hg, by rw [hb g rfl]; exact hh, h2⟩
theorem row_in {w : World} {B k n : Nat} {e : TypeId} {v : Value} {xs : List Value} (h : w.ownsRow B e k v n xs) {g : Nat} (hg : v.ownBlock = some g) : B ≤ g ∧ g < w.heap.size := by
  rcases h.2 with ⟨rfl, _⟩ | ⟨g', cap, cur, rfl, h1, h2, _⟩
  · cases hg
  · cases hg
    exact ⟨h1, (Array.getElem?_eq_some_iff.1 h2).1⟩
/-- It lies there still. -/
theorem St.step {D M D' : Nat → Bool} {w w' : World} {rb : Nat} {xs : List O} {s : RS} (h : St D M w rb xs s) (hs : Stays (hide D w) (hide D' w')) (md : ∀ k, M k = true → D' k = true) (ho : Old D' w') (hk : ∀ k, k < w.heap.size → M k = true → w'.heap[k]? = w.heap[k]?) : St D' M w' rb xs s := by
  have hr := hk rb h.lt h.mb
  obtain ⟨vo, o1, o2⟩ := h.co
  obtain ⟨vl, l1, l2⟩ := h.cl
  obtain ⟨vn, n1, n2, n3⟩ := h.c3
  exact { mb := h.mb, md := md, old := ho, co := ⟨vo, by rw [World.cell?_of_block hr]; exact o1, Elems.stay o2 hs⟩, cl := ⟨vl, by rw [World.cell?_of_block hr]; exact l1, Elems.stay l2 hs⟩
          c2 := by rw [World.cell?_of_block hr]; exact h.c2
          c3 := ⟨vn, by rw [World.cell?_of_block hr]; exact n1, row_at n2 (fun g hg => hk g (row_in n2 hg).2 (n3 g hg)), n3⟩
          fz := fun j => by rw [World.frozen?_of_block hr]; exact h.fz j, nice := h.nice }
theorem St.later {D M : Nat → Bool} {w w' : World} {rb : Nat} {xs : List O} {s : RS} (h : St D M w rb xs s) (hb : Below w.heap.size w w') : St D M w' rb xs s :=
  h.step (Stays.below hb fun _ _ h => h) h.md (h.old.mono hb.size) fun k hk _ => hb.block k hk
/-- One more block is not looked at. -/
def plusB (D : Nat → Bool) (b : Nat) : Nat → Bool := fun k => k == b || D k
theorem plusB_self (D : Nat → Bool) (b : Nat) : plusB D b b = true := by simp [plusB]
theorem plusB_of {D : Nat → Bool} {b k : Nat} (h : D k = true) : plusB D b k = true := by simp [plusB, h]
theorem plusB_ne {D : Nat → Bool} {b k : Nat} (h : k ≠ b) : plusB D b k = D k := by simp [plusB, h]
theorem St.box {D M : Nat → Bool} {w w' : World} {rb : Nat} {xs : List O} {s : RS} (h : St D M w rb xs s) (hb : Below w.heap.size w w') {b : Nat} (h1 : w.heap.size ≤ b) (h2 : b < w'.heap.size) : St (plusB D b) M w' rb xs s :=
  h.step (Stays.below hb fun k hk hd => (plusB_ne (by omega)).trans hd) (fun k hm => plusB_of (h.md k hm)) (fun k hk => (plusB_ne (by omega)).trans (h.old k (Nat.le_trans hb.size hk))) fun k hk _ => hb.block k hk
/-- A block that is not looked at, and isn't the reader's, turns. -/
theorem St.put {D M : Nat → Bool} {w : World} {rb : Nat} {xs : List O} {s : RS} (h : St D M w rb xs s) (a : Addr) (u : Value) (hd : D a.block = true) (hm : M a.block = false) : St D M (w.setCell a u) rb xs s :=
  h.step (Stays.set a u hd) h.md (h.old.mono (by simp [World.setCell])) fun k _ hk => Below.heap_setCell w a u k (fun e => by rw [e, hm] at hk; cases hk)
/-- A box of one's own is looked at no more. -/
theorem Turn.box {D M D' M' : Nat → Bool} {w w' : World} {b : Nat} (h : Turn (plusB D b) M D' M' w w') (hb : w.heap.size ≤ b) : Turn D M D' M' w w' :=
  ⟨h.size, fun k hk => (h.dd k hk).trans (plusB_ne (by omega)), h.mm, h.kept, h.ot⟩
theorem Turn.into {D M : Nat → Bool} {w w' : World} (h : Below w.heap.size w w') {b : Nat} (hb : w.heap.size ≤ b) : Turn D M (plusB D b) M w w' :=
  ⟨h.size, fun k hk => plusB_ne (by omega), fun _ _ => rfl, fun k hk _ => h.block k hk, h.mono (Nat.zero_le _)⟩
/-- A box of one's own with these values. -/
structure Box (w : World) (b : Nat) (vs : List Value) : Prop where
  cells : ∀ j u, vs[j]? = some u → w.cell? ⟨b, j, none⟩ = some u
  fz : ∀ j, w.frozen? ⟨b, j, none⟩ = false
  lt : b < w.heap.size
theorem box_new (w : World) (cs : Array Value) (ty : TypeId) : ∃ w1, w.alloc (.cells cs ty) = w1 ∧ Below w.heap.size w w1 ∧ w1.heap.size = w.heap.size + 1 ∧ Box w1 w.heap.size cs.toList := by
  refine ⟨_, rfl, bel1' _ _, by simp, fun j u h => ?_, fun j => by simp, by simp⟩
  have := cell_new w cs ty j u h
  rw [add_plain, Nat.zero_add] at this
  exact this
theorem Box.ext {w w' : World} {b : Nat} {vs : List Value} (h : Box w b vs) (hb : Below w.heap.size w w') : Box w' b vs :=
  ⟨fun j u hu => cell_later hb (h.cells j u hu), fun j => (hb.frozen (p := ⟨b, j, none⟩) h.lt).trans (h.fz j), Nat.lt_of_lt_of_le h.lt hb.size⟩
theorem Box.turn {D M D' M' : Nat → Bool} {w w' : World} {b : Nat} {vs : List Value} (h : Box w b vs) (ht : Turn D M D' M' w w') (hm : M b = false) : Box w' b vs :=
  ⟨fun j u hu => ht.cell hm (h.cells j u hu), fun j => ht.froz h.lt hm (h.fz j), Nat.lt_of_lt_of_le h.lt ht.size⟩
theorem Box.far {w : World} {b c k : Nat} {u : Value} {vs : List Value} (h : Box w b vs) (hne : b ≠ c) : Box (w.setCell ⟨c, k, none⟩ u) b vs :=
  ⟨fun j v hv => by
    rw [World.cell?_setCell_other]
    · exact h.cells j v hv
    · intro e; injection e with e _ _; exact hne e.symm, fun j => by rw [World.frozen?_setCell]; exact h.fz j, by have := h.lt; simpa [World.setCell] using this⟩
theorem Box.set {w : World} {b k : Nat} {u : Value} {vs : List Value} (h : Box w b vs) (hk : k < vs.length) : Box (w.setCell ⟨b, k, none⟩ u) b (vs.set k u) :=
  ⟨fun j v hv => by
    by_cases hj : j = k
    · subst hj
      rw [List.getElem?_set_self hk] at hv
      injection hv with hv
      subst hv
      exact css (h.cells j _ (List.getElem?_eq_getElem hk))
    · rw [List.getElem?_set_ne (by omega)] at hv
      rw [World.cell?_setCell_other]
      · exact h.cells j v hv
      · intro e; injection e with _ e _; exact hj e.symm, fun j => by rw [World.frozen?_setCell]; exact h.fz j, by have := h.lt; simpa [World.setCell] using this⟩
theorem Box.five {w : World} {b : Nat} {v0 v1 v2 v3 v4 : Value} (h : Box w b [v0, v1, v2, v3, v4]) : w.cell? ⟨b, 0, none⟩ = some v0 ∧ w.cell? ⟨b, 1, none⟩ = some v1 ∧ w.cell? ⟨b, 2, none⟩ = some v2 ∧ w.cell? ⟨b, 3, none⟩ = some v3 ∧ w.cell? ⟨b, 4, none⟩ = some v4 ∧ ∀ j, w.frozen? ⟨b, j, none⟩ = false :=
  ⟨h.cells 0 _ rfl, h.cells 1 _ rfl, h.cells 2 _ rfl, h.cells 3 _ rfl, h.cells 4 _ rfl, h.fz⟩
theorem Box.four {w : World} {b : Nat} {v0 v1 v2 v3 : Value} (h : Box w b [v0, v1, v2, v3]) : w.cell? ⟨b, 0, none⟩ = some v0 ∧ w.cell? ⟨b, 1, none⟩ = some v1 ∧ w.cell? ⟨b, 2, none⟩ = some v2 ∧ w.cell? ⟨b, 3, none⟩ = some v3 ∧ ∀ j, w.frozen? ⟨b, j, none⟩ = false :=
  ⟨h.cells 0 _ rfl, h.cells 1 _ rfl, h.cells 2 _ rfl, h.cells 3 _ rfl, h.fz⟩
theorem Box.three {w : World} {b : Nat} {v0 v1 v2 : Value} (h : Box w b [v0, v1, v2]) : w.cell? ⟨b, 0, none⟩ = some v0 ∧ w.cell? ⟨b, 1, none⟩ = some v1 ∧ w.cell? ⟨b, 2, none⟩ = some v2 ∧ ∀ j, w.frozen? ⟨b, j, none⟩ = false :=
  ⟨h.cells 0 _ rfl, h.cells 1 _ rfl, h.cells 2 _ rfl, h.fz⟩
/-- One's own box is looked at again. -/
theorem St.unbox {D M : Nat → Bool} {w : World} {rb b : Nat} {xs : List O} {s : RS} (h : St (plusB D b) M w rb xs s) (md : ∀ k, M k = true → D k = true) (ho : Old D w) : St D M w rb xs s :=
  h.step (Stays.less fun k hk => by
    by_cases e : k = b
    · rw [e, plusB_self] at hk; cases hk
    · rwa [plusB_ne e] at hk) md ho fun _ _ _ => rfl
abbrev set3 (w : World) (b : Nat) (u0 u1 u2 : Value) : World := ((w.setCell ⟨b, 0, none⟩ u0).setCell ⟨b, 1, none⟩ u1).setCell ⟨b, 2, none⟩ u2
abbrev set4 (w : World) (b : Nat) (u0 u1 u2 u3 : Value) : World := (set3 w b u0 u1 u2).setCell ⟨b, 3, none⟩ u3
abbrev set5 (w : World) (b : Nat) (u0 u1 u2 u3 u4 : Value) : World := (set4 w b u0 u1 u2 u3).setCell ⟨b, 4, none⟩ u4
theorem St.put3 {D M : Nat → Bool} {w : World} {rb : Nat} {xs : List O} {s : RS} (h : St D M w rb xs s) {b : Nat} (hd : D b = true) (hm : M b = false) (u0 u1 u2 : Value) : St D M (set3 w b u0 u1 u2) rb xs s :=
  ((h.put ⟨b, 0, none⟩ u0 hd hm).put ⟨b, 1, none⟩ u1 hd hm).put ⟨b, 2, none⟩ u2 hd hm
theorem St.put4 {D M : Nat → Bool} {w : World} {rb : Nat} {xs : List O} {s : RS} (h : St D M w rb xs s) {b : Nat} (hd : D b = true) (hm : M b = false) (u0 u1 u2 u3 : Value) : St D M (set4 w b u0 u1 u2 u3) rb xs s :=
  (h.put3 hd hm u0 u1 u2).put ⟨b, 3, none⟩ u3 hd hm
theorem St.put5 {D M : Nat → Bool} {w : World} {rb : Nat} {xs : List O} {s : RS} (h : St D M w rb xs s) {b : Nat} (hd : D b = true) (hm : M b = false) (u0 u1 u2 u3 u4 : Value) : St D M (set5 w b u0 u1 u2 u3 u4) rb xs s :=
  (h.put4 hd hm u0 u1 u2 u3).put ⟨b, 4, none⟩ u4 hd hm
theorem Turn.set3 {D M D' M' : Nat → Bool} {w w' : World} (h : Turn D M D' M' w w') {b : Nat} (hb : w.heap.size ≤ b ∨ M b = true) (u0 u1 u2 : Value) : Turn D M D' M' w (Go.Proofs.YtaojalicnnnkmaaGreatDoor.set3 w' b u0 u1 u2) :=
  ((h.set ⟨b, 0, none⟩ u0 hb).set ⟨b, 1, none⟩ u1 hb).set ⟨b, 2, none⟩ u2 hb
theorem Turn.set4 {D M D' M' : Nat → Bool} {w w' : World} (h : Turn D M D' M' w w') {b : Nat} (hb : w.heap.size ≤ b ∨ M b = true) (u0 u1 u2 u3 : Value) : Turn D M D' M' w (Go.Proofs.YtaojalicnnnkmaaGreatDoor.set4 w' b u0 u1 u2 u3) :=
  (h.set3 hb u0 u1 u2).set ⟨b, 3, none⟩ u3 hb
theorem Turn.set5 {D M D' M' : Nat → Bool} {w w' : World} (h : Turn D M D' M' w w') {b : Nat} (hb : w.heap.size ≤ b ∨ M b = true) (u0 u1 u2 u3 u4 : Value) : Turn D M D' M' w (Go.Proofs.YtaojalicnnnkmaaGreatDoor.set5 w' b u0 u1 u2 u3 u4) :=
  (h.set4 hb u0 u1 u2 u3).set ⟨b, 4, none⟩ u4 hb
theorem Old.out {D M : Nat → Bool} {w : World} {rb : Nat} {xs : List O} {s : RS} (h : St D M w rb xs s) {k : Nat} (hk : w.heap.size ≤ k) : M k = false := by
  cases hm : M k with
  | false => rfl
  | true => have := h.md k hm; rw [h.old k hk] at this; cases this
/-- Where the reader's parts lie. -/
theorem St.parts {D M : Nat → Bool} {w : World} {rb : Nat} {xs : List O} {s : RS} (h : St D M w rb xs s) : ∃ vo vl vn, w.cell? ⟨rb, 0, none⟩ = some vo ∧ w.cell? ⟨rb, 1, none⟩ = some vl ∧ w.cell? ⟨rb, 2, none⟩ = some (.int .i64 (s.next : Int)) ∧ w.cell? ⟨rb, 3, none⟩ = some vn ∧ (∀ j, w.frozen? ⟨rb, j, none⟩ = false) ∧ Ops (hide D w) vo xs ∧ Toks (hide D w) vl s.rest ∧ w.ownsRow (rb + 1) 179 2 vn s.names.length (s.names.flatMap nmCells) ∧ ∀ k, vn.ownBlock = some k → M k = true := by
  obtain ⟨vo, o1, o2⟩ := h.co
  obtain ⟨vl, l1, l2⟩ := h.cl
  obtain ⟨vn, n1, n2, n3⟩ := h.c3
  exact ⟨vo, vl, vn, o1, l1, h.c2, n1, h.fz, o2, l2, n2, n3⟩
theorem take_rest {w : World} {v : Value} {x : TokP} {r : List TokP} (h : Toks w v (x :: r)) : ∃ b off c, v = .slice (some ⟨b, off, none⟩) (r.length + 1) c ∧ r.length + 1 ≤ c ∧ c ≤ maxLen ∧ b < w.heap.size ∧ Toks w (.slice (some ⟨b, off + 5, none⟩) r.length (c - 1)) r ∧
    w.cell? ⟨b, off, none⟩ = some (.int .i64 (x.1.kind : Int)) ∧ w.cell? ⟨b, off + 1, none⟩ = some (.string ⟨x.1.text.toArray⟩) ∧ w.cell? ⟨b, off + 2, none⟩ = some (.int .i64 (x.1.n : Int)) ∧ w.cell? ⟨b, off + 3, none⟩ = some (.bool x.1.opens) ∧ w.cell? ⟨b, off + 4, none⟩ = some (.int .i64 (x.2 : Int)) := by
  obtain ⟨a, c, e, h1, h2, h3⟩ := h
  rcases h3 with h3 | ⟨b, off, rfl, hb, hc⟩
  · cases h3
  · rw [List.length_cons] at e h1
    refine ⟨b, off, c, e, h1, h2, hb, ⟨_, c - 1, rfl, by omega, by unfold maxLen at *; omega, Or.inr ⟨b, off + 5, rfl, hb, fun i y hy j u hu => ?_⟩⟩, ?_, ?_, ?_, ?_, ?_⟩
    · have := hc (i + 1) y (by simpa using hy) j u hu
      rw [show off + 5 + (i * 5 + j) = off + ((i + 1) * 5 + j) by omega]
      exact this
    · simpa using hc 0 x rfl 0 _ rfl
    · simpa using hc 0 x rfl 1 _ rfl
    · simpa using hc 0 x rfl 2 _ rfl
    · simpa using hc 0 x rfl 3 _ rfl
    · simpa using hc 0 x rfl 4 _ rfl
theorem toks_none {w : World} {v : Value} (h : Toks w v []) : ∃ a c, v = .slice a 0 c ∧ c ≤ maxLen := by
  obtain ⟨a, c, e, h1, h2, _⟩ := h
  exact ⟨a, c, e, h2⟩
end Go.Proofs.YtaojalicnnnkmaaGreatDoor
/- The project's reader: next, take, takes. -/
namespace Go.Proofs.YtaojalicnnnkmaaGreatDoor
open Go.RowKit
set_option linter.unusedVariables false

theorem far_cell {w : World} {b j c k : Nat} {u : Value} (hne : b ≠ c) : (w.setCell ⟨c, k, none⟩ u).cell? ⟨b, j, none⟩ = w.cell? ⟨b, j, none⟩ := by
  rw [World.cell?_setCell_other]
  intro e; injection e with e _ _; exact hne e.symm
theorem near_cell {w : World} {rb j k : Nat} {u : Value} (hk : j ≠ k) : (w.setCell ⟨rb, k, none⟩ u).cell? ⟨rb, j, none⟩ = w.cell? ⟨rb, j, none⟩ := by
  rw [World.cell?_setCell_other]
  intro e; injection e with _ e _; exact hk e.symm
theorem bel5 {w w1 : World} (h : Below w.heap.size w w1) {b : Nat} (hb : w.heap.size ≤ b) (u0 u1 u2 u3 u4 : Value) : Below w.heap.size w (((((w1.setCell ⟨b, 0, none⟩ u0).setCell ⟨b, 1, none⟩ u1).setCell ⟨b, 2, none⟩ u2).setCell ⟨b, 3, none⟩ u3).setCell ⟨b, 4, none⟩ u4) :=
  (((((h).setCell (p := ⟨b, 0, none⟩) hb _).setCell (p := ⟨b, 1, none⟩) hb _).setCell (p := ⟨b, 2, none⟩) hb _).setCell (p := ⟨b, 3, none⟩) hb _).setCell (p := ⟨b, 4, none⟩) hb _
set_option maxHeartbeats 1000000 in
theorem next_at {D M : Nat → Bool} {w : World} {rb : Nat} {xs : List O} {s : RS} (h : St D M w rb xs s) :
    Calls Tryz.prog 82 #[.pointer (some ⟨rb, 0, none⟩)] w fun e w' => e = .returned (tkVal (headR s)) ∧ Below w.heap.size w w' := by
  obtain ⟨w1, hw1, hb1, hz1, hx1⟩ := box_new w #[.int .i64 0, .string ⟨#[]⟩, .int .i64 0, .bool false, .int .i64 0] 125
  obtain ⟨r0, r1, r2, r3, r4, rf⟩ := hx1.five
  obtain ⟨_, vl, _, _, l1, _, _, _, _, l2, _⟩ := (h.later hb1).parts
  have l2 : Toks w1 vl s.rest := Elems.stay l2 (Stays.unhide D w1)
  cases hr : s.rest with
  | nil =>
    rw [hr] at l2
    obtain ⟨a, c, rfl, hc⟩ := toks_none l2
    rw [show headR s = zTok by unfold headR; rw [hr]; rfl]
    clear l2 hr h
    go_enter Tryz.func82, Tryz.ntmps82
    go_wp2_with fail
    (try rw [hw1])
    clear hw1
    go_wp2
    refine bodyPost_ret (v := tkVal zTok) (by rw [results_cell1 rfl]; go_simp; (try simp [zTok])) rfl ⟨rfl, ?_⟩
    exact bel5 hb1 (Nat.le_refl _) _ _ _ _ _
  | cons x r =>
    rw [hr] at l2
    obtain ⟨b, off, c, rfl, h1, h2, hb, _, d0, d1, d2, d3, d4⟩ := take_rest l2
    rw [show headR s = x by unfold headR; rw [hr]; rfl]
    unfold maxLen at h2
    obtain ⟨n, hn⟩ : ∃ n, r.length = n := ⟨_, rfl⟩
    rw [hn] at l1 h1
    clear l2 hr h hn
    have hn0 : ((n : Int) + 1 == 0) = false := beq_false_of_ne (by omega)
    go_enter Tryz.func82, Tryz.ntmps82
    go_wp2_with fail
    (try rw [hw1])
    clear hw1
    go_wp2
    refine bodyPost_ret (v := tkVal x) (by rw [results_cell1 rfl]; go_simp) rfl ⟨rfl, ?_⟩
    exact bel5 hb1 (Nat.le_refl _) _ _ _ _ _
/-- What a call that reads leaves. -/
def TakeSt (D M : Nat → Bool) (w w' : World) (rb : Nat) (xs : List O) (s : RS) : Prop := St D M w' rb xs s ∧ Turn D M D M w w'
theorem St.pass {D M : Nat → Bool} {w : World} {rb : Nat} {xs : List O} {s : RS} {vl : Value} (h : St D M w rb xs s) (hv : Toks (hide D w) vl (dropR s).rest) : St D M (w.setCell ⟨rb, 1, none⟩ vl) rb xs (dropR s) := by
  have hs : Stays (hide D w) (hide D (w.setCell ⟨rb, 1, none⟩ vl)) := Stays.set _ _ (h.md rb h.mb)
  obtain ⟨vo, o1, o2⟩ := h.co
  obtain ⟨vl0, l1, l2⟩ := h.cl
  obtain ⟨vn, n1, n2, n3⟩ := h.c3
  exact { mb := h.mb, md := h.md, old := h.old.mono (by simp [World.setCell])
          co := ⟨vo, by rw [near_cell (by decide)]; exact o1, Elems.stay o2 hs⟩
          cl := ⟨vl, css l1, Elems.stay hv hs⟩
          c2 := by rw [near_cell (by decide)]; exact h.c2
          c3 := ⟨vn, by rw [near_cell (by decide)]; exact n1, row_at n2 (fun g hg => Below.heap_setCell w _ _ g (fun e => by have := (row_in n2 hg).1; simp only at e; omega)), n3⟩
          fz := fun j => by rw [World.frozen?_setCell]; exact h.fz j
          nice := h.nice.drop }
set_option maxHeartbeats 1000000 in
theorem take_at {D M : Nat → Bool} {w : World} {rb : Nat} {xs : List O} {s : RS} (h : St D M w rb xs s) :
    Calls Tryz.prog 66 #[.pointer (some ⟨rb, 0, none⟩)] w fun e w' => e = .returned (tkVal (headR s)) ∧ TakeSt D M w w' rb xs (dropR s) := by
  have HN := Lib.hid (fun wq hq => next_at (h.later (w' := wq) hq))
  obtain ⟨q, hq⟩ : ∃ q, headR s = q := ⟨_, rfl⟩
  rw [hq] at HN ⊢
  obtain ⟨w1, hw1, hb1, hz1, hx1⟩ := box_new w #[.int .i64 0, .string ⟨#[]⟩, .int .i64 0, .bool false, .int .i64 0] 125
  have hlt := h.lt
  have H := Lib.hid h
  have HD : Hid (∀ s', dropR s = s' → _) := Lib.hid (fun s' (e : dropR s = s') => e)
  obtain ⟨s', hs'⟩ : ∃ s', dropR s = s' := ⟨_, rfl⟩
  rw [hs']
  have HS' := Lib.hid hs'
  clear h hq hs' HD
  go_enter Tryz.func66, Tryz.ntmps66
  go_wp2_with fail
  (try rw [hw1])
  clear hw1
  (go_wp2_with fail; go_fit (HN.out _ hb1); rintro e w2 ⟨rfl, hb2⟩)
  obtain ⟨w3, hw3, hb3, hz3, hx3⟩ := box_new w2 #[.int .i64 (q.1.kind : Int), .string ⟨q.1.text.toArray⟩, .int .i64 (q.1.n : Int), .bool q.1.opens, .int .i64 (q.2 : Int)] 125
  obtain ⟨r0, r1, r2, r3, r4, rf⟩ := ((hx1.ext hb2).ext hb3).five
  obtain ⟨d0, d1, d2, d3, d4, df⟩ := hx3.five
  have HB3 := Lib.hid (Ext.trans' (Ext.trans' hb1 hb2) hb3)
  have hsz := hb2.size
  have hne : rb ≠ w.heap.size := by omega
  have hne2 : rb ≠ w2.heap.size := by omega
  have hne3 : w.heap.size ≠ w2.heap.size := by omega
  have HX := Lib.hid ((hx1.ext hb2).ext hb3)
  obtain ⟨_, vl, _, _, l1, _, _, hf, _, l2, _⟩ := (H.out.box HB3.out (Nat.le_refl _) HX.out.lt).parts
  clear hb1 hb2 hb3 HN hx1 hx3
  cases hr : s.rest with
  | nil =>
    have e : s' = s := by rw [← HS'.out]; unfold dropR; rw [hr]; cases s; simp only at hr; subst hr; rfl
    rw [hr] at l2
    obtain ⟨a, c, rfl, hc⟩ := toks_none l2
    have HE := Lib.hid e
    clear l2 hr e
    go_wp2_with fail
    (try rw [hw3])
    clear hw3
    go_wp2
    have hB := bel5 HB3.out (Nat.le_refl w.heap.size) (.int .i64 (q.1.kind : Int)) (.string ⟨q.1.text.toArray⟩) (.int .i64 (q.1.n : Int)) (.bool q.1.opens) (.int .i64 (q.2 : Int))
    refine bodyPost_ret (v := tkVal q) (by rw [results_cell1 rfl]; go_simp) rfl ⟨rfl, ?_⟩
    rw [HE.out]
    exact ⟨H.out.later hB, Turn.below hB⟩
  | cons x r =>
    rw [hr] at l2
    obtain ⟨b, off, c, rfl, h1, h2, hb, ht, _⟩ := take_rest l2
    have HT := Lib.hid ht
    have hrr : (dropR s).rest = r := by unfold dropR; rw [hr]; rfl
    have HR := Lib.hid hrr
    unfold maxLen at h2
    obtain ⟨n, hn⟩ : ∃ n, r.length = n := ⟨_, rfl⟩
    rw [hn] at l1 h1 HT
    have hB : M w.heap.size = false := Old.out H.out (Nat.le_refl _)
    have HF := Lib.hid (fun (vl' : Value) (hv : Toks (hide (plusB D w.heap.size) w3) vl' r) => (((H.out.box HB3.out (Nat.le_refl _) HX.out.lt).pass (vl := vl') (by rw [hrr]; exact hv)).put5 (plusB_self D _) hB (.int .i64 (q.1.kind : Int)) (.string ⟨q.1.text.toArray⟩) (.int .i64 (q.1.n : Int)) (.bool q.1.opens) (.int .i64 (q.2 : Int))).unbox H.out.md)
    have HT2 := Lib.hid (fun (vl' : Value) => ((Turn.below (D := D) (M := M) HB3.out).set ⟨rb, 1, none⟩ vl' (Or.inr H.out.mb)).set5 (b := w.heap.size) (Or.inl (Nat.le_refl _)) (.int .i64 (q.1.kind : Int)) (.string ⟨q.1.text.toArray⟩) (.int .i64 (q.1.n : Int)) (.bool q.1.opens) (.int .i64 (q.2 : Int)))
    have HO := Lib.hid (fun (vl' : Value) => H.out.old.mono (HT2.out vl').size)
    have HLR := Lib.hid hn
    clear l2 hr hn ht hrr HR
    by_cases hc1 : c = 1
    · subst hc1
      obtain rfl : n = 0 := by omega
      have HNil : Hid (Toks (hide (plusB D w.heap.size) w3) (.slice (some ⟨b, off, none⟩) 0 0) r) := Lib.hid (by
        have hr0 : r = [] := List.length_eq_zero_iff.1 HLR.out
        subst hr0
        exact ⟨_, 0, rfl, Nat.zero_le _, Nat.zero_le _, Or.inl rfl⟩)
      go_wp2_with fail
      (try rw [hw3])
      clear hw3
      go_wp2
      refine bodyPost_ret (v := tkVal q) (by rw [results_cell1 rfl]; go_simp) rfl ⟨rfl, ?_⟩
      rw [← HS'.out]
      exact ⟨HF.out _ HNil.out (HO.out _), HT2.out _⟩
    · go_wp2_with fail
      (try rw [hw3])
      clear hw3
      go_wp2
      refine bodyPost_ret (v := tkVal q) (by rw [results_cell1 rfl]; go_simp) rfl ⟨rfl, ?_⟩
      rw [← HS'.out]
      exact ⟨HF.out _ HT.out (HO.out _), HT2.out _⟩
def takesS (t : List UInt8) (s : RS) : RS := if isMark t (headR s) then dropR s else s
theorem takesR_yes {t : List UInt8} {s : RS} (h : isMark t (headR s) = true) : takesR t s = some (takesS t s) := by
  unfold takesR takesS
  rw [if_pos h, if_pos h]
theorem takesR_no {t : List UInt8} {s : RS} (h : isMark t (headR s) = false) : takesR t s = none ∧ takesS t s = s := by
  unfold takesR takesS
  rw [h]
  exact ⟨rfl, rfl⟩
set_option maxHeartbeats 1000000 in
theorem takes_at {D M : Nat → Bool} {w : World} {rb : Nat} {xs : List O} {s : RS} (h : St D M w rb xs s) (t : List UInt8) :
    Calls Tryz.prog 117 #[.pointer (some ⟨rb, 0, none⟩), .string ⟨t.toArray⟩] w fun e w' => e = .returned (.bool (isMark t (headR s))) ∧ TakeSt D M w w' rb xs (takesS t s) := by
  have HN := Lib.hid (next_at h)
  have HTk := Lib.hid (fun wq (hq : Below w.heap.size w wq) => take_at (h.later (w' := wq) hq))
  obtain ⟨q, hq⟩ : ∃ q, headR s = q := ⟨_, rfl⟩
  have HQ := Lib.hid hq
  rw [hq] at HN HTk ⊢
  obtain ⟨sd, hsd⟩ : ∃ sd, takesS t s = sd := ⟨_, rfl⟩
  have HSD := Lib.hid hsd
  have H := Lib.hid h
  obtain ⟨m, hm⟩ : ∃ m, isMark t q = m := ⟨_, rfl⟩
  have HM := Lib.hid hm
  rw [hsd, hm]
  clear h hq hsd hm
  go_enter Tryz.func117, Tryz.ntmps117
  (go_wp2_with fail; go_fit (HN.out); rintro e w2 ⟨rfl, hb2⟩)
  obtain ⟨w3, hw3, hb3, hz3, hx3⟩ := box_new w2 #[.int .i64 (q.1.kind : Int), .string ⟨q.1.text.toArray⟩, .int .i64 (q.1.n : Int), .bool q.1.opens, .int .i64 (q.2 : Int)] 125
  obtain ⟨d0, d1, d2, d3, d4, df⟩ := hx3.five
  have HB3 := Lib.hid (Ext.trans' hb2 hb3)
  clear hb2 hb3 hx3
  by_cases hk : q.1.kind = 5
  · by_cases ht : q.1.text = t
    · have hm : isMark t q = true := by unfold isMark; rw [hk, ht]; simp
      have HE : Hid (sd = dropR s) := Lib.hid (by rw [← HSD.out]; unfold takesS; rw [HQ.out, if_pos hm])
      obtain rfl : m = true := HM.out.symm.trans hm
      have hk' : ((q.1.kind : Int) == 5) = true := by rw [hk]; rfl
      have ht' : (q.1.text == t) = true := by rw [ht]; exact beq_self_eq_true _
      clear hk ht hm
      go_wp2_with fail
      (try rw [hw3])
      clear hw3
      (go_wp2_with fail; go_fit (HTk.out _ HB3.out); rintro e w4 ⟨rfl, h4⟩)
      go_wp2
      go_ret
      rw [HE.out]
      exact ⟨rfl, h4.1, (Turn.below HB3.out).trans h4.2⟩
    · have hm : isMark t q = false := by unfold isMark; rw [hk]; simp [ht]
      have HE : Hid (sd = s) := Lib.hid (by rw [← HSD.out]; unfold takesS; rw [HQ.out, hm]; rfl)
      obtain rfl : m = false := HM.out.symm.trans hm
      have hk' : ((q.1.kind : Int) == 5) = true := by rw [hk]; rfl
      have ht' : (q.1.text == t) = false := beq_false_of_ne ht
      clear hk ht hm
      go_wp2_with fail
      (try rw [hw3])
      clear hw3
      go_wp2
      go_ret
      rw [HE.out]
      exact ⟨rfl, H.out.later HB3.out, Turn.below HB3.out⟩
  · have hm : isMark t q = false := by unfold isMark; simp [hk]
    have HE : Hid (sd = s) := Lib.hid (by rw [← HSD.out]; unfold takesS; rw [HQ.out, hm]; rfl)
    obtain rfl : m = false := HM.out.symm.trans hm
    have hk' : ((q.1.kind : Int) == 5) = false := beq_false_of_ne (by omega)
    clear hk hm
    go_wp2_with fail
    (try rw [hw3])
    clear hw3
    go_wp2
    go_ret
    rw [HE.out]
    exact ⟨rfl, H.out.later HB3.out, Turn.below HB3.out⟩
end Go.Proofs.YtaojalicnnnkmaaGreatDoor
/- The project's reader: between. -/
namespace Go.Proofs.YtaojalicnnnkmaaGreatDoor
open Go.RowKit
set_option linter.unusedVariables false

theorem Below.set3 {B : Nat} {w w' : World} (h : Below B w w') {b : Nat} (hb : B ≤ b) (u0 u1 u2 : Value) : Below B w (Go.Proofs.YtaojalicnnnkmaaGreatDoor.set3 w' b u0 u1 u2) :=
  ((h.setCell (p := ⟨b, 0, none⟩) hb _).setCell (p := ⟨b, 1, none⟩) hb _).setCell (p := ⟨b, 2, none⟩) hb _
theorem Below.set4 {B : Nat} {w w' : World} (h : Below B w w') {b : Nat} (hb : B ≤ b) (u0 u1 u2 u3 : Value) : Below B w (Go.Proofs.YtaojalicnnnkmaaGreatDoor.set4 w' b u0 u1 u2 u3) :=
  (Below.set3 h hb u0 u1 u2).setCell (p := ⟨b, 3, none⟩) hb _
theorem far3 {w : World} {b j c : Nat} {v : Value} (h : w.cell? ⟨b, j, none⟩ = some v) (hne : b ≠ c) (u0 u1 u2 : Value) : (set3 w c u0 u1 u2).cell? ⟨b, j, none⟩ = some v := by
  rw [far_cell hne, far_cell hne, far_cell hne]; exact h
theorem far4 {w : World} {b j c : Nat} {v : Value} (h : w.cell? ⟨b, j, none⟩ = some v) (hne : b ≠ c) (u0 u1 u2 u3 : Value) : (set4 w c u0 u1 u2 u3).cell? ⟨b, j, none⟩ = some v := by
  rw [far_cell hne]; exact far3 h hne _ _ _
theorem Ops.bare {D : Nat → Bool} {w : World} {v : Value} {xs : List O} (h : Ops (hide D w) v xs) : Ops w v xs := Elems.stay h (Stays.unhide D w)
set_option maxHeartbeats 2000000 in
theorem between_yes {D M : Nat → Bool} {w : World} {rb : Nat} {xs : List O} {s : RS} (h : St D M w rb xs s) (q : TokP) (hq : headR s = q) (ho : opKind q = true) :
    Calls Tryz.prog 80 #[.pointer (some ⟨rb, 0, none⟩)] w fun e w' => e = .returned (.tuple #[oVal (oneB xs q.1.text 2).1, .bool (oneB xs q.1.text 2).2]) ∧ Below w.heap.size w w' := by
  have HN := Lib.hid (fun wq hq => next_at (h.later (w' := wq) hq))
  rw [hq] at HN
  have HI := Lib.hid (fun wq (hb : Below w.heap.size w wq) (v : Value) (hv : Ops wq v xs) => in_walk hv ⟨q.1.text.toArray⟩)
  obtain ⟨⟨⟨yn, yk, yl⟩, yg⟩, hy⟩ : ∃ y, oneB xs q.1.text 2 = y := ⟨_, rfl⟩
  rw [show bl (⟨q.1.text.toArray⟩ : ByteArray) = q.1.text from rfl, hy] at HI
  rw [hy]
  obtain ⟨w1, hw1, hb1, hz1, hx1⟩ := box_new w #[.string ⟨#[]⟩, .string ⟨#[]⟩, .int .i64 0] 93
  have H := Lib.hid h
  have hlt := h.lt
  have HK := Lib.hid ho
  clear h hq hy ho
  go_enter Tryz.func80, Tryz.ntmps80
  go_wp2_with fail
  (try rw [hw1])
  clear hw1
  (go_wp2_with fail; go_fit (HN.out _ hb1); rintro e w2 ⟨rfl, hb2⟩)
  obtain ⟨w3, hw3, hb3, hz3, hx3⟩ := box_new w2 #[.int .i64 (q.1.kind : Int), .string ⟨q.1.text.toArray⟩, .int .i64 (q.1.n : Int), .bool q.1.opens, .int .i64 (q.2 : Int)] 125
  obtain ⟨r0, r1, r2, rf⟩ := ((hx1.ext hb2).ext hb3).three
  obtain ⟨d0, d1, d2, d3, d4, df⟩ := hx3.five
  have HB3 := Lib.hid (Ext.trans' (Ext.trans' hb1 hb2) hb3)
  obtain ⟨vo, _, _, p0, _, _, _, _, po, _⟩ := (H.out.later HB3.out).parts
  have PO := Lib.hid po.bare
  have hsz := hb2.size
  have hne : rb ≠ w.heap.size := by omega
  have hne2 : rb ≠ w2.heap.size := by omega
  have hne3 : w2.heap.size ≠ w.heap.size := by omega
  have HX := Lib.hid ((hx1.ext hb2).ext hb3)
  clear hb1 hb2 hb3 HN hx1 hx3 po
  have hk : ((q.1.kind : Int) == 1) = true ∨ (((q.1.kind : Int) == 1) = false ∧ ((q.1.kind : Int) == 2) = true) ∨ (((q.1.kind : Int) == 1) = false ∧ ((q.1.kind : Int) == 2) = false ∧ ((q.1.kind : Int) == 5) = true ∧ (q.1.text == [44]) = true) := by
    have hk := HK.out
    unfold opKind isMark at hk
    by_cases h1 : q.1.kind = 1
    · left; rw [h1]; rfl
    by_cases h2 : q.1.kind = 2
    · right; left; rw [h2]; exact ⟨rfl, rfl⟩
    by_cases h5 : q.1.kind = 5
    · right; right; rw [h5]; rw [h5] at hk; simpa using hk
    · simp [h1, h2, h5] at hk
  rcases hk with hk1 | ⟨hk1, hk2⟩ | ⟨hk1, hk2, hk5, hkt⟩
  all_goals
    go_wp2_with fail
    (try rw [hw3])
    clear hw3
    go_wp2_with fail
    refine wp_region_held_drew (S := fun w' => w'.cell? ⟨rb, 0, none⟩ = some vo ∧ w'.cell? ⟨w2.heap.size, 1, none⟩ = some (.string ⟨q.1.text.toArray⟩)) (by kernel_rfl) (⟨p0, d1⟩) (fun hHeld => ?_)
    first | (refine held_t (i := 0) hHeld ?_; apply Exists.intro; refine ⟨fun wq hq => ?_, ?_⟩; (focus ((try dsimp only at hq); go_simp; (first | done | with_reducible rfl | fail)))) | refine held_s (i := 0) hHeld ?_ | fail
    first | (refine held_t (i := 1) hHeld ?_; apply Exists.intro; refine ⟨fun wq hq => ?_, ?_⟩; (focus ((try dsimp only at hq); go_simp; (first | done | with_reducible rfl | fail)))) | refine held_s (i := 1) hHeld ?_ | fail
    first | (refine held_t (i := 2) hHeld ?_; apply Exists.intro; refine ⟨fun wq hq => ?_, ?_⟩; (focus ((try dsimp only at hq); go_simp; (first | done | with_reducible rfl | fail)))) | refine held_s (i := 2) hHeld ?_ | fail
    first | (refine held_t (i := 3) hHeld ?_; apply Exists.intro; refine ⟨fun wq hq => ?_, ?_⟩; (focus ((try dsimp only at hq); go_simp; (first | done | with_reducible rfl | fail)))) | refine held_s (i := 3) hHeld ?_ | fail
    first | (refine held_t (i := 4) hHeld ?_; apply Exists.intro; refine ⟨fun wq hq => ?_, ?_⟩; (focus ((try dsimp only at hq); go_simp; (first | done | with_reducible rfl | fail)))) | refine held_s (i := 4) hHeld ?_ | fail
    first | (refine held_t (i := 5) hHeld ?_; apply Exists.intro; refine ⟨fun wq hq => ?_, ?_⟩; (focus ((try dsimp only at hq); go_simp; (first | done | with_reducible rfl | fail)))) | refine held_s (i := 5) hHeld ?_ | fail
    try simp only [Act.put, List.setIfInBounds_toArray, List.set_cons_zero, List.set_cons_succ]
    refine held_c 6 fun K hK => ?_
    go_simp
    (go_at_call 100; refine (HI.out _ (Ext.trans' HB3.out (Below.refl _ _).drew) _ (PO.out.ext (Below.refl _ _).drew)).mono ?_; rintro e w4 ⟨rfl, hb4⟩; obtain ⟨e0, e1, e2, ef⟩ := ((HX.out.ext (Below.refl _ _).drew).ext hb4).three; have HB4 := Lib.hid (Ext.trans' (Ext.trans' HB3.out (Below.refl _ _).drew) hb4))
    refine hK.out _ _ (⟨cell_later hb4 hHeld.1, cell_later hb4 hHeld.2⟩) (fun hHeld => ?_)
    clear hK K
    try simp only [Act.put, List.setIfInBounds_toArray, List.set_cons_zero, List.set_cons_succ]
    first | (refine held_t (i := 7) hHeld ?_; apply Exists.intro; refine ⟨fun wq hq => ?_, ?_⟩; (focus ((try dsimp only at hq); go_simp; (first | done | with_reducible rfl | fail)))) | refine held_s (i := 7) hHeld ?_ | fail
    first | (refine held_t (i := 8) hHeld ?_; apply Exists.intro; refine ⟨fun wq hq => ?_, ?_⟩; (focus ((try dsimp only at hq); go_simp; (first | done | with_reducible rfl | fail)))) | refine held_s (i := 8) hHeld ?_ | fail
    try simp only [Act.put, List.setIfInBounds_toArray, List.set_cons_zero, List.set_cons_succ]
    refine held_c 9 fun K hK => ?_
    go_simp
    skip
    refine hK.out _ _ (⟨far3 hHeld.1 hne _ _ _, far3 hHeld.2 hne3 _ _ _⟩) (fun hHeld => ?_)
    clear hK K
    try simp only [Act.put, List.setIfInBounds_toArray, List.set_cons_zero, List.set_cons_succ]
    first | (refine held_t (i := 10) hHeld ?_; apply Exists.intro; refine ⟨fun wq hq => ?_, ?_⟩; (focus ((try dsimp only at hq); go_simp; (first | done | with_reducible rfl | fail)))) | refine held_s (i := 10) hHeld ?_ | fail
    try simp only [Act.put, List.setIfInBounds_toArray, List.set_cons_zero, List.set_cons_succ]
    refine wpAnyH_done (by kernel_rfl) ?_ _
    go_wp2
    refine bodyPost_ret (v := .tuple #[.agg #[.string yn, .string yk, .int .i64 yl], .bool yg]) (by rw [results_cell_tmp rfl]; go_simp) rfl ⟨rfl, Below.set3 HB4.out (Nat.le_refl _) _ _ _⟩
set_option maxHeartbeats 1000000 in
theorem between_no {D M : Nat → Bool} {w : World} {rb : Nat} {xs : List O} {s : RS} (h : St D M w rb xs s) (q : TokP) (hq : headR s = q) (ho : opKind q = false) :
    Calls Tryz.prog 80 #[.pointer (some ⟨rb, 0, none⟩)] w fun e w' => e = .returned (.tuple #[.agg #[.string ⟨#[]⟩, .string ⟨#[]⟩, .int .i64 0], .bool false]) ∧ Below w.heap.size w w' := by
  have HN := Lib.hid (fun wq hq => next_at (h.later (w' := wq) hq))
  rw [hq] at HN
  obtain ⟨w1, hw1, hb1, hz1, hx1⟩ := box_new w #[.string ⟨#[]⟩, .string ⟨#[]⟩, .int .i64 0] 93
  have HK := Lib.hid ho
  clear h hq ho
  go_enter Tryz.func80, Tryz.ntmps80
  go_wp2_with fail
  (try rw [hw1])
  clear hw1
  (go_wp2_with fail; go_fit (HN.out _ hb1); rintro e w2 ⟨rfl, hb2⟩)
  obtain ⟨w3, hw3, hb3, hz3, hx3⟩ := box_new w2 #[.int .i64 (q.1.kind : Int), .string ⟨q.1.text.toArray⟩, .int .i64 (q.1.n : Int), .bool q.1.opens, .int .i64 (q.2 : Int)] 125
  obtain ⟨r0, r1, r2, rf⟩ := ((hx1.ext hb2).ext hb3).three
  obtain ⟨d0, d1, d2, d3, d4, df⟩ := hx3.five
  have HB3 := Lib.hid (Ext.trans' (Ext.trans' hb1 hb2) hb3)
  clear hb1 hb2 hb3 HN hx1 hx3
  have hk : ((q.1.kind : Int) == 1) = false ∧ ((q.1.kind : Int) == 2) = false ∧ (((q.1.kind : Int) == 5) = false ∨ (((q.1.kind : Int) == 5) = true ∧ (q.1.text == [44]) = false)) := by
    have hk := HK.out
    unfold opKind isMark at hk
    simp only [Bool.or_eq_false_iff, Bool.and_eq_false_iff, beq_eq_false_iff_ne] at hk
    obtain ⟨h1, h2, h3⟩ := hk
    refine ⟨beq_false_of_ne (by omega), beq_false_of_ne (by omega), ?_⟩
    by_cases h5 : q.1.kind = 5
    · right
      rcases h3 with h3 | h3
      · exact absurd h5 h3
      · exact ⟨by rw [h5]; rfl, beq_false_of_ne h3⟩
    · left; exact beq_false_of_ne (by omega)
  obtain ⟨hk1, hk2, hk5 | ⟨hk5, hkt⟩⟩ := hk
  all_goals
    go_wp2_with fail
    (try rw [hw3])
    clear hw3
    go_wp2
    refine bodyPost_ret (v := .tuple #[.agg #[.string ⟨#[]⟩, .string ⟨#[]⟩, .int .i64 0], .bool false]) (by rw [results_cell_tmp rfl]; go_simp) rfl ⟨rfl, Below.set3 HB3.out (Nat.le_refl _) _ _ _⟩
theorem between_at {D M : Nat → Bool} {w : World} {rb : Nat} {xs : List O} {s : RS} (h : St D M w rb xs s) :
    Calls Tryz.prog 80 #[.pointer (some ⟨rb, 0, none⟩)] w fun e w' => e = .returned (.tuple #[oVal (betweenR (betO xs) (headR s)).1, .bool (betweenR (betO xs) (headR s)).2]) ∧ Below w.heap.size w w' := by
  unfold betweenR
  cases ho : opKind (headR s) with
  | true => exact between_yes h _ rfl ho
  | false => exact between_no h _ rfl ho
end Go.Proofs.YtaojalicnnnkmaaGreatDoor
/- The project's reader: begins, isMinus. -/
namespace Go.Proofs.YtaojalicnnnkmaaGreatDoor
open Go.RowKit
set_option linter.unusedVariables false

set_option maxHeartbeats 2000000 in
theorem isMinus_at {D M : Nat → Bool} {w : World} {rb : Nat} {xs : List O} {s : RS} (h : St D M w rb xs s) (q : TokP) (hq2 : q.2 ≤ 4096) :
    Calls Tryz.prog 115 #[.pointer (some ⟨rb, 0, none⟩), tkVal q] w fun e w' => e = .returned (.bool (isMinusR q (headR s))) ∧ Below w.heap.size w w' := by
  have HN := Lib.hid (fun wq hq => next_at (h.later (w' := wq) hq))
  obtain ⟨x, hx⟩ : ∃ x, headR s = x := ⟨_, rfl⟩
  rw [hx] at HN ⊢
  obtain ⟨m, hm⟩ : ∃ m, isMinusR q x = m := ⟨_, rfl⟩
  have HM := Lib.hid hm
  rw [hm]
  obtain ⟨w1, hw1, hb1, hz1, hx1⟩ := box_new w #[.int .i64 (q.1.kind : Int), .string ⟨q.1.text.toArray⟩, .int .i64 (q.1.n : Int), .bool q.1.opens, .int .i64 (q.2 : Int)] 125
  clear h hx hm
  go_enter Tryz.func115, Tryz.ntmps115
  go_wp2_with fail
  (try rw [hw1])
  clear hw1
  (go_wp2_with fail; go_fit (HN.out _ hb1); rintro e w2 ⟨rfl, hb2⟩)
  obtain ⟨w3, hw3, hb3, hz3, hx3⟩ := box_new w2 #[.int .i64 (x.1.kind : Int), .string ⟨x.1.text.toArray⟩, .int .i64 (x.1.n : Int), .bool x.1.opens, .int .i64 (x.2 : Int)] 125
  obtain ⟨r0, r1, r2, r3, r4, rf⟩ := ((hx1.ext hb2).ext hb3).five
  obtain ⟨d0, d1, d2, d3, d4, df⟩ := hx3.five
  have HB3 := Lib.hid (Ext.trans' (Ext.trans' hb1 hb2) hb3)
  clear hb1 hb2 hb3 HN hx1 hx3 r2 r3 rf d1 d2 d3 df
  obtain ⟨qk, hqk⟩ : ∃ k, q.1.kind = k := ⟨_, rfl⟩
  obtain ⟨xk, hxk⟩ : ∃ k, x.1.kind = k := ⟨_, rfl⟩
  obtain ⟨qt, hqt⟩ : ∃ k, q.1.text = k := ⟨_, rfl⟩
  obtain ⟨qa, hqa⟩ : ∃ k, q.2 = k := ⟨_, rfl⟩
  obtain ⟨xa, hxa⟩ : ∃ k, x.2 = k := ⟨_, rfl⟩
  have hm := HM.out
  unfold isMinusR at hm
  rw [hqk, hxk, hqt, hqa, hxa] at hm
  rw [hqk] at r0
  rw [hqt] at r1
  rw [hqa] at r4 hq2
  rw [hxk] at d0
  rw [hxa] at d4
  clear HM hqk hxk hqt hqa hxa
  by_cases h1 : qk = 1
  · have k1 : ((qk : Int) == 1) = true := by rw [h1]; rfl
    by_cases h2 : qt = [45]
    · have k2 : (qt == [45]) = true := by rw [h2]; rfl
      by_cases h3 : xk = 4
      · have k3 : ((xk : Int) == 4) = true := by rw [h3]; rfl
        have hM : Hid (m = ((xa : Int) == (qa : Int) + 1)) := Lib.hid (by rw [← hm, h1, h2, h3]; simp)
        have hw : IntKind.i64.wrap ((qa : Int) + 1) = (qa : Int) + 1 := by rw [IntKind.wrap_i64]; omega
        clear hm h1 h2 h3
        go_wp2_with fail
        (try rw [hw3])
        clear hw3
        go_wp2
        go_ret
        exact ⟨ret_bool hM.out.symm, HB3.out⟩
      · have k3 : ((xk : Int) == 4) = false := beq_false_of_ne (by omega)
        have hM : Hid (m = false) := Lib.hid (by rw [← hm, h1, h2]; simp [h3])
        clear hm h1 h2 h3
        go_wp2_with fail
        (try rw [hw3])
        clear hw3
        go_wp2
        go_ret
        exact ⟨ret_bool hM.out.symm, HB3.out⟩
    · have k2 : (qt == [45]) = false := beq_false_of_ne h2
      have hM : Hid (m = false) := Lib.hid (by rw [← hm, h1]; simp [k2])
      clear hm h1 h2
      go_wp2_with fail
      (try rw [hw3])
      clear hw3
      go_wp2
      go_ret
      exact ⟨ret_bool hM.out.symm, HB3.out⟩
  · have k1 : ((qk : Int) == 1) = false := beq_false_of_ne (by omega)
    have hM : Hid (m = false) := Lib.hid (by rw [← hm]; simp [h1])
    clear hm h1
    go_wp2_with fail
    (try rw [hw3])
    clear hw3
    go_wp2
    go_ret
    exact ⟨ret_bool hM.out.symm, HB3.out⟩
theorem box_three (w : World) (v0 v1 v2 : Value) (ty : TypeId) {w' : World} (hb : Below (w.alloc (.cells #[v0, v1, v2] ty)).heap.size (w.alloc (.cells #[v0, v1, v2] ty)) w') : w'.cell? ⟨w.heap.size, 0, none⟩ = some v0 ∧ w'.cell? ⟨w.heap.size, 1, none⟩ = some v1 ∧ w'.cell? ⟨w.heap.size, 2, none⟩ = some v2 ∧ ∀ j, w'.frozen? ⟨w.heap.size, j, none⟩ = false := by
  obtain ⟨w1, rfl, _, _, h⟩ := box_new w #[v0, v1, v2] ty
  exact (h.ext hb).three
set_option maxHeartbeats 1000000 in
theorem begins_name {D M : Nat → Bool} {w : World} {rb : Nat} {xs : List O} {s : RS} (h : St D M w rb xs s) (x : TokP) (hx : headR s = x) (hk : x.1.kind = 1 ∨ x.1.kind = 2) :
    Calls Tryz.prog 119 #[.pointer (some ⟨rb, 0, none⟩)] w fun e w' => e = .returned (.bool (x.1.opens || ((oneB xs x.1.text 1).2 || !(betweenR (betO xs) x).2))) ∧ Below w.heap.size w w' := by
  have HN := Lib.hid (next_at h)
  have HBt := Lib.hid (fun wq hq => between_at (h.later (w' := wq) hq))
  rw [hx] at HN HBt
  have HP := Lib.hid (fun wq (hb : Below w.heap.size w wq) (v : Value) (hv : Ops wq v xs) => pre_walk hv ⟨x.1.text.toArray⟩)
  obtain ⟨⟨⟨yn, yk, yl⟩, yg⟩, hy⟩ : ∃ y, oneB xs x.1.text 1 = y := ⟨_, rfl⟩
  rw [show bl (⟨x.1.text.toArray⟩ : ByteArray) = x.1.text from rfl, hy] at HP
  obtain ⟨⟨⟨zn, zk, zl⟩, zg⟩, hz⟩ : ∃ z, betweenR (betO xs) x = z := ⟨_, rfl⟩
  rw [hz] at HBt
  rw [hz, hy]
  have H := Lib.hid h
  have hlt := h.lt
  obtain ⟨xo, hxo⟩ : ∃ o, x.1.opens = o := ⟨_, rfl⟩
  have HXO := Lib.hid hxo
  rw [hxo]
  clear h hx hy hz hxo
  have hk' : ((x.1.kind : Int) == 1) = true ∨ (((x.1.kind : Int) == 1) = false ∧ ((x.1.kind : Int) == 2) = true) := by
    rcases hk with hk | hk
    · left; rw [hk]; rfl
    · right; rw [hk]; exact ⟨rfl, rfl⟩
  clear hk
  go_enter Tryz.func119, Tryz.ntmps119
  (go_wp2_with fail; go_fit (HN.out); rintro e w2 ⟨rfl, hb2⟩)
  obtain ⟨w3, hw3, hb3, hz3, hx3⟩ := box_new w2 #[.int .i64 (x.1.kind : Int), .string ⟨x.1.text.toArray⟩, .int .i64 (x.1.n : Int), .bool x.1.opens, .int .i64 (x.2 : Int)] 125
  obtain ⟨d0, d1, d2, d3, d4, df⟩ := hx3.five
  have HX := Lib.hid hx3
  have HB3 := Lib.hid (Ext.trans' hb2 hb3)
  obtain ⟨vo, _, _, p0, _, _, _, _, po, _⟩ := (H.out.later HB3.out).parts
  have PO := Lib.hid po.bare
  clear hb2 hb3 HN hx3 po d2 d4 df
  rw [HXO.out] at d3
  have hsz2 := HB3.out.size
  have hn1 : rb ≠ w3.heap.size := (World.new_ne w3 _ p0).symm
  have hn2 : w2.heap.size ≠ w3.heap.size := (World.new_ne w3 _ d1).symm
  clear hz3 hsz2
  rcases hk' with hk1 | ⟨hk1, hk2⟩
  all_goals
    go_wp2_with fail
    (try rw [hw3])
    clear hw3
    go_wp2_with fail
    refine wp_region_held_drew (S := fun w' => (w'.cell? ⟨rb, 0, none⟩ = some vo ∧ w'.cell? ⟨w2.heap.size, 1, none⟩ = some (.string ⟨x.1.text.toArray⟩)) ∧ Below w3.heap.size w3 w') (by kernel_rfl) ⟨⟨p0, d1⟩, (Below.refl _ _).drew⟩ (fun hHeld => ?_)
    first | (refine held_t (i := 0) hHeld ?_; apply Exists.intro; refine ⟨fun wq hq => ?_, ?_⟩; (focus ((try dsimp only at hq); go_simp; (first | done | with_reducible rfl | fail)))) | refine held_s (i := 0) hHeld ?_ | fail
    first | (refine held_t (i := 1) hHeld ?_; apply Exists.intro; refine ⟨fun wq hq => ?_, ?_⟩; (focus ((try dsimp only at hq); go_simp; (first | done | with_reducible rfl | fail)))) | refine held_s (i := 1) hHeld ?_ | fail
    first | (refine held_t (i := 2) hHeld ?_; apply Exists.intro; refine ⟨fun wq hq => ?_, ?_⟩; (focus ((try dsimp only at hq); go_simp; (first | done | with_reducible rfl | fail)))) | refine held_s (i := 2) hHeld ?_ | fail
    first | (refine held_t (i := 3) hHeld ?_; apply Exists.intro; refine ⟨fun wq hq => ?_, ?_⟩; (focus ((try dsimp only at hq); go_simp; (first | done | with_reducible rfl | fail)))) | refine held_s (i := 3) hHeld ?_ | fail
    first | (refine held_t (i := 4) hHeld ?_; apply Exists.intro; refine ⟨fun wq hq => ?_, ?_⟩; (focus ((try dsimp only at hq); go_simp; (first | done | with_reducible rfl | fail)))) | refine held_s (i := 4) hHeld ?_ | fail
    first | (refine held_t (i := 5) hHeld ?_; apply Exists.intro; refine ⟨fun wq hq => ?_, ?_⟩; (focus ((try dsimp only at hq); go_simp; (first | done | with_reducible rfl | fail)))) | refine held_s (i := 5) hHeld ?_ | fail
    try simp only [Act.put, List.setIfInBounds_toArray, List.set_cons_zero, List.set_cons_succ]
    refine wpAnyH_ready (rs := [6, 10]) (by kernel_rfl) (by simp) ?_
    refine AllReadyH.cons (by simp only [List.getElem?_toArray, List.getElem?_cons_zero, List.getElem?_cons_succ]; rfl) (fun K hK => ?_) (AllReadyH.cons (by simp only [List.getElem?_toArray, List.getElem?_cons_zero, List.getElem?_cons_succ]; rfl) (fun K hK => ?_) AllReadyH.nil)
    · go_simp
      (go_at_call 118; refine (HP.out _ (Ext.trans' HB3.out hHeld.2) _ (PO.out.ext hHeld.2)).mono ?_; rintro e w4 ⟨rfl, hb4⟩)
      refine hK.out _ _ (⟨⟨cell_later hb4 hHeld.1.1, cell_later hb4 hHeld.1.2⟩, Ext.trans' hHeld.2 hb4⟩) (fun hHeld => ?_)
      clear hK K
      try simp only [Act.put, List.setIfInBounds_toArray, List.set_cons_zero, List.set_cons_succ]
      have hS4 := hHeld
      first | (refine held_t (i := 7) hHeld ?_; apply Exists.intro; refine ⟨fun wq hq => ?_, ?_⟩; (focus ((try dsimp only at hq); go_simp; (first | done | with_reducible rfl | fail)))) | refine held_s (i := 7) hHeld ?_ | fail
      first | (refine held_t (i := 8) hHeld ?_; apply Exists.intro; refine ⟨fun wq hq => ?_, ?_⟩; (focus ((try dsimp only at hq); go_simp; (first | done | with_reducible rfl | fail)))) | refine held_s (i := 8) hHeld ?_ | fail
      first | (refine held_t (i := 9) hHeld ?_; apply Exists.intro; refine ⟨fun wq hq => ?_, ?_⟩; (focus ((try dsimp only at hq); go_simp; (first | done | with_reducible rfl | fail)))) | refine held_s (i := 9) hHeld ?_ | fail
      try simp only [Act.put, List.setIfInBounds_toArray, List.set_cons_zero, List.set_cons_succ]
      refine held_c 10 fun K hK => ?_
      go_simp
      skip
      refine hK.out _ _ (⟨⟨cell_later (bel1' _ _) hHeld.1.1, cell_later (bel1' _ _) hHeld.1.2⟩, Ext.trans' hHeld.2 (bel1' _ _)⟩) (fun hHeld => ?_)
      clear hK K
      try simp only [Act.put, List.setIfInBounds_toArray, List.set_cons_zero, List.set_cons_succ]
      refine held_c 11 fun K hK => ?_
      go_simp
      skip
      refine hK.out _ _ (⟨⟨cell_later (bel1' _ _) hS4.1.1, cell_later (bel1' _ _) hS4.1.2⟩, Ext.trans' hS4.2 (bel1' _ _)⟩) (fun hHeld => ?_)
      clear hK K
      try simp only [Act.put, List.setIfInBounds_toArray, List.set_cons_zero, List.set_cons_succ]
      first | (refine held_t (i := 12) hHeld ?_; apply Exists.intro; refine ⟨fun wq hq => ?_, ?_⟩; (focus ((try dsimp only at hq); go_simp; (first | done | with_reducible rfl | fail)))) | refine held_s (i := 12) hHeld ?_ | fail
      try simp only [Act.put, List.setIfInBounds_toArray, List.set_cons_zero, List.set_cons_succ]
      refine wpAnyH_done (by kernel_rfl) ?_ _
      generalize hw5 : World.alloc w4 (.cells #[.string yn, .string yk, .int .i64 yl] 93) = w5 at *
      clear hw5
      have HB5 := Lib.hid (Ext.trans' HB3.out hHeld.2)
      have d3 := cell_later hHeld.2 d3
      clear hHeld hS4 hb4 p0 d0 d1 hn1 hn2
      (go_wp2_with fail; go_fit (HBt.out _ HB5.out); rintro e w6 ⟨rfl, hb6⟩)
      obtain ⟨w7, hw7, hb7, _, _⟩ := box_new w6 #[.string zn, .string zk, .int .i64 zl] 93
      have d3 := cell_later hb7 (cell_later hb6 d3)
      have HB7 := Lib.hid (Ext.trans' (Ext.trans' HB5.out hb6) hb7)
      clear hb6 hb7
      go_wp2_with fail
      (try rw [hw7])
      clear hw7
      go_wp2
      all_goals (go_ret; exact ⟨ret_bool (by simp [*]), HB7.out⟩)
    · go_simp
      skip
      refine hK.out _ _ (⟨⟨cell_later (bel1' _ _) hHeld.1.1, cell_later (bel1' _ _) hHeld.1.2⟩, Ext.trans' hHeld.2 (bel1' _ _)⟩) (fun hHeld => ?_)
      clear hK K
      try simp only [Act.put, List.setIfInBounds_toArray, List.set_cons_zero, List.set_cons_succ]
      refine held_c 6 fun K hK => ?_
      go_simp
      (go_at_call 118; refine (HP.out _ (Ext.trans' HB3.out hHeld.2) _ (PO.out.ext hHeld.2)).mono ?_; rintro e w4 ⟨rfl, hb4⟩; obtain ⟨e0, e1, e2, ef⟩ : w4.cell? ⟨w3.heap.size, 0, none⟩ = some (.string ⟨#[]⟩) ∧ w4.cell? ⟨w3.heap.size, 1, none⟩ = some (.string ⟨#[]⟩) ∧ w4.cell? ⟨w3.heap.size, 2, none⟩ = some (.int .i64 0) ∧ ∀ j, w4.frozen? ⟨w3.heap.size, j, none⟩ = false := box_three w3.drew _ _ _ _ hb4)
      refine hK.out _ _ (⟨⟨cell_later hb4 hHeld.1.1, cell_later hb4 hHeld.1.2⟩, Ext.trans' hHeld.2 hb4⟩) (fun hHeld => ?_)
      clear hK K
      try simp only [Act.put, List.setIfInBounds_toArray, List.set_cons_zero, List.set_cons_succ]
      first | (refine held_t (i := 7) hHeld ?_; apply Exists.intro; refine ⟨fun wq hq => ?_, ?_⟩; (focus ((try dsimp only at hq); go_simp; (first | done | with_reducible rfl | fail)))) | refine held_s (i := 7) hHeld ?_ | fail
      first | (refine held_t (i := 8) hHeld ?_; apply Exists.intro; refine ⟨fun wq hq => ?_, ?_⟩; (focus ((try dsimp only at hq); go_simp; (first | done | with_reducible rfl | fail)))) | refine held_s (i := 8) hHeld ?_ | fail
      first | (refine held_t (i := 9) hHeld ?_; apply Exists.intro; refine ⟨fun wq hq => ?_, ?_⟩; (focus ((try dsimp only at hq); go_simp; (first | done | with_reducible rfl | fail)))) | refine held_s (i := 9) hHeld ?_ | fail
      try simp only [Act.put, List.setIfInBounds_toArray, List.set_cons_zero, List.set_cons_succ]
      refine held_c 11 fun K hK => ?_
      go_simp
      skip
      refine hK.out _ _ (⟨⟨far3 hHeld.1.1 hn1 _ _ _, far3 hHeld.1.2 hn2 _ _ _⟩, Below.set3 hHeld.2 (Nat.le_refl _) _ _ _⟩) (fun hHeld => ?_)
      clear hK K
      try simp only [Act.put, List.setIfInBounds_toArray, List.set_cons_zero, List.set_cons_succ]
      first | (refine held_t (i := 12) hHeld ?_; apply Exists.intro; refine ⟨fun wq hq => ?_, ?_⟩; (focus ((try dsimp only at hq); go_simp; (first | done | with_reducible rfl | fail)))) | refine held_s (i := 12) hHeld ?_ | fail
      try simp only [Act.put, List.setIfInBounds_toArray, List.set_cons_zero, List.set_cons_succ]
      refine wpAnyH_done (by kernel_rfl) ?_ _
      generalize hw5 : World.setCell _ ⟨w3.heap.size, 2, none⟩ _ = w5 at *
      clear hw5
      have HB5 := Lib.hid (Ext.trans' HB3.out hHeld.2)
      have d3 := cell_later hHeld.2 d3
      clear hHeld hb4 p0 d0 d1 hn1 hn2 e0 e1 e2 ef
      (go_wp2_with fail; go_fit (HBt.out _ HB5.out); rintro e w6 ⟨rfl, hb6⟩)
      obtain ⟨w7, hw7, hb7, _, _⟩ := box_new w6 #[.string zn, .string zk, .int .i64 zl] 93
      have d3 := cell_later hb7 (cell_later hb6 d3)
      have HB7 := Lib.hid (Ext.trans' (Ext.trans' HB5.out hb6) hb7)
      clear hb6 hb7
      go_wp2_with fail
      (try rw [hw7])
      clear hw7
      go_wp2
      all_goals (go_ret; exact ⟨ret_bool (by simp [*]), HB7.out⟩)
theorem begins_rest {D M : Nat → Bool} {w : World} {rb : Nat} {xs : List O} {s : RS} (h : St D M w rb xs s) (x : TokP) (hx : headR s = x) (h1 : ¬ x.1.kind = 1) (h2 : ¬ x.1.kind = 2) :
    Calls Tryz.prog 119 #[.pointer (some ⟨rb, 0, none⟩)] w fun e w' => e = .returned (.bool (if x.1.kind = 3 ∨ x.1.kind = 4 then true else if x.1.kind = 5 then x.1.text == [40] || (x.1.text == [91] || x.1.text == [123]) else false)) ∧ Below w.heap.size w w' := by
  have HN := Lib.hid (next_at h)
  rw [hx] at HN
  obtain ⟨m, hm⟩ : ∃ m, (if x.1.kind = 3 ∨ x.1.kind = 4 then true else if x.1.kind = 5 then x.1.text == [40] || (x.1.text == [91] || x.1.text == [123]) else false) = m := ⟨_, rfl⟩
  rw [hm]
  have HM := Lib.hid hm
  clear h hx hm
  have k1 : ((x.1.kind : Int) == 1) = false := beq_false_of_ne (by omega)
  have k2 : ((x.1.kind : Int) == 2) = false := beq_false_of_ne (by omega)
  clear h1 h2
  go_enter Tryz.func119, Tryz.ntmps119
  (go_wp2_with fail; go_fit (HN.out); rintro e w2 ⟨rfl, hb2⟩)
  obtain ⟨w3, hw3, hb3, hz3, hx3⟩ := box_new w2 #[.int .i64 (x.1.kind : Int), .string ⟨x.1.text.toArray⟩, .int .i64 (x.1.n : Int), .bool x.1.opens, .int .i64 (x.2 : Int)] 125
  obtain ⟨d0, d1, d2, d3, d4, df⟩ := hx3.five
  have HB3 := Lib.hid (Ext.trans' hb2 hb3)
  clear hb2 hb3 HN hx3
  by_cases h3 : x.1.kind = 3
  · have hE : Hid (m = true) := Lib.hid (by rw [← HM.out, if_pos (Or.inl h3)])
    have k3 : ((x.1.kind : Int) == 3) = true := by rw [h3]; rfl
    clear h3
    go_wp2_with fail
    (try rw [hw3])
    clear hw3
    go_wp2
    go_ret
    exact ⟨ret_bool hE.out.symm, HB3.out⟩
  have k3 : ((x.1.kind : Int) == 3) = false := beq_false_of_ne (by omega)
  by_cases h4 : x.1.kind = 4
  · have hE : Hid (m = true) := Lib.hid (by rw [← HM.out, if_pos (Or.inr h4)])
    have k4 : ((x.1.kind : Int) == 4) = true := by rw [h4]; rfl
    clear h3 h4
    go_wp2_with fail
    (try rw [hw3])
    clear hw3
    go_wp2
    go_ret
    exact ⟨ret_bool hE.out.symm, HB3.out⟩
  have k4 : ((x.1.kind : Int) == 4) = false := beq_false_of_ne (by omega)
  have hm := HM.out
  rw [if_neg (by rintro (h | h) <;> contradiction)] at hm
  have HM := Lib.hid hm
  clear hm h3 h4
  by_cases h5 : x.1.kind = 5
  · have k5 : ((x.1.kind : Int) == 5) = true := by rw [h5]; rfl
    have hE : Hid ((x.1.text == [40] || (x.1.text == [91] || x.1.text == [123])) = m) := Lib.hid (by rw [← HM.out, if_pos h5])
    clear h5 HM
    cases t1 : (x.1.text == [40])
    · cases t2 : (x.1.text == [91])
      · go_wp2_with fail
        (try rw [hw3])
        clear hw3
        go_wp2
        go_ret
        exact ⟨ret_bool (by rw [← hE.out, t1, t2]; simp), HB3.out⟩
      · go_wp2_with fail
        (try rw [hw3])
        clear hw3
        go_wp2
        go_ret
        exact ⟨ret_bool (by rw [← hE.out, t1, t2]; simp), HB3.out⟩
    · go_wp2_with fail
      (try rw [hw3])
      clear hw3
      go_wp2
      go_ret
      exact ⟨ret_bool (by rw [← hE.out, t1]; simp), HB3.out⟩
  · have hE : Hid (m = false) := Lib.hid (by rw [← HM.out, if_neg h5])
    have k5 : ((x.1.kind : Int) == 5) = false := beq_false_of_ne (by omega)
    clear h5
    go_wp2_with fail
    (try rw [hw3])
    clear hw3
    go_wp2
    go_ret
    exact ⟨ret_bool hE.out.symm, HB3.out⟩
theorem begins_at {D M : Nat → Bool} {w : World} {rb : Nat} {xs : List O} {s : RS} (h : St D M w rb xs s) :
    Calls Tryz.prog 119 #[.pointer (some ⟨rb, 0, none⟩)] w fun e w' => e = .returned (.bool (beginsR (preO xs) (betO xs) (headR s))) ∧ Below w.heap.size w w' := by
  unfold beginsR
  by_cases hk : (headR s).1.kind = 1 ∨ (headR s).1.kind = 2
  · rw [if_pos hk]
    exact begins_name h _ rfl hk
  · rw [if_neg hk]
    exact begins_rest h _ rfl (fun e => hk (Or.inl e)) (fun e => hk (Or.inr e))
end Go.Proofs.YtaojalicnnnkmaaGreatDoor
