import Derived.Deep.RegionHeld3
import Derived.Test.YtobdhcaoeholhaaGreatDoorHbyab
import Derived.Test.YtobdhcaoeholhaaGreatDoorHbyad
import Derived.Test.YtobdhcaoeholhaaGreatDoorHbyag
import Derived.Test.YtobdhcaoeholhaaGreatDoorHbyah
import Derived.Laws.StructEq
import Derived.Laws.ResultCell
import Derived.LoopTactic
import Derived.Test.YtobdhcaoeholhaaGreatDoorHbyaa
import Derived.Test.YtobdhcaoeholhaaGreatDoorRows
import Derived.Lib.SmallJoins
import Derived.Lib.LaidTab
import Derived.Lib.ItoaMem
set_option linter.unusedVariables false
set_option linter.unusedSimpArgs false
/- A region that draws its order, walked operation by operation while a condition holds. Nothing here speaks of one program. -/
namespace Go
section
variable {P : Program} {md : Region.Mode} {ops : Array Oper} {Q : Exit → Act → World → Prop} {S : World → Prop}
theorem held_t {i : Nat} {oi : Oper} {fuel : Nat} {listed : Array Bool} {a : Act} {w : World} (hS : S w)
    (h : ∃ v, (∀ w, S w → (execOp a.eval oi).run P w = .ok (.value v) w) ∧ wpAnyH P md ops Q S fuel (listed.setIfInBounds i true) (a.put oi.dst v) w)
    (hi : ops[i]? = some oi := by simp only [List.getElem?_toArray, List.getElem?_cons_zero, List.getElem?_cons_succ]; rfl)
    (hs : Region.noSelect ops = true := by kernel_rfl) (hf : Region.free md ops listed i = true := by kernel_rfl) (hr : (Region.ready md ops listed).contains i = true := by kernel_rfl) (hw : Region.wanted oi (yielded ops a.tmps) = true := by rfl)
    (hQ : ∀ v c a w, Q (.panic c) (a.put oi.dst v) w → Q (.panic c) a w := by exact fun _ _ _ _ h => h) : wpAnyH P md ops Q S (fuel + 1) listed a w := by
  obtain ⟨v, h1, h2⟩ := h
  exact wpAnyH_take hi hs hf hr (hQ v) (Or.inl ⟨hw, h1⟩) hS h2
theorem held_s {i : Nat} {oi : Oper} {fuel : Nat} {listed : Array Bool} {a : Act} {w : World} (hS : S w) (h : wpAnyH P md ops Q S fuel (listed.setIfInBounds i true) (a.put oi.dst undef) w)
    (hi : ops[i]? = some oi := by simp only [List.getElem?_toArray, List.getElem?_cons_zero, List.getElem?_cons_succ]; rfl)
    (hs : Region.noSelect ops = true := by kernel_rfl) (hf : Region.free md ops listed i = true := by kernel_rfl) (hr : (Region.ready md ops listed).contains i = true := by kernel_rfl) (hw : Region.wanted oi (yielded ops a.tmps) = false := by rfl)
    (hQ : ∀ c a w, Q (.panic c) (a.put oi.dst undef) w → Q (.panic c) a w := by exact fun _ _ _ h => h) : wpAnyH P md ops Q S (fuel + 1) listed a w :=
  wpAnyH_take hi hs hf hr hQ (Or.inr ⟨hw, rfl⟩) hS h
theorem held_c (i : Nat) {o : Oper} {fuel : Nat} {listed : Array Bool} {a : Act} {w : World}
    (h : ∀ K' : Act → World → Prop, Shut (∀ a w, S w → (S w → wpAnyH P md ops Q S fuel (listed.setIfInBounds i true) a w) → K' a w) → if Region.wanted o (yielded ops a.tmps) = true then Oper.wp P o a w K' Q else K' (a.put o.dst undef) w)
    (hr : Region.ready md ops listed = [i] := by kernel_rfl) (hi : ops[i]? = some o := by simp only [List.getElem?_toArray, List.getElem?_cons_zero, List.getElem?_cons_succ]; rfl) : wpAnyH P md ops Q S (fuel + 1) listed a w :=
  wpAnyH_ready hr (by simp) (AllReadyH.cons hi h AllReadyH.nil)
end
end Go
/- The project's reader in memory: its operators, what is not read yet, its variables. -/
namespace Go.Proofs.YtobdhcaoeholhaaGreatDoor
open Go.RowKit
set_option linter.unusedVariables false

abbrev tkVal (q : TokP) : Value := .agg #[.int .i64 (q.1.kind : Int), .string ⟨q.1.text.toArray⟩, .int .i64 (q.1.n : Int), .bool q.1.opens, .int .i64 (q.2 : Int)]
def nmCells (p : NmP) : List Value := [.string ⟨p.1.toArray⟩, .int .i64 (p.2 : Int)]
theorem nmCells_len (p : NmP) : (nmCells p).length = 2 := rfl
def Nms (w : World) (v : Value) (l : List NmP) : Prop := Elems 2 nmCells w v l
abbrev preO (xs : List O) (n : List UInt8) : O × Bool := oneB xs n 1
abbrev betO (xs : List O) (n : List UInt8) : O × Bool := oneB xs n 2
abbrev TERMX (xs : List O) := TERM (preO xs) (betO xs)
/-- A token that a text may have. -/
def tokOk (q : TokP) : Prop := q.1.n ≤ 9223372036854775807 ∧ q.1.text.length ≤ 5000 ∧ q.2 ≤ 4096
/-- Nothing runs over. -/
def Nice (s : RS) : Prop := s.next + s.rest.length ≤ 2000 ∧ s.names.length ≤ s.next ∧ (∀ q ∈ s.rest, tokOk q) ∧ ∀ p ∈ s.names, p.2 < s.next
theorem Nice.drop {s : RS} (h : Nice s) : Nice (dropR s) := by
  obtain ⟨h1, h2, h3, h4⟩ := h
  have := dropS_le s
  exact ⟨by show s.next + (dropR s).rest.length ≤ 2000; omega, h2, fun q hq => h3 q (List.mem_of_mem_tail hq), h4⟩
theorem Nice.head {s : RS} (h : Nice s) : tokOk (headR s) := by
  unfold headR
  cases hr : s.rest with
  | nil => exact ⟨by decide, by decide, by decide⟩
  | cons a r => exact h.2.2.1 a (by rw [hr]; exact List.mem_cons_self)
theorem Nice.next {s : RS} (h : Nice (dropR s)) (hne : s.rest ≠ []) (hs : Nice s) : Nice { dropR s with next := (dropR s).next + 1 } := by
  obtain ⟨h1, h2, h3, h4⟩ := h
  have hd := dropS_lt hne
  have h0 := hs.1
  have en : (dropR s).next = s.next := rfl
  refine ⟨?_, ?_, h3, fun p hp => ?_⟩
  · show (dropR s).next + 1 + (dropR s).rest.length ≤ 2000
    omega
  · show (dropR s).names.length ≤ (dropR s).next + 1
    omega
  · have := h4 p hp
    show p.2 < (dropR s).next + 1
    omega
theorem Nice.var {s : RS} (name : List UInt8) (h : Nice (dropR s)) (hne : s.rest ≠ []) (hs : Nice s) : Nice (varR name (dropR s)).2 := by
  obtain ⟨g1, g2, g3, g4⟩ := Nice.next h hne hs
  have h2 := h.2.1
  unfold varR
  split
  · exact h
  · refine ⟨g1, ?_, g3, fun p hp => ?_⟩
    · simp only
      split
      · omega
      · rw [List.length_append, List.length_singleton]; omega
    · simp only at hp
      split at hp
      · exact g4 p hp
      · rcases List.mem_append.1 hp with hp | hp
        · exact g4 p hp
        · simp at hp
          subst hp
          show (dropR s).next < (dropR s).next + 1
          omega

theorem Elems.stay {α : Type} {S : Nat} {cells : α → List Value} {w w' : World} {v : Value} {xs : List α} (h : Elems S cells w v xs) (hb : Stays w w') : Elems S cells w' v xs := by
  obtain ⟨a, cap, h1, h2, h3, h6⟩ := h
  refine ⟨a, cap, h1, h2, h3, ?_⟩
  rcases h6 with h6 | ⟨b, off, e1, e2, e3⟩
  · exact Or.inl h6
  · exact Or.inr ⟨b, off, e1, Nat.lt_of_lt_of_le e2 hb.1, fun i x hx j u hu => hb.2 _ _ (e3 i x hx j u hu)⟩
/-- The reader lies there, in block rb. D: blocks that are not looked at for anything else; M, some of them: blocks that turn. -/
structure St (D M : Nat → Bool) (w : World) (rb : Nat) (xs : List O) (s : RS) : Prop where
  mb : M rb = true
  md : ∀ k, M k = true → D k = true
  old : Old D w
  co : ∃ vo, w.cell? ⟨rb, 0, none⟩ = some vo ∧ Ops (hide D w) vo xs
  cl : ∃ vl, w.cell? ⟨rb, 1, none⟩ = some vl ∧ Toks (hide D w) vl s.rest
  c2 : w.cell? ⟨rb, 2, none⟩ = some (.int .i64 (s.next : Int))
  c3 : ∃ vn, w.cell? ⟨rb, 3, none⟩ = some vn ∧ w.ownsRow (rb + 1) 54 2 vn s.names.length (s.names.flatMap nmCells) ∧ ∀ k, vn.ownBlock = some k → M k = true
  fz : ∀ j, w.frozen? ⟨rb, j, none⟩ = false
  nice : Nice s
theorem St.lt {D M : Nat → Bool} {w : World} {rb : Nat} {xs : List O} {s : RS} (h : St D M w rb xs s) : rb < w.heap.size := World.block_lt_of_cell? _ _ h.c2
/-- Of the old blocks only those of M have turned; of them the same are not looked at, the same turn. -/
structure Turn (D M D' M' : Nat → Bool) (w w' : World) : Prop where
  size : w.heap.size ≤ w'.heap.size
  dd : ∀ k, k < w.heap.size → D' k = D k
  mm : ∀ k, k < w.heap.size → M' k = M k
  kept : ∀ k, k < w.heap.size → M k = false → w'.heap[k]? = w.heap[k]?
  ot : Below 0 w w'
theorem Turn.refl (D M : Nat → Bool) (w : World) : Turn D M D M w w := ⟨Nat.le_refl _, fun _ _ => rfl, fun _ _ => rfl, fun _ _ _ => rfl, Below.refl _ _⟩
theorem Turn.trans {D M D' M' D2 M2 : Nat → Bool} {a b c : World} (h : Turn D M D' M' a b) (g : Turn D' M' D2 M2 b c) : Turn D M D2 M2 a c :=
  ⟨Nat.le_trans h.size g.size, fun k hk => (g.dd k (Nat.lt_of_lt_of_le hk h.size)).trans (h.dd k hk), fun k hk => (g.mm k (Nat.lt_of_lt_of_le hk h.size)).trans (h.mm k hk),
    fun k hk hm => (g.kept k (Nat.lt_of_lt_of_le hk h.size) ((h.mm k hk).trans hm)).trans (h.kept k hk hm), h.ot.trans g.ot⟩
theorem Turn.below {D M : Nat → Bool} {w w' : World} (h : Below w.heap.size w w') : Turn D M D M w w' := ⟨h.size, fun _ _ => rfl, fun _ _ => rfl, fun k hk _ => h.block k hk, h.mono (Nat.zero_le _)⟩
theorem Turn.stays {D M D' M' : Nat → Bool} {w w' : World} (h : Turn D M D' M' w w') (md : ∀ k, M k = true → D k = true) : Stays (hide D w) (hide D' w') :=
  Stays.hide h.size fun k hk hd => ⟨(h.dd k hk).trans hd, h.kept k hk (by cases hm : M k with | false => rfl | true => rw [md k hm] at hd; cases hd)⟩
theorem Turn.cell {D M D' M' : Nat → Bool} {w w' : World} (h : Turn D M D' M' w w') {b j : Nat} {v : Value} (hm : M b = false) (hc : w.cell? ⟨b, j, none⟩ = some v) : w'.cell? ⟨b, j, none⟩ = some v := by
  rw [World.cell?_of_block (h.kept b (World.block_lt_of_cell? _ _ hc) hm)]; exact hc
theorem Turn.froz {D M D' M' : Nat → Bool} {w w' : World} (h : Turn D M D' M' w w') {b j : Nat} (hb : b < w.heap.size) (hm : M b = false) (hc : w.frozen? ⟨b, j, none⟩ = false) : w'.frozen? ⟨b, j, none⟩ = false := by
  rw [World.frozen?_of_block (h.kept b hb hm)]; exact hc
/-- As many blocks as lie below n and don't turn are as they were. -/
theorem Turn.bel {D M D' M' : Nat → Bool} {w w' : World} (h : Turn D M D' M' w w') {n : Nat} (hn : n ≤ w.heap.size) (hm : ∀ k, k < n → M k = false) : Below n w w' :=
  ⟨h.ot.os, h.ot.tape, h.ot.output, h.size, fun k hk => h.kept k (Nat.lt_of_lt_of_le hk hn) (hm k hk)⟩
/-- A block of one's own that turns in the end. -/
theorem Turn.set {D M D' M' : Nat → Bool} {w w' : World} (h : Turn D M D' M' w w') (a : Addr) (u : Value) (ha : w.heap.size ≤ a.block ∨ M a.block = true) : Turn D M D' M' w (w'.setCell a u) :=
  ⟨Nat.le_trans h.size (by simp [World.setCell]), h.dd, h.mm, fun k hk hm => (Below.heap_setCell w' a u k (fun e => by
    rcases ha with ha | ha
    · omega
    · rw [e, ha] at hm; cases hm)).trans (h.kept k hk hm), h.ot.setCell (Nat.zero_le _) u⟩
theorem row_at {w w' : World} {B k n : Nat} {e : TypeId} {v : Value} {xs : List Value} (h : w.ownsRow B e k v n xs) (hb : ∀ g, v.ownBlock = some g → w'.heap[g]? = w.heap[g]?) : w'.ownsRow B e k v n xs := by
  obtain ⟨h0, h1⟩ := h
  refine ⟨h0, ?_⟩
  rcases h1 with h1 | ⟨g, cap, cur, rfl, hg, hh, h2⟩
  · exact Or.inl h1
  · exact Or.inr ⟨g, cap, cur, rfl, hg, by rw [hb g rfl]; exact hh, h2⟩
theorem row_in {w : World} {B k n : Nat} {e : TypeId} {v : Value} {xs : List Value} (h : w.ownsRow B e k v n xs) {g : Nat} (hg : v.ownBlock = some g) : B ≤ g ∧ g < w.heap.size := by
  rcases h.2 with ⟨rfl, _⟩ | ⟨g', cap, cur, rfl, h1, h2, _⟩
  · cases hg
  · cases hg
    exact ⟨h1, (Array.getElem?_eq_some_iff.1 h2).1⟩
/-- It lies there still. -/
theorem St.step {D M D' : Nat → Bool} {w w' : World} {rb : Nat} {xs : List O} {s : RS} (h : St D M w rb xs s) (hs : Stays (hide D w) (hide D' w')) (md : ∀ k, M k = true → D' k = true) (ho : Old D' w') (hk : ∀ k, k < w.heap.size → M k = true → w'.heap[k]? = w.heap[k]?) : St D' M w' rb xs s := by
  have hr := hk rb h.lt h.mb
  obtain ⟨vo, o1, o2⟩ := h.co
  obtain ⟨vl, l1, l2⟩ := h.cl
  obtain ⟨vn, n1, n2, n3⟩ := h.c3
  exact { mb := h.mb, md := md, old := ho, co := ⟨vo, by rw [World.cell?_of_block hr]; exact o1, Elems.stay o2 hs⟩, cl := ⟨vl, by rw [World.cell?_of_block hr]; exact l1, Elems.stay l2 hs⟩
          c2 := by rw [World.cell?_of_block hr]; exact h.c2
          c3 := ⟨vn, by rw [World.cell?_of_block hr]; exact n1, row_at n2 (fun g hg => hk g (row_in n2 hg).2 (n3 g hg)), n3⟩
          fz := fun j => by rw [World.frozen?_of_block hr]; exact h.fz j, nice := h.nice }
theorem St.later {D M : Nat → Bool} {w w' : World} {rb : Nat} {xs : List O} {s : RS} (h : St D M w rb xs s) (hb : Below w.heap.size w w') : St D M w' rb xs s :=
  h.step (Stays.below hb fun _ _ h => h) h.md (h.old.mono hb.size) fun k hk _ => hb.block k hk
/-- One more block is not looked at. -/
def plusB (D : Nat → Bool) (b : Nat) : Nat → Bool := fun k => k == b || D k
theorem plusB_self (D : Nat → Bool) (b : Nat) : plusB D b b = true := by simp [plusB]
theorem plusB_of {D : Nat → Bool} {b k : Nat} (h : D k = true) : plusB D b k = true := by simp [plusB, h]
theorem plusB_ne {D : Nat → Bool} {b k : Nat} (h : k ≠ b) : plusB D b k = D k := by simp [plusB, h]
theorem St.box {D M : Nat → Bool} {w w' : World} {rb : Nat} {xs : List O} {s : RS} (h : St D M w rb xs s) (hb : Below w.heap.size w w') {b : Nat} (h1 : w.heap.size ≤ b) (h2 : b < w'.heap.size) : St (plusB D b) M w' rb xs s :=
  h.step (Stays.below hb fun k hk hd => (plusB_ne (by omega)).trans hd) (fun k hm => plusB_of (h.md k hm)) (fun k hk => (plusB_ne (by omega)).trans (h.old k (Nat.le_trans hb.size hk))) fun k hk _ => hb.block k hk
/-- A block that is not looked at, and isn't the reader's, turns. -/
theorem St.put {D M : Nat → Bool} {w : World} {rb : Nat} {xs : List O} {s : RS} (h : St D M w rb xs s) (a : Addr) (u : Value) (hd : D a.block = true) (hm : M a.block = false) : St D M (w.setCell a u) rb xs s :=
  h.step (Stays.set a u hd) h.md (h.old.mono (by simp [World.setCell])) fun k _ hk => Below.heap_setCell w a u k (fun e => by rw [e, hm] at hk; cases hk)
/-- A box of one's own is looked at no more. -/
theorem Turn.box {D M D' M' : Nat → Bool} {w w' : World} {b : Nat} (h : Turn (plusB D b) M D' M' w w') (hb : w.heap.size ≤ b) : Turn D M D' M' w w' :=
  ⟨h.size, fun k hk => (h.dd k hk).trans (plusB_ne (by omega)), h.mm, h.kept, h.ot⟩
theorem Turn.into {D M : Nat → Bool} {w w' : World} (h : Below w.heap.size w w') {b : Nat} (hb : w.heap.size ≤ b) : Turn D M (plusB D b) M w w' :=
  ⟨h.size, fun k hk => plusB_ne (by omega), fun _ _ => rfl, fun k hk _ => h.block k hk, h.mono (Nat.zero_le _)⟩
/-- A box of one's own with these values. -/
structure Box (w : World) (b : Nat) (vs : List Value) : Prop where
  cells : ∀ j u, vs[j]? = some u → w.cell? ⟨b, j, none⟩ = some u
  fz : ∀ j, w.frozen? ⟨b, j, none⟩ = false
  lt : b < w.heap.size
theorem box_new (w : World) (cs : Array Value) (ty : TypeId) : ∃ w1, w.alloc (.cells cs ty) = w1 ∧ Below w.heap.size w w1 ∧ w1.heap.size = w.heap.size + 1 ∧ Box w1 w.heap.size cs.toList := by
  refine ⟨_, rfl, bel1' _ _, by simp, fun j u h => ?_, fun j => by simp, by simp⟩
  have := cell_new w cs ty j u h
  rw [add_plain, Nat.zero_add] at this
  exact this
theorem Box.ext {w w' : World} {b : Nat} {vs : List Value} (h : Box w b vs) (hb : Below w.heap.size w w') : Box w' b vs :=
  ⟨fun j u hu => cell_later hb (h.cells j u hu), fun j => (hb.frozen (p := ⟨b, j, none⟩) h.lt).trans (h.fz j), Nat.lt_of_lt_of_le h.lt hb.size⟩
theorem Box.turn {D M D' M' : Nat → Bool} {w w' : World} {b : Nat} {vs : List Value} (h : Box w b vs) (ht : Turn D M D' M' w w') (hm : M b = false) : Box w' b vs :=
  ⟨fun j u hu => ht.cell hm (h.cells j u hu), fun j => ht.froz h.lt hm (h.fz j), Nat.lt_of_lt_of_le h.lt ht.size⟩
theorem Box.far {w : World} {b c k : Nat} {u : Value} {vs : List Value} (h : Box w b vs) (hne : b ≠ c) : Box (w.setCell ⟨c, k, none⟩ u) b vs :=
  ⟨fun j v hv => by
    rw [World.cell?_setCell_other]
    · exact h.cells j v hv
    · intro e; injection e with e _ _; exact hne e.symm, fun j => by rw [World.frozen?_setCell]; exact h.fz j, by have := h.lt; simpa [World.setCell] using this⟩
theorem Box.set {w : World} {b k : Nat} {u : Value} {vs : List Value} (h : Box w b vs) (hk : k < vs.length) : Box (w.setCell ⟨b, k, none⟩ u) b (vs.set k u) :=
  ⟨fun j v hv => by
    by_cases hj : j = k
    · subst hj
      rw [List.getElem?_set_self hk] at hv
      injection hv with hv
      subst hv
      exact css (h.cells j _ (List.getElem?_eq_getElem hk))
    · rw [List.getElem?_set_ne (by omega)] at hv
      rw [World.cell?_setCell_other]
      · exact h.cells j v hv
      · intro e; injection e with _ e _; exact hj e.symm, fun j => by rw [World.frozen?_setCell]; exact h.fz j, by have := h.lt; simpa [World.setCell] using this⟩
theorem Box.five {w : World} {b : Nat} {v0 v1 v2 v3 v4 : Value} (h : Box w b [v0, v1, v2, v3, v4]) : w.cell? ⟨b, 0, none⟩ = some v0 ∧ w.cell? ⟨b, 1, none⟩ = some v1 ∧ w.cell? ⟨b, 2, none⟩ = some v2 ∧ w.cell? ⟨b, 3, none⟩ = some v3 ∧ w.cell? ⟨b, 4, none⟩ = some v4 ∧ ∀ j, w.frozen? ⟨b, j, none⟩ = false :=
  ⟨h.cells 0 _ rfl, h.cells 1 _ rfl, h.cells 2 _ rfl, h.cells 3 _ rfl, h.cells 4 _ rfl, h.fz⟩
theorem Box.four {w : World} {b : Nat} {v0 v1 v2 v3 : Value} (h : Box w b [v0, v1, v2, v3]) : w.cell? ⟨b, 0, none⟩ = some v0 ∧ w.cell? ⟨b, 1, none⟩ = some v1 ∧ w.cell? ⟨b, 2, none⟩ = some v2 ∧ w.cell? ⟨b, 3, none⟩ = some v3 ∧ ∀ j, w.frozen? ⟨b, j, none⟩ = false :=
  ⟨h.cells 0 _ rfl, h.cells 1 _ rfl, h.cells 2 _ rfl, h.cells 3 _ rfl, h.fz⟩
theorem Box.three {w : World} {b : Nat} {v0 v1 v2 : Value} (h : Box w b [v0, v1, v2]) : w.cell? ⟨b, 0, none⟩ = some v0 ∧ w.cell? ⟨b, 1, none⟩ = some v1 ∧ w.cell? ⟨b, 2, none⟩ = some v2 ∧ ∀ j, w.frozen? ⟨b, j, none⟩ = false :=
  ⟨h.cells 0 _ rfl, h.cells 1 _ rfl, h.cells 2 _ rfl, h.fz⟩
/-- One's own box is looked at again. -/
theorem St.unbox {D M : Nat → Bool} {w : World} {rb b : Nat} {xs : List O} {s : RS} (h : St (plusB D b) M w rb xs s) (md : ∀ k, M k = true → D k = true) (ho : Old D w) : St D M w rb xs s :=
  h.step (Stays.less fun k hk => by
    by_cases e : k = b
    · rw [e, plusB_self] at hk; cases hk
    · rwa [plusB_ne e] at hk) md ho fun _ _ _ => rfl
abbrev set3 (w : World) (b : Nat) (u0 u1 u2 : Value) : World := ((w.setCell ⟨b, 0, none⟩ u0).setCell ⟨b, 1, none⟩ u1).setCell ⟨b, 2, none⟩ u2
abbrev set4 (w : World) (b : Nat) (u0 u1 u2 u3 : Value) : World := (set3 w b u0 u1 u2).setCell ⟨b, 3, none⟩ u3
abbrev set5 (w : World) (b : Nat) (u0 u1 u2 u3 u4 : Value) : World := (set4 w b u0 u1 u2 u3).setCell ⟨b, 4, none⟩ u4
theorem St.put3 {D M : Nat → Bool} {w : World} {rb : Nat} {xs : List O} {s : RS} (h : St D M w rb xs s) {b : Nat} (hd : D b = true) (hm : M b = false) (u0 u1 u2 : Value) : St D M (set3 w b u0 u1 u2) rb xs s :=
  ((h.put ⟨b, 0, none⟩ u0 hd hm).put ⟨b, 1, none⟩ u1 hd hm).put ⟨b, 2, none⟩ u2 hd hm
theorem St.put4 {D M : Nat → Bool} {w : World} {rb : Nat} {xs : List O} {s : RS} (h : St D M w rb xs s) {b : Nat} (hd : D b = true) (hm : M b = false) (u0 u1 u2 u3 : Value) : St D M (set4 w b u0 u1 u2 u3) rb xs s :=
  (h.put3 hd hm u0 u1 u2).put ⟨b, 3, none⟩ u3 hd hm
theorem St.put5 {D M : Nat → Bool} {w : World} {rb : Nat} {xs : List O} {s : RS} (h : St D M w rb xs s) {b : Nat} (hd : D b = true) (hm : M b = false) (u0 u1 u2 u3 u4 : Value) : St D M (set5 w b u0 u1 u2 u3 u4) rb xs s :=
  (h.put4 hd hm u0 u1 u2 u3).put ⟨b, 4, none⟩ u4 hd hm
theorem Turn.set3 {D M D' M' : Nat → Bool} {w w' : World} (h : Turn D M D' M' w w') {b : Nat} (hb : w.heap.size ≤ b ∨ M b = true) (u0 u1 u2 : Value) : Turn D M D' M' w (Go.Proofs.YtobdhcaoeholhaaGreatDoor.set3 w' b u0 u1 u2) :=
  ((h.set ⟨b, 0, none⟩ u0 hb).set ⟨b, 1, none⟩ u1 hb).set ⟨b, 2, none⟩ u2 hb
theorem Turn.set4 {D M D' M' : Nat → Bool} {w w' : World} (h : Turn D M D' M' w w') {b : Nat} (hb : w.heap.size ≤ b ∨ M b = true) (u0 u1 u2 u3 : Value) : Turn D M D' M' w (Go.Proofs.YtobdhcaoeholhaaGreatDoor.set4 w' b u0 u1 u2 u3) :=
  (h.set3 hb u0 u1 u2).set ⟨b, 3, none⟩ u3 hb
theorem Turn.set5 {D M D' M' : Nat → Bool} {w w' : World} (h : Turn D M D' M' w w') {b : Nat} (hb : w.heap.size ≤ b ∨ M b = true) (u0 u1 u2 u3 u4 : Value) : Turn D M D' M' w (Go.Proofs.YtobdhcaoeholhaaGreatDoor.set5 w' b u0 u1 u2 u3 u4) :=
  (h.set4 hb u0 u1 u2 u3).set ⟨b, 4, none⟩ u4 hb
theorem Old.out {D M : Nat → Bool} {w : World} {rb : Nat} {xs : List O} {s : RS} (h : St D M w rb xs s) {k : Nat} (hk : w.heap.size ≤ k) : M k = false := by
  cases hm : M k with
  | false => rfl
  | true => have := h.md k hm; rw [h.old k hk] at this; cases this
/-- Where the reader's parts lie. -/
theorem St.parts {D M : Nat → Bool} {w : World} {rb : Nat} {xs : List O} {s : RS} (h : St D M w rb xs s) : ∃ vo vl vn, w.cell? ⟨rb, 0, none⟩ = some vo ∧ w.cell? ⟨rb, 1, none⟩ = some vl ∧ w.cell? ⟨rb, 2, none⟩ = some (.int .i64 (s.next : Int)) ∧ w.cell? ⟨rb, 3, none⟩ = some vn ∧ (∀ j, w.frozen? ⟨rb, j, none⟩ = false) ∧ Ops (hide D w) vo xs ∧ Toks (hide D w) vl s.rest ∧ w.ownsRow (rb + 1) 54 2 vn s.names.length (s.names.flatMap nmCells) ∧ ∀ k, vn.ownBlock = some k → M k = true := by
  obtain ⟨vo, o1, o2⟩ := h.co
  obtain ⟨vl, l1, l2⟩ := h.cl
  obtain ⟨vn, n1, n2, n3⟩ := h.c3
  exact ⟨vo, vl, vn, o1, l1, h.c2, n1, h.fz, o2, l2, n2, n3⟩
theorem take_rest {w : World} {v : Value} {x : TokP} {r : List TokP} (h : Toks w v (x :: r)) : ∃ b off c, v = .slice (some ⟨b, off, none⟩) (r.length + 1) c ∧ r.length + 1 ≤ c ∧ c ≤ maxLen ∧ b < w.heap.size ∧ Toks w (.slice (some ⟨b, off + 5, none⟩) r.length (c - 1)) r ∧
    w.cell? ⟨b, off, none⟩ = some (.int .i64 (x.1.kind : Int)) ∧ w.cell? ⟨b, off + 1, none⟩ = some (.string ⟨x.1.text.toArray⟩) ∧ w.cell? ⟨b, off + 2, none⟩ = some (.int .i64 (x.1.n : Int)) ∧ w.cell? ⟨b, off + 3, none⟩ = some (.bool x.1.opens) ∧ w.cell? ⟨b, off + 4, none⟩ = some (.int .i64 (x.2 : Int)) := by
  obtain ⟨a, c, e, h1, h2, h3⟩ := h
  rcases h3 with h3 | ⟨b, off, rfl, hb, hc⟩
  · cases h3
  · rw [List.length_cons] at e h1
    refine ⟨b, off, c, e, h1, h2, hb, ⟨_, c - 1, rfl, by omega, by unfold maxLen at *; omega, Or.inr ⟨b, off + 5, rfl, hb, fun i y hy j u hu => ?_⟩⟩, ?_, ?_, ?_, ?_, ?_⟩
    · have := hc (i + 1) y (by simpa using hy) j u hu
      rw [show off + 5 + (i * 5 + j) = off + ((i + 1) * 5 + j) by omega]
      exact this
    · simpa using hc 0 x rfl 0 _ rfl
    · simpa using hc 0 x rfl 1 _ rfl
    · simpa using hc 0 x rfl 2 _ rfl
    · simpa using hc 0 x rfl 3 _ rfl
    · simpa using hc 0 x rfl 4 _ rfl
theorem toks_none {w : World} {v : Value} (h : Toks w v []) : ∃ a c, v = .slice a 0 c ∧ c ≤ maxLen := by
  obtain ⟨a, c, e, h1, h2, _⟩ := h
  exact ⟨a, c, e, h2⟩
end Go.Proofs.YtobdhcaoeholhaaGreatDoor
/- The project's reader: next, take, takes. -/
namespace Go.Proofs.YtobdhcaoeholhaaGreatDoor
open Go.RowKit
set_option linter.unusedVariables false

theorem far_cell {w : World} {b j c k : Nat} {u : Value} (hne : b ≠ c) : (w.setCell ⟨c, k, none⟩ u).cell? ⟨b, j, none⟩ = w.cell? ⟨b, j, none⟩ := by
  rw [World.cell?_setCell_other]
  intro e; injection e with e _ _; exact hne e.symm
theorem near_cell {w : World} {rb j k : Nat} {u : Value} (hk : j ≠ k) : (w.setCell ⟨rb, k, none⟩ u).cell? ⟨rb, j, none⟩ = w.cell? ⟨rb, j, none⟩ := by
  rw [World.cell?_setCell_other]
  intro e; injection e with _ e _; exact hk e.symm
theorem bel5 {w w1 : World} (h : Below w.heap.size w w1) {b : Nat} (hb : w.heap.size ≤ b) (u0 u1 u2 u3 u4 : Value) : Below w.heap.size w (((((w1.setCell ⟨b, 0, none⟩ u0).setCell ⟨b, 1, none⟩ u1).setCell ⟨b, 2, none⟩ u2).setCell ⟨b, 3, none⟩ u3).setCell ⟨b, 4, none⟩ u4) :=
  (((((h).setCell (p := ⟨b, 0, none⟩) hb _).setCell (p := ⟨b, 1, none⟩) hb _).setCell (p := ⟨b, 2, none⟩) hb _).setCell (p := ⟨b, 3, none⟩) hb _).setCell (p := ⟨b, 4, none⟩) hb _
set_option maxHeartbeats 1000000 in
theorem next_at {D M : Nat → Bool} {w : World} {rb : Nat} {xs : List O} {s : RS} (h : St D M w rb xs s) :
    Calls Tryz.prog 111 #[.pointer (some ⟨rb, 0, none⟩)] w fun e w' => e = .returned (tkVal (headR s)) ∧ Below w.heap.size w w' := by
  obtain ⟨w1, hw1, hb1, hz1, hx1⟩ := box_new w #[.int .i64 0, .string ⟨#[]⟩, .int .i64 0, .bool false, .int .i64 0] 52
  obtain ⟨r0, r1, r2, r3, r4, rf⟩ := hx1.five
  obtain ⟨_, vl, _, _, l1, _, _, _, _, l2, _⟩ := (h.later hb1).parts
  have l2 : Toks w1 vl s.rest := Elems.stay l2 (Stays.unhide D w1)
  cases hr : s.rest with
  | nil =>
    rw [hr] at l2
    obtain ⟨a, c, rfl, hc⟩ := toks_none l2
    rw [show headR s = zTok by unfold headR; rw [hr]; rfl]
    clear l2 hr h
    go_enter Tryz.func111, Tryz.ntmps111
    go_wp2_with fail
    (try rw [hw1])
    clear hw1
    go_wp2
    refine bodyPost_ret (v := tkVal zTok) (by rw [results_cell1 rfl]; go_simp; (try simp [zTok])) rfl ⟨rfl, ?_⟩
    exact bel5 hb1 (Nat.le_refl _) _ _ _ _ _
  | cons x r =>
    rw [hr] at l2
    obtain ⟨b, off, c, rfl, h1, h2, hb, _, d0, d1, d2, d3, d4⟩ := take_rest l2
    rw [show headR s = x by unfold headR; rw [hr]; rfl]
    unfold maxLen at h2
    obtain ⟨n, hn⟩ : ∃ n, r.length = n := ⟨_, rfl⟩
    rw [hn] at l1 h1
    clear l2 hr h hn
    have hn0 : ((n : Int) + 1 == 0) = false := beq_false_of_ne (by omega)
    go_enter Tryz.func111, Tryz.ntmps111
    go_wp2_with fail
    (try rw [hw1])
    clear hw1
    go_wp2
    refine bodyPost_ret (v := tkVal x) (by rw [results_cell1 rfl]; go_simp) rfl ⟨rfl, ?_⟩
    exact bel5 hb1 (Nat.le_refl _) _ _ _ _ _
/-- What a call that reads leaves. -/
def TakeSt (D M : Nat → Bool) (w w' : World) (rb : Nat) (xs : List O) (s : RS) : Prop := St D M w' rb xs s ∧ Turn D M D M w w'
theorem St.pass {D M : Nat → Bool} {w : World} {rb : Nat} {xs : List O} {s : RS} {vl : Value} (h : St D M w rb xs s) (hv : Toks (hide D w) vl (dropR s).rest) : St D M (w.setCell ⟨rb, 1, none⟩ vl) rb xs (dropR s) := by
  have hs : Stays (hide D w) (hide D (w.setCell ⟨rb, 1, none⟩ vl)) := Stays.set _ _ (h.md rb h.mb)
  obtain ⟨vo, o1, o2⟩ := h.co
  obtain ⟨vl0, l1, l2⟩ := h.cl
  obtain ⟨vn, n1, n2, n3⟩ := h.c3
  exact { mb := h.mb, md := h.md, old := h.old.mono (by simp [World.setCell])
          co := ⟨vo, by rw [near_cell (by decide)]; exact o1, Elems.stay o2 hs⟩
          cl := ⟨vl, css l1, Elems.stay hv hs⟩
          c2 := by rw [near_cell (by decide)]; exact h.c2
          c3 := ⟨vn, by rw [near_cell (by decide)]; exact n1, row_at n2 (fun g hg => Below.heap_setCell w _ _ g (fun e => by have := (row_in n2 hg).1; simp only at e; omega)), n3⟩
          fz := fun j => by rw [World.frozen?_setCell]; exact h.fz j
          nice := h.nice.drop }
set_option maxHeartbeats 1000000 in
theorem take_at {D M : Nat → Bool} {w : World} {rb : Nat} {xs : List O} {s : RS} (h : St D M w rb xs s) :
    Calls Tryz.prog 73 #[.pointer (some ⟨rb, 0, none⟩)] w fun e w' => e = .returned (tkVal (headR s)) ∧ TakeSt D M w w' rb xs (dropR s) := by
  have HN := Lib.hid (fun wq hq => next_at (h.later (w' := wq) hq))
  obtain ⟨q, hq⟩ : ∃ q, headR s = q := ⟨_, rfl⟩
  rw [hq] at HN ⊢
  obtain ⟨w1, hw1, hb1, hz1, hx1⟩ := box_new w #[.int .i64 0, .string ⟨#[]⟩, .int .i64 0, .bool false, .int .i64 0] 52
  have hlt := h.lt
  have H := Lib.hid h
  have HD : Hid (∀ s', dropR s = s' → _) := Lib.hid (fun s' (e : dropR s = s') => e)
  obtain ⟨s', hs'⟩ : ∃ s', dropR s = s' := ⟨_, rfl⟩
  rw [hs']
  have HS' := Lib.hid hs'
  clear h hq hs' HD
  go_enter Tryz.func73, Tryz.ntmps73
  go_wp2_with fail
  (try rw [hw1])
  clear hw1
  (go_wp2_with fail; go_fit (HN.out _ hb1); rintro e w2 ⟨rfl, hb2⟩)
  obtain ⟨w3, hw3, hb3, hz3, hx3⟩ := box_new w2 #[.int .i64 (q.1.kind : Int), .string ⟨q.1.text.toArray⟩, .int .i64 (q.1.n : Int), .bool q.1.opens, .int .i64 (q.2 : Int)] 52
  obtain ⟨r0, r1, r2, r3, r4, rf⟩ := ((hx1.ext hb2).ext hb3).five
  obtain ⟨d0, d1, d2, d3, d4, df⟩ := hx3.five
  have HB3 := Lib.hid (Ext.trans' (Ext.trans' hb1 hb2) hb3)
  have hsz := hb2.size
  have hne : rb ≠ w.heap.size := by omega
  have hne2 : rb ≠ w2.heap.size := by omega
  have hne3 : w.heap.size ≠ w2.heap.size := by omega
  have HX := Lib.hid ((hx1.ext hb2).ext hb3)
  obtain ⟨_, vl, _, _, l1, _, _, hf, _, l2, _⟩ := (H.out.box HB3.out (Nat.le_refl _) HX.out.lt).parts
  clear hb1 hb2 hb3 HN hx1 hx3
  cases hr : s.rest with
  | nil =>
    have e : s' = s := by rw [← HS'.out]; unfold dropR; rw [hr]; cases s; simp only at hr; subst hr; rfl
    rw [hr] at l2
    obtain ⟨a, c, rfl, hc⟩ := toks_none l2
    have HE := Lib.hid e
    clear l2 hr e
    go_wp2_with fail
    (try rw [hw3])
    clear hw3
    go_wp2
    have hB := bel5 HB3.out (Nat.le_refl w.heap.size) (.int .i64 (q.1.kind : Int)) (.string ⟨q.1.text.toArray⟩) (.int .i64 (q.1.n : Int)) (.bool q.1.opens) (.int .i64 (q.2 : Int))
    refine bodyPost_ret (v := tkVal q) (by rw [results_cell1 rfl]; go_simp) rfl ⟨rfl, ?_⟩
    rw [HE.out]
    exact ⟨H.out.later hB, Turn.below hB⟩
  | cons x r =>
    rw [hr] at l2
    obtain ⟨b, off, c, rfl, h1, h2, hb, ht, _⟩ := take_rest l2
    have HT := Lib.hid ht
    have hrr : (dropR s).rest = r := by unfold dropR; rw [hr]; rfl
    have HR := Lib.hid hrr
    unfold maxLen at h2
    obtain ⟨n, hn⟩ : ∃ n, r.length = n := ⟨_, rfl⟩
    rw [hn] at l1 h1 HT
    have hB : M w.heap.size = false := Old.out H.out (Nat.le_refl _)
    have HF := Lib.hid (fun (vl' : Value) (hv : Toks (hide (plusB D w.heap.size) w3) vl' r) => (((H.out.box HB3.out (Nat.le_refl _) HX.out.lt).pass (vl := vl') (by rw [hrr]; exact hv)).put5 (plusB_self D _) hB (.int .i64 (q.1.kind : Int)) (.string ⟨q.1.text.toArray⟩) (.int .i64 (q.1.n : Int)) (.bool q.1.opens) (.int .i64 (q.2 : Int))).unbox H.out.md)
    have HT2 := Lib.hid (fun (vl' : Value) => ((Turn.below (D := D) (M := M) HB3.out).set ⟨rb, 1, none⟩ vl' (Or.inr H.out.mb)).set5 (b := w.heap.size) (Or.inl (Nat.le_refl _)) (.int .i64 (q.1.kind : Int)) (.string ⟨q.1.text.toArray⟩) (.int .i64 (q.1.n : Int)) (.bool q.1.opens) (.int .i64 (q.2 : Int)))
    have HO := Lib.hid (fun (vl' : Value) => H.out.old.mono (HT2.out vl').size)
    have HLR := Lib.hid hn
    clear l2 hr hn ht hrr HR
    by_cases hc1 : c = 1
    · subst hc1
      obtain rfl : n = 0 := by omega
      have HNil : Hid (Toks (hide (plusB D w.heap.size) w3) (.slice (some ⟨b, off, none⟩) 0 0) r) := Lib.hid (by
        have hr0 : r = [] := List.length_eq_zero_iff.1 HLR.out
        subst hr0
        exact ⟨_, 0, rfl, Nat.zero_le _, Nat.zero_le _, Or.inl rfl⟩)
      go_wp2_with fail
      (try rw [hw3])
      clear hw3
      go_wp2
      refine bodyPost_ret (v := tkVal q) (by rw [results_cell1 rfl]; go_simp) rfl ⟨rfl, ?_⟩
      rw [← HS'.out]
      exact ⟨HF.out _ HNil.out (HO.out _), HT2.out _⟩
    · go_wp2_with fail
      (try rw [hw3])
      clear hw3
      go_wp2
      refine bodyPost_ret (v := tkVal q) (by rw [results_cell1 rfl]; go_simp) rfl ⟨rfl, ?_⟩
      rw [← HS'.out]
      exact ⟨HF.out _ HT.out (HO.out _), HT2.out _⟩
def takesS (t : List UInt8) (s : RS) : RS := if isMark t (headR s) then dropR s else s
theorem takesR_yes {t : List UInt8} {s : RS} (h : isMark t (headR s) = true) : takesR t s = some (takesS t s) := by
  unfold takesR takesS
  rw [if_pos h, if_pos h]
theorem takesR_no {t : List UInt8} {s : RS} (h : isMark t (headR s) = false) : takesR t s = none ∧ takesS t s = s := by
  unfold takesR takesS
  rw [h]
  exact ⟨rfl, rfl⟩
set_option maxHeartbeats 1000000 in
theorem takes_at {D M : Nat → Bool} {w : World} {rb : Nat} {xs : List O} {s : RS} (h : St D M w rb xs s) (t : List UInt8) :
    Calls Tryz.prog 173 #[.pointer (some ⟨rb, 0, none⟩), .string ⟨t.toArray⟩] w fun e w' => e = .returned (.bool (isMark t (headR s))) ∧ TakeSt D M w w' rb xs (takesS t s) := by
  have HN := Lib.hid (next_at h)
  have HTk := Lib.hid (fun wq (hq : Below w.heap.size w wq) => take_at (h.later (w' := wq) hq))
  obtain ⟨q, hq⟩ : ∃ q, headR s = q := ⟨_, rfl⟩
  have HQ := Lib.hid hq
  rw [hq] at HN HTk ⊢
  obtain ⟨sd, hsd⟩ : ∃ sd, takesS t s = sd := ⟨_, rfl⟩
  have HSD := Lib.hid hsd
  have H := Lib.hid h
  obtain ⟨m, hm⟩ : ∃ m, isMark t q = m := ⟨_, rfl⟩
  have HM := Lib.hid hm
  rw [hsd, hm]
  clear h hq hsd hm
  go_enter Tryz.func173, Tryz.ntmps173
  (go_wp2_with fail; go_fit (HN.out); rintro e w2 ⟨rfl, hb2⟩)
  obtain ⟨w3, hw3, hb3, hz3, hx3⟩ := box_new w2 #[.int .i64 (q.1.kind : Int), .string ⟨q.1.text.toArray⟩, .int .i64 (q.1.n : Int), .bool q.1.opens, .int .i64 (q.2 : Int)] 52
  obtain ⟨d0, d1, d2, d3, d4, df⟩ := hx3.five
  have HB3 := Lib.hid (Ext.trans' hb2 hb3)
  clear hb2 hb3 hx3
  by_cases hk : q.1.kind = 5
  · by_cases ht : q.1.text = t
    · have hm : isMark t q = true := by unfold isMark; rw [hk, ht]; simp
      have HE : Hid (sd = dropR s) := Lib.hid (by rw [← HSD.out]; unfold takesS; rw [HQ.out, if_pos hm])
      obtain rfl : m = true := HM.out.symm.trans hm
      have hk' : ((q.1.kind : Int) == 5) = true := by rw [hk]; rfl
      have ht' : (q.1.text == t) = true := by rw [ht]; exact beq_self_eq_true _
      clear hk ht hm
      go_wp2_with fail
      (try rw [hw3])
      clear hw3
      (go_wp2_with fail; go_fit (HTk.out _ HB3.out); rintro e w4 ⟨rfl, h4⟩)
      go_wp2
      go_ret
      rw [HE.out]
      exact ⟨rfl, h4.1, (Turn.below HB3.out).trans h4.2⟩
    · have hm : isMark t q = false := by unfold isMark; rw [hk]; simp [ht]
      have HE : Hid (sd = s) := Lib.hid (by rw [← HSD.out]; unfold takesS; rw [HQ.out, hm]; rfl)
      obtain rfl : m = false := HM.out.symm.trans hm
      have hk' : ((q.1.kind : Int) == 5) = true := by rw [hk]; rfl
      have ht' : (q.1.text == t) = false := beq_false_of_ne ht
      clear hk ht hm
      go_wp2_with fail
      (try rw [hw3])
      clear hw3
      go_wp2
      go_ret
      rw [HE.out]
      exact ⟨rfl, H.out.later HB3.out, Turn.below HB3.out⟩
  · have hm : isMark t q = false := by unfold isMark; simp [hk]
    have HE : Hid (sd = s) := Lib.hid (by rw [← HSD.out]; unfold takesS; rw [HQ.out, hm]; rfl)
    obtain rfl : m = false := HM.out.symm.trans hm
    have hk' : ((q.1.kind : Int) == 5) = false := beq_false_of_ne (by omega)
    clear hk hm
    go_wp2_with fail
    (try rw [hw3])
    clear hw3
    go_wp2
    go_ret
    rw [HE.out]
    exact ⟨rfl, H.out.later HB3.out, Turn.below HB3.out⟩
end Go.Proofs.YtobdhcaoeholhaaGreatDoor
/- Rows of numbers; a term's variables' numbers, one behind the other. -/
namespace Go.Proofs.YtobdhcaoeholhaaGreatDoor
open Go.RowKit
set_option linter.unusedVariables false

/-- A row of numbers of 64 bits. -/
def Nums (w : World) (v : Value) (l : List Int) : Prop := Elems 1 (fun n => [Value.int .i64 n]) w v l
theorem Nums.ext {w w' : World} {v : Value} {l : List Int} (h : Nums w v l) (hb : Below w.heap.size w w') : Nums w' v l := Elems.ext h hb
theorem Nums.nil (w : World) : Nums w (.slice none 0 0) [] := ⟨none, 0, rfl, Nat.le_refl _, Nat.zero_le _, Or.inl rfl⟩
theorem Nums.get {w : World} {a : Option Addr} {m c : Nat} {l : List Int} (h : Nums w (.slice a m c) l) {i : Nat} {x : Int} (hx : l[i]? = some x) : ∃ b off, a = some ⟨b, off, none⟩ ∧ b < w.heap.size ∧ w.cell? ⟨b, off + i, none⟩ = some (.int .i64 x) := by
  obtain ⟨a', c', e, h1, h2, h3⟩ := h
  cases e
  rcases h3 with rfl | ⟨b, off, rfl, hb, hc⟩
  · simp at hx
  · exact ⟨b, off, rfl, hb, by have := hc i x hx 0 _ rfl; simpa using this⟩
theorem Nums.len {w : World} {v : Value} {l : List Int} (h : Nums w v l) : ∃ a c, v = .slice a l.length c ∧ l.length ≤ c ∧ c ≤ maxLen := by
  obtain ⟨a, c, h1, h2, h3, _⟩ := h
  exact ⟨a, c, h1, h2, h3⟩
abbrev numCells (n : Int) : List Value := [Value.int .i64 n]
/-- A row of numbers of the call's own. -/
def RowN (w : World) (base : Nat) (v : Value) (l : List Int) : Prop := w.ownsRow base 2 1 v l.length (l.flatMap numCells)
theorem RowN.nums {w : World} {base : Nat} {v : Value} {l : List Int} (h : RowN w base v l) : Nums w v l := Elems.owned (cells := numCells) (fun _ => rfl) h
theorem RowN.nil (w : World) (base : Nat) : RowN w base (.slice none 0 0) [] := World.ownsRow_nil _ _ _ _
mutual
theorem vars_len : ∀ (t : Tm) (l : List Int), (varsT t l).length ≤ l.length + sizeN t ∧ l.length ≤ (varsT t l).length
  | .mk k n s ts, l => by
    rw [varsT, sizeN]
    by_cases hk : k = 0
    · rw [if_pos hk]
      split
      · omega
      · rw [List.length_append, List.length_singleton]; omega
    · rw [if_neg hk]
      have := varss_len ts l
      omega
theorem varss_len : ∀ (ts : List Tm) (l : List Int), (varsL ts l).length ≤ l.length + sizesN ts ∧ l.length ≤ (varsL ts l).length
  | [], l => by rw [varsL, sizesN]; omega
  | x :: r, l => by
    rw [varsL, sizesN]
    have h1 := vars_len x l
    have h2 := varss_len r (varsT x l)
    omega
end
theorem varss_step {ts : List Tm} {i : Nat} {y : Tm} (h : ts[i]? = some y) (l : List Int) : varsL (ts.take (i + 1)) l = varsT y (varsL (ts.take i) l) := by
  induction ts generalizing i l with
  | nil => simp at h
  | cons x r ih =>
    cases i with
    | zero => simp at h; subst h; simp [varsL]
    | succ i =>
      simp only [List.take_succ_cons, varsL]
      exact ih (by simpa using h) _
theorem infoI64 : (Tryz.prog.info? 2).map (fun i => (i.zero, i.size, i.bytes)) = some (some (.int .i64 0), 1, 8) := by kernel_rfl
end Go.Proofs.YtobdhcaoeholhaaGreatDoor
/- Package lex: Quote. -/
namespace Go.Proofs.YtobdhcaoeholhaaGreatDoor
open Go.RowKit
set_option linter.unusedVariables false

theorem short_is : ∀ c, (match shortB c with | some d => mayQ c && (escQ c == [92, d]) | none => if shownB c then mayQ c && (escQ c == [c]) else !mayQ c) = true := u8_all (g := fun _ => true) (by decide +kernel)
theorem short_yes {c d : UInt8} (h : shortB c = some d) : mayQ c = true ∧ escQ c = [92, d] := by
  have := short_is c
  rw [h] at this
  simp only [Bool.and_eq_true, beq_iff_eq] at this
  exact this
theorem short_plain {c : UInt8} (h : shortB c = none) (hs : shownB c = true) : mayQ c = true ∧ escQ c = [c] := by
  have := short_is c
  rw [h] at this
  simp only [hs, if_true, Bool.and_eq_true, beq_iff_eq] at this
  exact this
theorem short_ill {c : UInt8} (h : shortB c = none) (hs : shownB c = false) : mayQ c = false := by
  have := short_is c
  rw [h] at this
  simp only [hs] at this
  simpa using this
theorem RowB.join {w : World} {base : Nat} {v : Value} {l : List UInt8} {n : Nat} (m : List UInt8) (hn : n = l.length + m.length) (h : w.ownsRow base 5 1 v n (bytesV l ++ bytesV m)) : RowB w base v (l ++ m) := by
  subst hn
  unfold RowB
  rw [List.length_append]
  unfold bytesV at h ⊢
  rw [List.map_append]
  exact h
theorem bytesV_one (m : List UInt8) : ∀ u ∈ bytesV m, u.oneCell' = true := by
  intro u hu
  obtain ⟨c, _, rfl⟩ := List.mem_map.1 hu
  rfl
theorem quote_long {l : List UInt8} (h : 64 < l.length) : quoteB l = [] := by
  unfold quoteB
  rw [if_neg, if_neg]
  · intro e
    simp only [Bool.and_eq_true, decide_eq_true_eq] at e
    omega
  · intro e
    have := plain_short e
    omega
set_option maxRecDepth 100000 in
set_option maxHeartbeats 4000000 in
theorem quote_any (s : ByteArray) (w : World) (he : Err w) (hs : s.size ≤ 140737488351232) : Calls Tryz.prog 39 #[.string s] w fun e w' => e = .returned (.string ⟨(quoteB (bl s)).toArray⟩) ∧ Below w.heap.size w w' := by
  by_cases hbig : 64 < s.size
  · rw [quote_long (show 64 < (bl s).length from hbig)]
    go_enter Tryz.func39, Tryz.ntmps39
    go_wp2
    go_ret
    exact ⟨rfl, Below.refl _ _⟩
  have P := fun w h => plain_any s w h hs
  cases hp : plainB (bl s)
  · rw [hp] at P
    have hQ : quoteB (bl s) = if (bl s).all mayQ then 39 :: ((bl s).flatMap escQ ++ [39]) else [] := by
      unfold quoteB
      rw [if_neg (by rw [hp]; simp)]
      have : decide ((bl s).length ≤ 64) = true := decide_eq_true (show s.size ≤ 64 by omega)
      rw [this, Bool.true_and]
    generalize quoteB (bl s) = Q at hQ
    have HQ := Lib.hid hQ
    clear hp hQ
    obtain ⟨i0, hi0, hz0, hs0, hb0⟩ := info_parts infoU8
    have hini := fun (w1 : World) (h : w.heap.size ≤ w1.heap.size) => World.ownsRow_lit (e := 5) (size := 1) (base := w.heap.size) w1 #[.int .u8 39] 1 h (by unfold maxLen; omega) rfl
    have HINI := Lib.hid hini
    clear hini
    go_enter Tryz.func39, Tryz.ntmps39
    (go_wp2_with fail; go_fit (P _ he); rintro e w1 ⟨rfl, b1⟩)
    have B1 := Lib.hid b1
    clear b1
    go_wp2_with fail
    go_loopw [3, 17] (fun o v wr => ∃ (k : Nat) (ao : Option Addr) (n cv : Nat) (l : List UInt8), k ≤ s.size ∧ v = .int .i64 k ∧ o = .slice ao n cv ∧ n = l.length ∧ n ≤ 2 * k + 1 ∧ Hid (RowB wr w.heap.size o l) ∧ Hid (Below w.heap.size w wr) ∧
        Hid (l = 39 :: ((bl s).take k).flatMap escQ ∧ ((bl s).take k).all mayQ = true)) (fun _ v _ => s.size - (intOf v).toNat)
    case atStart =>
      exact ⟨0, _, 1, 1, [39], Nat.zero_le _, rfl, rfl, rfl, by omega, Lib.hid (HINI.out w1 B1.out.size), Lib.hid (B1.out.alloc B1.out.size _), Lib.hid ⟨rfl, rfl⟩⟩
    case round =>
      obtain ⟨k, ao, n, cv, l, hk, rfl, rfl, hnl, hn2, HR, HB, HL⟩ := hrel
      have HNL := Lib.hid hnl
      clear hnl
      have hwr : w.heap.size ≤ wr.heap.size := HB.out.size
      by_cases hlt : k < s.size
      · have htk : (bl s).take (k + 1) = (bl s).take k ++ [s[k]] := by
          rw [List.take_add_one, List.getElem?_eq_getElem (show k < (bl s).length from hlt)]
          rfl
        have HTK := Lib.hid htk
        clear htk
        cases hsh : shortB s[k] with
        | some d =>
          obtain ⟨hm, hq⟩ := short_yes hsh
          have SH := fun w => short_some s[k] d w hsh
          have HN : Hid (l ++ [92, d] = 39 :: ((bl s).take (k + 1)).flatMap escQ ∧ ((bl s).take (k + 1)).all mayQ = true) := Lib.hid ⟨by
            rw [HTK.out, List.flatMap_append, List.flatMap_singleton, hq, HL.out.1, List.cons_append], by rw [HTK.out, List.all_append, HL.out.2]; simp [hm]⟩
          have HRR : Hid (wr.ownsRow w.heap.size 5 1 (.slice ao n cv) n (bytesV l)) := Lib.hid (by have := HR.out; rw [HNL.out] at this ⊢; exact this)
          clear hsh hm hq HL HTK
          go_wp2_with (first
            | (go_at_call 70; go_fit (SH _); rintro e w' ⟨rfl, rfl⟩)
            | (at_builtin; refine wpList_append_k rfl _ _ 97 rfl w.heap.size 5 i0 (.int .u8 0) 1 1 Tryz.underlying97 hi0 hz0 hs0 (by decide) hb0 rfl (.slice ao n cv) n (bytesV l) rfl (HRR.out.alloc _) _ 2 2 (bytesV [92, d]) rfl rfl (Or.inr ⟨_, rfl, fun j u hu => cell_new _ _ _ j u hu⟩) (bytesV_one _) (by unfold maxLen; omega) (by omega) (by simp; omega) (n + 2) (bytesV l ++ bytesV [92, d]) rfl rfl ?_; intro a4 c4 w4 hown4 hgrow4 hat4))
          go_roundw
          case rel =>
            exact ⟨k + 1, a4, n + 2, c4, l ++ [92, d], by omega, by go_num, rfl, by rw [List.length_append, HNL.out]; rfl, by omega, Lib.hid (RowB.join [92, d] (by rw [HNL.out]; rfl) hown4), Lib.hid ((HB.out.alloc hwr _).grown hgrow4 (by simp; omega) (fun q hq => (HRR.out.lt q hq).1)), HN⟩
          case measure => simp [intOf]; omega
        | none =>
          have SH := fun w => short_none s[k] w hsh
          have SW := fun w => shown_any s[k] w
          cases hsw : shownB s[k]
          · have hm := short_ill hsh hsw
            rw [hsw] at SW
            have HF : Hid ((bl s).all mayQ = false) := Lib.hid (by
              rw [List.all_eq_false]
              exact ⟨(bl s)[k]'hlt, List.getElem_mem _, by show ¬ mayQ s[k] = true; rw [hm]; simp⟩)
            clear hsh hsw hm HL HTK
            go_wp2_with (first | (go_at_call 70; go_fit (SH _); rintro e w' ⟨rfl, rfl⟩) | (go_at_call 71; go_fit (SW _); rintro e w' ⟨rfl, rfl⟩))
            go_ret
            exact ⟨by rw [HQ.out, HF.out]; rfl, HB.out⟩
          · obtain ⟨hm, hq⟩ := short_plain hsh hsw
            rw [hsw] at SW
            have HN : Hid (l ++ [s[k]] = 39 :: ((bl s).take (k + 1)).flatMap escQ ∧ ((bl s).take (k + 1)).all mayQ = true) := Lib.hid ⟨by
              rw [HTK.out, List.flatMap_append, List.flatMap_singleton, hq, HL.out.1, List.cons_append], by rw [HTK.out, List.all_append, HL.out.2]; simp [hm]⟩
            have HRR : Hid (wr.ownsRow w.heap.size 5 1 (.slice ao n cv) n (bytesV l)) := Lib.hid (by have := HR.out; rw [HNL.out] at this ⊢; exact this)
            clear hsh hsw hm hq HL HTK
            go_wp2_with (first
              | (go_at_call 70; go_fit (SH _); rintro e w' ⟨rfl, rfl⟩)
              | (go_at_call 71; go_fit (SW _); rintro e w' ⟨rfl, rfl⟩)
              | (at_builtin; refine wpList_append_k rfl _ _ 97 rfl w.heap.size 5 i0 (.int .u8 0) 1 1 Tryz.underlying97 hi0 hz0 hs0 (by decide) hb0 rfl (.slice ao n cv) n (bytesV l) rfl (HRR.out.alloc _) _ 1 1 (bytesV [s[k]]) rfl rfl (Or.inr ⟨_, rfl, fun j u hu => cell_new _ _ _ j u hu⟩) (bytesV_one _) (by unfold maxLen; omega) (by omega) (by simp; omega) (n + 1) (bytesV l ++ bytesV [s[k]]) rfl rfl ?_; intro a4 c4 w4 hown4 hgrow4 hat4))
            go_roundw
            case rel =>
              exact ⟨k + 1, a4, n + 1, c4, l ++ [s[k]], by omega, by go_num, rfl, by rw [List.length_append, HNL.out]; rfl, by omega, Lib.hid (RowB.join [s[k]] (by rw [HNL.out]; rfl) hown4), Lib.hid ((HB.out.alloc hwr _).grown hgrow4 (by simp; omega) (fun q hq => (HRR.out.lt q hq).1)), HN⟩
            case measure => simp [intOf]; omega
      · have hkn : k = s.size := by omega
        have HF : Hid ((if (bl s).all mayQ then 39 :: ((bl s).flatMap escQ ++ [39]) else []) = l ++ [39]) := Lib.hid (by
          have h := HL.out
          rw [hkn, List.take_of_length_le (by rw [bl_len]; omega)] at h
          rw [h.2, h.1]
          rfl)
        have HRR : Hid (wr.ownsRow w.heap.size 5 1 (.slice ao n cv) n (bytesV l)) := Lib.hid (by have := HR.out; rw [HNL.out] at this ⊢; exact this)
        clear hkn HL
        go_wp2_with (at_builtin; refine wpList_append_k rfl _ _ 97 rfl w.heap.size 5 i0 (.int .u8 0) 1 1 Tryz.underlying97 hi0 hz0 hs0 (by decide) hb0 rfl (.slice ao n cv) n (bytesV l) rfl (HRR.out.alloc _) _ 1 1 (bytesV [39]) rfl rfl (Or.inr ⟨_, rfl, fun j u hu => cell_new _ _ _ j u hu⟩) (bytesV_one _) (by unfold maxLen; omega) (by omega) (by simp; omega) (n + 1) (bytesV l ++ bytesV [39]) rfl rfl ?_; intro a4 c4 w4 hown4 hgrow4 hat4; have CV := conv_row (RowB.join [39] (by rw [HNL.out]; rfl) hown4))
        go_ret
        exact ⟨by rw [HQ.out, HF.out]; rfl, (HB.out.alloc hwr _).grown hgrow4 (by simp; omega) (fun q hq => (HRR.out.lt q hq).1)⟩
  · rw [hp] at P
    have hQ : quoteB (bl s) = bl s := by
      unfold quoteB
      rw [if_pos hp]
    rw [hQ]
    clear hp hQ
    go_enter Tryz.func39, Tryz.ntmps39
    (go_wp2_with fail; go_fit (P _ he); rintro e w1 ⟨rfl, b1⟩)
    go_wp2
    go_ret
    exact ⟨rfl, b1⟩
end Go.Proofs.YtobdhcaoeholhaaGreatDoor
/- The project's writer in memory: its operators, its variables, what is written; put, text. -/
namespace Go.Proofs.YtobdhcaoeholhaaGreatDoor
open Go.RowKit
set_option linter.unusedVariables false
set_option maxRecDepth 100000

theorem gPow : Tryz.prog.globalNamed "internal/strconv.uint64pow10" = some 3 := by kernel_rfl
/-- What strconv reads lies as the program's text lays it. -/
structure Con (w : World) : Prop where
  pow : Lib.TabIs Tryz.prog w "internal/strconv.uint64pow10" .u64 Lib.pow10Tab
  err : Err w
theorem Con.ext {w w' : World} (h : Con w) (hb : Below w.heap.size w w') : Con w' := ⟨Joins.tab_stays gPow h.pow hb (Nat.le_refl _), h.err.ext hb⟩
theorem var_lt {P : Program} {W : World} {g : Nat} {n : String} {cs : Array Value} (hg : P.globalNamed n = some g) (h : W.var? P n = some cs) : g < W.heap.size := by
  unfold World.var? at h
  rw [hg] at h
  simp only [Option.bind_some] at h
  rcases Nat.lt_or_ge g W.heap.size with h' | h'
  · exact h'
  · rw [Array.getElem?_eq_none h'] at h; cases h
theorem var_keep {P : Program} {W W' : World} {g : Nat} {n : String} {cs : Array Value} (hg : P.globalNamed n = some g) (h : W.var? P n = some cs) (hb : W'.heap[g]? = W.heap[g]?) : W'.var? P n = some cs := by
  unfold World.var? at h ⊢
  rw [hg] at h ⊢
  simp only [Option.bind_some] at h ⊢
  rw [hb]
  exact h
theorem Con.lt {w : World} (h : Con w) : 2 < w.heap.size ∧ 3 < w.heap.size := by
  obtain ⟨_, _, he⟩ := h.err
  exact ⟨var_lt gRange he, var_lt gPow h.pow⟩
theorem Con.keep {w w' : World} (h : Con w) (h1 : w'.heap[2]? = w.heap[2]?) (h2 : w'.heap[3]? = w.heap[3]?) : Con w' := by
  obtain ⟨tp, p, he⟩ := h.err
  exact ⟨var_keep gPow h.pow h2, tp, p, var_keep gRange he h1⟩
/-- The writer lies there, in block wb. M: blocks that turn: nothing else is looked at in them. -/
structure Wr (M : Nat → Bool) (w : World) (wb : Nat) (xs : List O) (vs : List Int) (out : List UInt8) : Prop where
  mb : M wb = true
  old : Old M w
  con : Con w
  gl : M 2 = false ∧ M 3 = false
  co : ∃ vo, w.cell? ⟨wb, 0, none⟩ = some vo ∧ Ops (hide M w) vo xs
  cv : ∃ vv, w.cell? ⟨wb, 1, none⟩ = some vv ∧ Nums (hide M w) vv vs
  c2 : ∃ vn, w.cell? ⟨wb, 2, none⟩ = some vn ∧ RowB w (wb + 1) vn out ∧ ∀ k, vn.ownBlock = some k → M k = true
  fz : ∀ j, w.frozen? ⟨wb, j, none⟩ = false
section
variable {M M' : Nat → Bool} {w w' : World} {wb : Nat} {xs : List O} {vs : List Int} {out : List UInt8}
theorem Wr.lt (h : Wr M w wb xs vs out) : wb < w.heap.size := by
  obtain ⟨vn, h1, _⟩ := h.c2
  exact World.block_lt_of_cell? _ _ h1
/-- It lies there still. -/
theorem Wr.later (h : Wr M w wb xs vs out) (hb : Below w.heap.size w w') : Wr M w' wb xs vs out := by
  have hs : Stays (hide M w) (hide M w') := Stays.below hb fun _ _ h => h
  obtain ⟨vo, o1, o2⟩ := h.co
  obtain ⟨vv, v1, v2⟩ := h.cv
  obtain ⟨vn, n1, n2, n3⟩ := h.c2
  have hlt := h.lt
  exact { mb := h.mb, old := h.old.mono hb.size, con := h.con.ext hb, gl := h.gl, co := ⟨vo, cell_later hb o1, Elems.stay o2 hs⟩, cv := ⟨vv, cell_later hb v1, Elems.stay v2 hs⟩
          c2 := ⟨vn, cell_later hb n1, row_at n2 (fun g hg => hb.block g (row_in n2 hg).2), n3⟩
          fz := fun j => (hb.frozen (p := ⟨wb, j, none⟩) hlt).trans (h.fz j) }
/-- Where its parts lie. -/
theorem Wr.parts (h : Wr M w wb xs vs out) : ∃ vo vv vn, w.cell? ⟨wb, 0, none⟩ = some vo ∧ w.cell? ⟨wb, 1, none⟩ = some vv ∧ w.cell? ⟨wb, 2, none⟩ = some vn ∧ (∀ j, w.frozen? ⟨wb, j, none⟩ = false) ∧ Ops w vo xs ∧ Nums w vv vs ∧ RowB w (wb + 1) vn out := by
  obtain ⟨vo, o1, o2⟩ := h.co
  obtain ⟨vv, v1, v2⟩ := h.cv
  obtain ⟨vn, n1, n2, n3⟩ := h.c2
  exact ⟨vo, vv, vn, o1, v1, n1, h.fz, Elems.stay o2 (Stays.unhide M w), Elems.stay v2 (Stays.unhide M w), n2⟩
/-- What a call that writes leaves. -/
def WPost (M : Nat → Bool) (w : World) (wb : Nat) (xs : List O) (vs : List Int) (out : List UInt8) (e : Ending) (w' : World) : Prop :=
  e = .returned (.tuple #[]) ∧ ∃ M', Wr M' w' wb xs vs out ∧ Turn M M M' M' w w'
theorem TmV.turn {x : Tm} {v : Value} (h : TmV (hide M w) x v) (ht : Turn M M M' M' w w') : TmV (hide M' w') x v := TmV.stay (ht.stays fun _ h => h) _ _ h
theorem Tms.turn {l : List Tm} {v : Value} (h : Tms (hide M w) v l) (ht : Turn M M M' M' w w') : Tms (hide M' w') v l := h.stay (ht.stays fun _ h => h)
theorem Wr.new (h : Wr M w wb xs vs out) {k : Nat} (hk : w.heap.size ≤ k) : M k = false := h.old k hk
theorem bytesV_app (l m : List UInt8) : bytesV (l ++ m) = bytesV l ++ bytesV m := by unfold bytesV; rw [List.map_append]
set_option maxHeartbeats 2000000 in
theorem Wr.grow (h : Wr M w wb xs vs out) {vn vn' : Value} (n1 : w.cell? ⟨wb, 2, none⟩ = some vn) (n2 : RowB w (wb + 1) vn out) (n3 : ∀ k, vn.ownBlock = some k → M k = true) {w1 : World} {out' : List UInt8} (hown : RowB w1 (wb + 1) vn' out')
    (hgrow : w.grownBy w1 vn.ownBlock) (hat : vn'.ownBlock = vn.ownBlock ∨ vn'.ownBlock = some w.heap.size) : (∃ M', Wr M' (w1.setCell ⟨wb, 2, none⟩ vn') wb xs vs out' ∧ Turn M M M' M' w (w1.setCell ⟨wb, 2, none⟩ vn')) ∧ ∀ j, j ≠ 2 → (w1.setCell ⟨wb, 2, none⟩ vn').cell? ⟨wb, j, none⟩ = w.cell? ⟨wb, j, none⟩ := by
  have hlt := h.lt
  have hsz : (w1.setCell ⟨wb, 2, none⟩ vn').heap.size = w1.heap.size := by simp [World.setCell]
  have hwb : w1.heap[wb]? = w.heap[wb]? := hgrow.block wb hlt (by
    intro e
    have := row_in n2 e.symm
    omega)
  have hmm : ∀ k, k < w.heap.size → (M k || vn'.ownBlock == some k) = M k := fun k hk => by
    cases hm : M k with
    | true => rfl
    | false =>
      rw [Bool.false_or]
      cases he : (vn'.ownBlock == some k) with
      | false => rfl
      | true =>
        have he : vn'.ownBlock = some k := by simpa using he
        rcases hat with hat | hat
        · rw [hat] at he
          rw [n3 k he] at hm
          cases hm
        · rw [hat] at he
          injection he with he
          omega
  have hkept : ∀ k, k < w.heap.size → M k = false → (w1.setCell ⟨wb, 2, none⟩ vn').heap[k]? = w.heap[k]? := fun k hk hm => by
    rw [Below.heap_setCell w1 _ _ k (fun e => by rw [e, h.mb] at hm; cases hm)]
    exact hgrow.block k hk (by
      intro e
      rw [n3 k e.symm] at hm
      cases hm)
  have hT : Turn M M (fun k => M k || vn'.ownBlock == some k) (fun k => M k || vn'.ownBlock == some k) w (w1.setCell ⟨wb, 2, none⟩ vn') :=
    ⟨by rw [hsz]; exact hgrow.size, hmm, hmm, hkept, (show Below 0 w w1 from ⟨hgrow.os, hgrow.tape, hgrow.output, hgrow.size, fun k hk => by omega⟩).setCell (Nat.zero_le _) _⟩
  have hs := hT.stays (fun _ h => h)
  obtain ⟨vo, o1, o2⟩ := h.co
  obtain ⟨vv, v1, v2⟩ := h.cv
  obtain ⟨M', hM'⟩ : ∃ M', (fun k => M k || vn'.ownBlock == some k) = M' := ⟨_, rfl⟩
  have hMk : ∀ k, M' k = (M k || vn'.ownBlock == some k) := fun k => by rw [← hM']
  rw [hM'] at hT hs
  clear hM'
  refine ⟨⟨M', ⟨by rw [hMk, h.mb]; rfl, fun k hk => ?_, h.con.keep (hkept _ h.con.lt.1 h.gl.1) (hkept _ h.con.lt.2 h.gl.2), ⟨(hT.mm _ h.con.lt.1).trans h.gl.1, (hT.mm _ h.con.lt.2).trans h.gl.2⟩, ⟨vo, ?_, Elems.stay o2 hs⟩, ⟨vv, ?_, Elems.stay v2 hs⟩, ⟨vn', css (u := vn) ?_, row_at hown (fun g hg => Below.heap_setCell w1 _ _ g (fun e => ?_)), fun k hk => ?_⟩, fun j => ?_⟩, hT⟩, fun j hj => by rw [near_cell hj, World.cell?_of_block hwb]⟩
  · rw [hsz] at hk
    rw [hMk, h.old k (Nat.le_trans hgrow.size hk), Bool.false_or]
    cases he : (vn'.ownBlock == some k) with
    | false => rfl
    | true =>
      have he : vn'.ownBlock = some k := by simpa using he
      have := row_in hown he
      omega
  · rw [near_cell (by decide), World.cell?_of_block hwb]; exact o1
  · rw [near_cell (by decide), World.cell?_of_block hwb]; exact v1
  · rw [World.cell?_of_block hwb]; exact n1
  · have := row_in hown hg
    simp only at e
    omega
  · rw [hMk, hk]; simp
  · rw [World.frozen?_setCell, World.frozen?_of_block hwb]
    exact h.fz j
theorem putK (h : Wr M w wb xs vs out) {vn : Value} (n1 : w.cell? ⟨wb, 2, none⟩ = some vn) (n2 : RowB w (wb + 1) vn out) (n3 : ∀ k, vn.ownBlock = some k → M k = true) (hf : ∀ j, w.frozen? ⟨wb, j, none⟩ = false) {s : ByteArray} {w1 : World} {a' : Option Addr} {c' : Nat}
    (hown : w1.ownsRow (wb + 1) 5 1 (.slice a' (out.length + s.size) c') (out.length + s.size) (bytesV out ++ byteCells s)) (hgrow : w.grownBy w1 vn.ownBlock) (hat : (Value.slice a' (out.length + s.size) c').ownBlock = vn.ownBlock ∨ (Value.slice a' (out.length + s.size) c').ownBlock = some w.heap.size) :
    w1.cell? ⟨wb, 2, none⟩ = some vn ∧ (∀ j, w1.frozen? ⟨wb, j, none⟩ = false) ∧ Hid ((∃ M', Wr M' (w1.setCell ⟨wb, 2, none⟩ (.slice a' (out.length + s.size) c')) wb xs vs (out ++ bl s) ∧ Turn M M M' M' w (w1.setCell ⟨wb, 2, none⟩ (.slice a' (out.length + s.size) c'))) ∧ ∀ j, j ≠ 2 → (w1.setCell ⟨wb, 2, none⟩ (.slice a' (out.length + s.size) c')).cell? ⟨wb, j, none⟩ = w.cell? ⟨wb, j, none⟩) := by
  have hwb : w1.heap[wb]? = w.heap[wb]? := hgrow.block wb h.lt (by
    intro e
    have := row_in n2 e.symm
    omega)
  have hown' : RowB w1 (wb + 1) (.slice a' (out.length + s.size) c') (out ++ bl s) := by
    unfold RowB
    rw [List.length_append, bl_len, bytesV_app]
    exact hown
  exact ⟨by rw [World.cell?_of_block hwb]; exact n1, fun j => by rw [World.frozen?_of_block hwb]; exact hf j, Lib.hid (h.grow n1 n2 n3 hown' hgrow hat)⟩
set_option maxHeartbeats 2000000 in
theorem put_keeps (h : Wr M w wb xs vs out) (s : ByteArray) (hz : out.length + (bl s).length ≤ 1000000000) :
    Calls Tryz.prog 91 #[.pointer (some ⟨wb, 0, none⟩), .string s] w fun e w' => WPost M w wb xs vs (out ++ bl s) e w' ∧ ∀ j, j ≠ 2 → w'.cell? ⟨wb, j, none⟩ = w.cell? ⟨wb, j, none⟩ := by
  obtain ⟨vn, n1, n2, n3⟩ := h.c2
  obtain ⟨i0, hi0, hz0, hs0, hb0⟩ := info_parts infoU8
  have hlt := h.lt
  rw [bl_len] at hz
  have H := Lib.hid h
  have hf := h.fz
  obtain ⟨ao, cap, hvn, hcap⟩ := row_formk n2
  subst hvn
  have HN := Lib.hid n3
  have HR := Lib.hid n2
  have HN1 := Lib.hid n1
  clear h n2 n3
  go_enter Tryz.func91, Tryz.ntmps91
  go_wp2_with (at_builtin; refine wpList_append_s rfl _ _ 97 9 rfl (wb + 1) 5 i0 (.int .u8 0) 1 Tryz.underlying97 Tryz.underlying9 hi0 hz0 hs0 hb0 rfl (.slice ao out.length cap) out.length (bytesV out) rfl HR.out s rfl (by unfold maxLen; omega) (by omega) (by omega) ?_; intro a' c' w1 hown hgrow hat; obtain ⟨m1, mf, HG⟩ := putK H.out HN1.out HR.out HN.out hf hown hgrow hat; clear hown hgrow hat; simp only [Act.put, List.setIfInBounds_toArray, List.set_cons_zero, List.set_cons_succ])
  go_wp2
  go_end0
  exact ⟨⟨rfl, HG.out.1⟩, HG.out.2⟩
theorem put_at (h : Wr M w wb xs vs out) (s : ByteArray) (hz : out.length + (bl s).length ≤ 1000000000) :
    Calls Tryz.prog 91 #[.pointer (some ⟨wb, 0, none⟩), .string s] w (WPost M w wb xs vs (out ++ bl s)) := (put_keeps h s hz).mono fun e w' h => h.1
/-- What is written, in the end. -/
theorem text_at (h : Wr M w wb xs vs out) (hz : out.length ≤ 1000000000) :
    Calls Tryz.prog 56 #[.pointer (some ⟨wb, 0, none⟩)] w fun e w' => e = .returned (.tuple #[.string ⟨(if 4096 < out.length then [] else out).toArray⟩, .int .i64 (if 4096 < out.length then 3 else 0)]) ∧ w = w' := by
  obtain ⟨_, _, vn, _, _, n1, _, _, _, n2⟩ := h.parts
  have hc := conv_row n2
  obtain ⟨ao, cap, hvn, hcap⟩ := row_formk n2
  subst hvn
  clear h n2
  by_cases hbig : 4096 < out.length
  · rw [if_pos hbig, if_pos hbig]
    have hd : decide ((out.length : Int) > 4096) = true := by simp; omega
    go_enter Tryz.func56, Tryz.ntmps56
    go_wp2
    go_ret2
    exact ⟨rfl, rfl⟩
  · rw [if_neg hbig, if_neg hbig]
    have hd : decide ((out.length : Int) > 4096) = false := by simp; omega
    go_enter Tryz.func56, Tryz.ntmps56
    go_wp2
    go_ret2
    exact ⟨rfl, rfl⟩
end
end Go.Proofs.YtobdhcaoeholhaaGreatDoor
