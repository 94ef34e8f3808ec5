import Derived.Test.YtobdhcaoeholhaaGreatDoorHszat
import Derived.Test.YtobdhcaoeholhaaGreatDoorHszao
import Derived.Test.YtobdhcaoeholhaaGreatDoorHszan
import Derived.Test.YtobdhcaoeholhaaGreatDoorHszab
import Derived.Test.YtobdhcaoeholhaaGreatDoorHszah
import Derived.Test.YtobdhcaoeholhaaGreatDoorHszap
import Derived.Test.YtobdhcaoeholhaaGreatDoorHszaf
import Derived.Lib.SmallJoins
import Derived.Lib.LaidTab
import Derived.Lib.ItoaMem
import Derived.Test.YtobdhcaoeholhaaGreatDoorHszaq
import Derived.Test.YtobdhcaoeholhaaGreatDoorHszac
import Derived.Lib.ItoaLen
import Derived.Lib.AppendIntMem
import Derived.Deep.QuietTactic
import Derived.Test.YtobdhcaoeholhaaGreatDoorHszag
import Derived.Laws.StructEq
import Derived.Deep.RegionHeld3
set_option linter.unusedVariables false
set_option linter.unusedSimpArgs false
/- The document's own writer: what its Find and OpLevel say of a good table; yfx. -/
namespace Go.Proofs.YtobdhcaoeholhaaGreatDoor
open Go.Shelf Go.RowKit
set_option linter.unusedVariables false
set_option maxRecDepth 100000

theorem find_bet {xs : List O} (hg : goodB xs = true) (n : List UInt8) : (∃ (k : Nat) (o : O), findB xs n true = (k : Int) ∧ xs[k]? = some o ∧ betO xs n = (o, true)) ∨ (findB xs n true = -1 ∧ betO xs n = zO) := by
  have hall := ((good_iff xs).1 hg).2.1
  rcases find_cases xs n true with ⟨h1, h2⟩ | ⟨k, x, h1, h2, h3, _⟩
  · refine Or.inr ⟨h1, one_not ?_⟩
    rw [one_none (xs := xs) (n := n) (s := 2) (fun x hx e => by
      obtain ⟨j, hj, rfl⟩ := List.getElem_of_mem hx
      have h := h2 j _ (List.getElem?_eq_getElem hj)
      unfold isR at h
      unfold key at e
      injection e with e1 e2
      rw [bet_side, e1, e2] at h
      simp at h)]
  · refine Or.inl ⟨k, x, h1, h2, one_mem hg (List.mem_of_getElem? h2) ?_⟩
    unfold isR at h3
    rw [Bool.and_eq_true] at h3
    unfold key
    have h4 := eq_of_beq h3.2
    rw [bet_side] at h4
    rw [eq_of_beq h3.1, eq_of_beq h4]
theorem find_pre {xs : List O} (hg : goodB xs = true) (n : List UInt8) : (∃ (k : Nat) (o : O), findB xs n false = (k : Int) ∧ xs[k]? = some o ∧ preO xs n = (o, true)) ∨ (findB xs n false = -1 ∧ preO xs n = zO) := by
  have hall := ((good_iff xs).1 hg).2.1
  rcases find_cases xs n false with ⟨h1, h2⟩ | ⟨k, x, h1, h2, h3, _⟩
  · refine Or.inr ⟨h1, one_not ?_⟩
    rw [one_none (xs := xs) (n := n) (s := 1) (fun x hx e => by
      obtain ⟨j, hj, rfl⟩ := List.getElem_of_mem hx
      have h := h2 j _ (List.getElem?_eq_getElem hj)
      unfold isR at h
      unfold key at e
      injection e with e1 e2
      rw [bet_side, e1, e2] at h
      simp at h)]
  · refine Or.inl ⟨k, x, h1, h2, one_mem hg (List.mem_of_getElem? h2) ?_⟩
    unfold isR at h3
    rw [Bool.and_eq_true] at h3
    have h5 := (may_level' (hall x (List.mem_of_getElem? h2))).2
    unfold key
    have h4 := eq_of_beq h3.2
    rw [bet_side] at h4
    rcases side_two' _ h5 with h6 | h6
    · rw [eq_of_beq h3.1, h6]
    · rw [h6] at h4; exact absurd h4 (by decide)
theorem lv_spec (n : List UInt8) : ∀ (xs : List O) (m : Int), m ≤ xs.foldl (fun m o => if bl o.n == n && decide (m < o.l) then o.l else m) m ∧ (∀ o ∈ xs, bl o.n = n → o.l ≤ xs.foldl (fun m o => if bl o.n == n && decide (m < o.l) then o.l else m) m) ∧
    (xs.foldl (fun m o => if bl o.n == n && decide (m < o.l) then o.l else m) m = m ∨ ∃ o ∈ xs, bl o.n = n ∧ o.l = xs.foldl (fun m o => if bl o.n == n && decide (m < o.l) then o.l else m) m)
  | [], m => ⟨Int.le_refl _, fun o ho _ => absurd ho List.not_mem_nil, Or.inl rfl⟩
  | x :: r, m => by
    rw [List.foldl_cons]
    by_cases hc : (bl x.n == n && decide (m < x.l)) = true
    · rw [if_pos hc]
      rw [Bool.and_eq_true, decide_eq_true_eq] at hc
      obtain ⟨h1, h2, h3⟩ := lv_spec n r x.l
      refine ⟨by omega, fun o ho hn => ?_, Or.inr ?_⟩
      · rcases List.mem_cons.1 ho with rfl | ho
        · exact h1
        · exact h2 o ho hn
      · rcases h3 with h3 | ⟨o, ho, hn, he⟩
        · exact ⟨x, List.mem_cons_self, eq_of_beq hc.1, h3.symm⟩
        · exact ⟨o, List.mem_cons_of_mem _ ho, hn, he⟩
    · rw [if_neg hc]
      obtain ⟨h1, h2, h3⟩ := lv_spec n r m
      refine ⟨h1, fun o ho hn => ?_, ?_⟩
      · rcases List.mem_cons.1 ho with rfl | ho
        · have : ¬ m < o.l := fun h => hc (by rw [Bool.and_eq_true, decide_eq_true_eq]; exact ⟨beq_iff_eq.2 hn, h⟩)
          omega
        · exact h2 o ho hn
      · rcases h3 with h3 | ⟨o, ho, hn, he⟩
        · exact Or.inl h3
        · exact Or.inr ⟨o, List.mem_cons_of_mem _ ho, hn, he⟩
theorem lv_max {xs : List O} (hg : goodB xs = true) (n : List UInt8) : lvF xs n = max (preO xs n).1.l (betO xs n).1.l := by
  have hall := ((good_iff xs).1 hg).2.1
  obtain ⟨h1, h2, h3⟩ := lv_spec n xs 0
  have hT := tab_of xs
  have a1 : (preO xs n).1.l ≤ lvF xs n ∧ 0 ≤ (preO xs n).1.l := by
    cases hp : (preO xs n).2 with
    | true =>
      obtain ⟨q1, q2, _⟩ := one_find (s := 1) hp
      have := hT.pre1 n hp
      exact ⟨h2 _ q1 this.1, by omega⟩
    | false => rw [hT.pre0 n hp]; exact ⟨h1, Int.le_refl _⟩
  have a2 : (betO xs n).1.l ≤ lvF xs n ∧ 0 ≤ (betO xs n).1.l := by
    cases hp : (betO xs n).2 with
    | true =>
      obtain ⟨q1, q2, _⟩ := one_find (s := 2) hp
      have := hT.bet1 n hp
      exact ⟨h2 _ q1 this.1, by omega⟩
    | false => rw [hT.bet0 n hp]; exact ⟨h1, Int.le_refl _⟩
  have a3 : lvF xs n ≤ max (preO xs n).1.l (betO xs n).1.l := by
    rcases h3 with h3 | ⟨o, ho, hn, he⟩
    · have : lvF xs n = 0 := h3
      omega
    · have hs := (may_level' (hall o ho)).2
      have he' : o.l = lvF xs n := he
      rcases side_two' _ hs with h6 | h6
      · have hk : preO xs n = (o, true) := one_mem hg ho (by unfold key; rw [hn, h6])
        rw [hk]
        show _ ≤ max o.l _
        omega
      · have hk : betO xs n = (o, true) := one_mem hg ho (by unfold key; rw [hn, h6])
        rw [hk]
        show _ ≤ max _ o.l
        omega
  omega
end Go.Proofs.YtobdhcaoeholhaaGreatDoor
/- The document's own writer: lists. -/
namespace Go.Proofs.YtobdhcaoeholhaaGreatDoor
open Go.Shelf Go.RowKit
set_option linter.unusedVariables false
set_option maxRecDepth 100000

theorem ratom_at (w : World) (s : ByteArray) : Calls Tryz.prog 143 #[.string s] w fun e w' => e = .returned (.agg #[.int .i64 2, .int .i64 0, .string s, .slice none 0 0]) ∧ Below w.heap.size w w' := by
  go_enter Tryz.func143, Tryz.ntmps143
  go_wp2
  refine bodyPost_ret (v := .agg #[.int .i64 2, .int .i64 0, .string s, .slice none 0 0]) (by rw [results_cell1 rfl]; go_simp) rfl ⟨rfl, ?_⟩
  exact bel1' _ _
end Go.Proofs.YtobdhcaoeholhaaGreatDoor
/- The document's reader in memory: its operators, its tokens, where it is; what fails. -/
namespace Go.Proofs.YtobdhcaoeholhaaGreatDoor
open Go.Shelf Go.RowKit
set_option linter.unusedVariables false

/-- What lies there while nothing has failed. -/
structure Gd (D M : Nat → Bool) (w : World) (rb : Nat) (xs : List O) (L : List TokP) (s : RS) : Prop where
  cl : ∃ vl, w.cell? ⟨rb, 1, none⟩ = some vl ∧ Toks (hide D w) vl L
  c2 : ∃ a : Nat, w.cell? ⟨rb, 2, none⟩ = some (.int .i64 (a : Int)) ∧ s.rest = L.drop a ∧ a ≤ L.length + 1
  c3 : ∃ vn, w.cell? ⟨rb, 3, none⟩ = some vn ∧ w.ownsRow (rb + 1) 90 2 vn s.names.length (s.names.flatMap nmCells) ∧ ∀ k, vn.ownBlock = some k → M k = true
  c4 : w.cell? ⟨rb, 4, none⟩ = some (.int .i64 (s.next : Int))
  nice : Nice s
  nou : ∀ p ∈ s.names, p.1 ≠ [95]
/-- The document's reader, in block rb; 'none': it has failed. -/
structure Sd (D M : Nat → Bool) (w : World) (rb : Nat) (xs : List O) (L : List TokP) (o : Option RS) : Prop where
  mb : M rb = true
  md : ∀ k, M k = true → D k = true
  old : Old D w
  co : ∃ vo, w.cell? ⟨rb, 0, none⟩ = some vo ∧ Ops (hide D w) vo xs
  c5 : w.cell? ⟨rb, 5, none⟩ = some (.bool o.isNone)
  fz : ∀ j, w.frozen? ⟨rb, j, none⟩ = false
  good : ∀ s, o = some s → Gd D M w rb xs L s
/-- What the token list is like. -/
def WfL (L : List TokP) : Prop := L.length ≤ 2000 ∧ (∀ i q, L[i]? = some q → q.1.opens = true → ∃ r, L[i + 1]? = some r ∧ r.1.kind = 5) ∧ ∀ q ∈ L, q.1.kind ≤ 6
section
variable {D M : Nat → Bool} {w w' : World} {rb : Nat} {xs : List O} {L : List TokP} {o : Option RS} {s : RS}
theorem Sd.lt (h : Sd D M w rb xs L o) : rb < w.heap.size := World.block_lt_of_cell? _ _ h.c5
theorem Sd.okd (h : Sd D M w rb xs L o) : Okd D M w := ⟨h.md, h.old⟩
theorem Sd.gd (h : Sd D M w rb xs L (some s)) : Gd D M w rb xs L s := h.good s rfl
/-- It lies there still. -/
theorem Sd.step {D' : Nat → Bool} (h : Sd D M w rb xs L o) (hs : Stays (hide D w) (hide D' w')) (md : ∀ k, M k = true → D' k = true) (ho : Old D' w') (hk : ∀ k, k < w.heap.size → M k = true → w'.heap[k]? = w.heap[k]?) : Sd D' M w' rb xs L o := by
  have hr := hk rb h.lt h.mb
  obtain ⟨vo, o1, o2⟩ := h.co
  refine { mb := h.mb, md := md, old := ho, co := ⟨vo, by rw [World.cell?_of_block hr]; exact o1, Elems.stay o2 hs⟩, c5 := by rw [World.cell?_of_block hr]; exact h.c5, fz := fun j => by rw [World.frozen?_of_block hr]; exact h.fz j, good := fun s hs' => ?_ }
  have g := h.good s hs'
  obtain ⟨vl, l1, l2⟩ := g.cl
  obtain ⟨a, a1, a2, a3⟩ := g.c2
  obtain ⟨vn, n1, n2, n3⟩ := g.c3
  exact { cl := ⟨vl, by rw [World.cell?_of_block hr]; exact l1, Elems.stay l2 hs⟩
          c2 := ⟨a, by rw [World.cell?_of_block hr]; exact a1, a2, a3⟩
          c3 := ⟨vn, by rw [World.cell?_of_block hr]; exact n1, row_at n2 (fun g hg => hk g (row_in n2 hg).2 (n3 g hg)), n3⟩
          c4 := by rw [World.cell?_of_block hr]; exact g.c4, nice := g.nice, nou := g.nou }
theorem Sd.later (h : Sd D M w rb xs L o) (hb : Below w.heap.size w w') : Sd D M w' rb xs L o :=
  h.step (Stays.below hb fun _ _ h => h) h.md (h.old.mono hb.size) fun k hk _ => hb.block k hk
theorem Sd.box (h : Sd D M w rb xs L o) (hb : Below w.heap.size w w') {b : Nat} (h1 : w.heap.size ≤ b) (h2 : b < w'.heap.size) : Sd (plusB D b) M w' rb xs L o :=
  h.step (Stays.below hb fun k hk hd => (plusB_ne (by omega)).trans hd) (fun k hm => plusB_of (h.md k hm)) (fun k hk => (plusB_ne (by omega)).trans (h.old k (Nat.le_trans hb.size hk))) fun k hk _ => hb.block k hk
theorem Sd.put (h : Sd D M w rb xs L o) (a : Addr) (u : Value) (hd : D a.block = true) (hm : M a.block = false) : Sd D M (w.setCell a u) rb xs L o :=
  h.step (Stays.set a u hd) h.md (h.old.mono (by simp [World.setCell])) fun k _ hk => Below.heap_setCell w a u k (fun e => by rw [e, hm] at hk; cases hk)
theorem Sd.unbox {b : Nat} (h : Sd (plusB D b) M w rb xs L o) (md : ∀ k, M k = true → D k = true) (ho : Old D w) : Sd D M w rb xs L o :=
  h.step (Stays.less fun k hk => by
    by_cases e : k = b
    · rw [e, plusB_self] at hk; cases hk
    · rwa [plusB_ne e] at hk) md ho fun _ _ _ => rfl
theorem Sd.put3 (h : Sd D M w rb xs L o) {b : Nat} (hd : D b = true) (hm : M b = false) (u0 u1 u2 : Value) : Sd D M (set3 w b u0 u1 u2) rb xs L o :=
  ((h.put ⟨b, 0, none⟩ u0 hd hm).put ⟨b, 1, none⟩ u1 hd hm).put ⟨b, 2, none⟩ u2 hd hm
theorem Sd.put4 (h : Sd D M w rb xs L o) {b : Nat} (hd : D b = true) (hm : M b = false) (u0 u1 u2 u3 : Value) : Sd D M (set4 w b u0 u1 u2 u3) rb xs L o :=
  (h.put3 hd hm u0 u1 u2).put ⟨b, 3, none⟩ u3 hd hm
theorem Sd.fin {D0 M0 : Nat → Bool} {w0 : World} (h : Sd D M w rb xs L o) (ht : Turn D0 M0 D M w0 w) (hd : ∀ k, M0 k = true → D0 k = true) : Sd (Fin D0 M w0.heap.size) M w rb xs L o :=
  h.step (Stays.less fun k hk => fin_less ht h.okd hk) (fin_okd ht h.okd hd).1 (fin_okd ht h.okd hd).2 fun _ _ _ => rfl
theorem Sd.out (h : Sd D M w rb xs L o) {k : Nat} (hk : w.heap.size ≤ k) : M k = false := by
  cases hm : M k with
  | false => rfl
  | true => have := h.md k hm; rw [h.old k hk] at this; cases this
/-- It fails. -/
theorem Sd.failed (h : Sd D M w rb xs L o) : Sd D M (w.setCell ⟨rb, 5, none⟩ (.bool true)) rb xs L none := by
  obtain ⟨vo, o1, o2⟩ := h.co
  exact { mb := h.mb, md := h.md, old := h.old.mono (by simp [World.setCell]), co := ⟨vo, by rw [near_cell (by decide)]; exact o1, Elems.stay o2 (Stays.set _ _ (h.md rb h.mb))⟩, c5 := css h.c5, fz := fun j => by rw [World.frozen?_setCell]; exact h.fz j, good := fun s hs => by cases hs }
theorem Sd.parts (h : Sd D M w rb xs L (some s)) : ∃ (vo vl vn : Value) (a : Nat), w.cell? ⟨rb, 0, none⟩ = some vo ∧ w.cell? ⟨rb, 1, none⟩ = some vl ∧ w.cell? ⟨rb, 2, none⟩ = some (.int .i64 (a : Int)) ∧ w.cell? ⟨rb, 3, none⟩ = some vn ∧ w.cell? ⟨rb, 4, none⟩ = some (.int .i64 (s.next : Int)) ∧
    w.cell? ⟨rb, 5, none⟩ = some (.bool false) ∧ (∀ j, w.frozen? ⟨rb, j, none⟩ = false) ∧ Ops (hide D w) vo xs ∧ Toks (hide D w) vl L ∧ w.ownsRow (rb + 1) 90 2 vn s.names.length (s.names.flatMap nmCells) ∧ (∀ k, vn.ownBlock = some k → M k = true) ∧ s.rest = L.drop a ∧ a ≤ L.length + 1 := by
  obtain ⟨vo, o1, o2⟩ := h.co
  obtain ⟨vl, l1, l2⟩ := h.gd.cl
  obtain ⟨a, a1, a2, a3⟩ := h.gd.c2
  obtain ⟨vn, n1, n2, n3⟩ := h.gd.c3
  exact ⟨vo, vl, vn, a, o1, l1, a1, n1, h.gd.c4, h.c5, h.fz, o2, l2, n2, n3, a2, a3⟩
theorem drop_tail {α : Type} (L : List α) (a : Nat) : (L.drop a).tail = L.drop (a + 1) := by rw [← List.drop_one, List.drop_drop]
/-- One token on. -/
theorem Sd.pass (h : Sd D M w rb xs L (some s)) {a : Nat} (hc : w.cell? ⟨rb, 2, none⟩ = some (.int .i64 (a : Int))) (ha : a ≤ L.length) : Sd D M (w.setCell ⟨rb, 2, none⟩ (.int .i64 ((a : Int) + 1))) rb xs L (some (dropR s)) := by
  have hs : Stays (hide D w) (hide D (w.setCell ⟨rb, 2, none⟩ (.int .i64 ((a : Int) + 1)))) := Stays.set _ _ (h.md rb h.mb)
  obtain ⟨vo, vl, vn, a', o1, l1, a1, n1, c4, c5, fz, o2, l2, n2, n3, a2, a3⟩ := h.parts
  have e : a = a' := by rw [hc] at a1; injection a1 with a1; injection a1 with _ a1; omega
  subst e
  refine { mb := h.mb, md := h.md, old := h.old.mono (by simp [World.setCell]), co := ⟨vo, by rw [near_cell (by decide)]; exact o1, Elems.stay o2 hs⟩, c5 := by rw [near_cell (by decide)]; exact c5, fz := fun j => by rw [World.frozen?_setCell]; exact fz j, good := fun s' hs' => ?_ }
  cases hs'
  exact { cl := ⟨vl, by rw [near_cell (by decide)]; exact l1, Elems.stay l2 hs⟩
          c2 := ⟨a + 1, by rw [css a1]; rfl, by show s.rest.tail = _; rw [a2, drop_tail], by omega⟩
          c3 := ⟨vn, by rw [near_cell (by decide)]; exact n1, row_at n2 (fun g hg => Below.heap_setCell w _ _ g (fun e => by have := (row_in n2 hg).1; simp only at e; omega)), n3⟩
          c4 := by rw [near_cell (by decide)]; exact c4, nice := h.gd.nice.drop, nou := h.gd.nou }
theorem dhead_at {a : Nat} (h : s.rest = L.drop a) : headR s = (L[a]?).getD zTok := by
  unfold headR
  rw [h, List.head?_drop]
end
theorem results_cell2' {fn : Func} {p u : Tmp} {ty : TypeId} (h : fn.results = #[.cell p ty, .tmp u]) (tmps : Array Value) (P : Program) (w : World) :
    (results fn tmps).run P w = ((asAddr (tmps.getD p undef)).run P w).andThen fun a w₁ => ((loadVar ty a).run P w₁).andThen fun x w₂ => .ok (.tuple #[x, tmps.getD u undef]) w₂ := by
  simp only [results, h]
  simp [Sem.run_bind, Result.andThen]
theorem toks_get {w : World} {a : Option Addr} {n cap : Nat} {l : List TokP} (h : Toks w (.slice a n cap) l) {k : Nat} {x : TokP} (hx : l[k]? = some x) :
    ∃ b off, a = some ⟨b, off, none⟩ ∧ w.cell? ⟨b, off + k * 5, none⟩ = some (.int .i64 (x.1.kind : Int)) ∧ w.cell? ⟨b, off + k * 5 + 1, none⟩ = some (.string ⟨x.1.text.toArray⟩) ∧ w.cell? ⟨b, off + k * 5 + 2, none⟩ = some (.int .i64 (x.1.n : Int)) ∧ w.cell? ⟨b, off + k * 5 + 3, none⟩ = some (.bool x.1.opens) ∧ w.cell? ⟨b, off + k * 5 + 4, none⟩ = some (.int .i64 (x.2 : Int)) := by
  obtain ⟨a', cap', e, h1, h2, h3⟩ := h
  cases e
  rcases h3 with rfl | ⟨b, off, rfl, hb, hc⟩
  · simp at hx
  · exact ⟨b, off, rfl, hc k x hx 0 _ rfl, by rw [Nat.add_assoc]; exact hc k x hx 1 _ rfl, by rw [Nat.add_assoc]; exact hc k x hx 2 _ rfl, by rw [Nat.add_assoc]; exact hc k x hx 3 _ rfl, by rw [Nat.add_assoc]; exact hc k x hx 4 _ rfl⟩
set_option maxHeartbeats 4000000 in
theorem dpeek_at {D M : Nat → Bool} {w : World} {rb : Nat} {xs : List O} {L : List TokP} {s : RS} (hL : WfL L) (h : Sd D M w rb xs L (some s)) :
    Calls Tryz.prog 79 #[.pointer (some ⟨rb, 0, none⟩)] w fun e w' => e = .returned (tkVal (headR s)) ∧ Below w.heap.size w w' := by
  obtain ⟨w1, hw1, hb1, hz1, hx1⟩ := box_new w #[.int .i64 0, .string ⟨#[]⟩, .int .i64 0, .bool false, .int .i64 0] 138
  obtain ⟨r0, r1, r2, r3, r4, rf⟩ := hx1.five
  obtain ⟨_, vl, _, k, _, l1, c2, _, _, _, _, _, l2, _, _, hr, hk⟩ := (h.later hb1).parts
  have l2 : Toks w1 vl L := Elems.stay l2 (Stays.unhide D w1)
  obtain ⟨al, cl, rfl, hl1, hl2, _⟩ := l2
  have HL := Lib.hid (show Toks w1 (.slice al L.length cl) L from ⟨al, cl, rfl, hl1, hl2, by assumption⟩)
  rw [dhead_at hr]
  obtain ⟨m, hm⟩ : ∃ m, L.length = m := ⟨_, rfl⟩
  have hl3 := hL.1
  rw [hm] at l1 hl1 HL hk hl3
  unfold maxLen at hl2
  have HB := Lib.hid hb1
  by_cases hkm : k < m
  · obtain ⟨x, hx⟩ : ∃ x, L[k]? = some x := ⟨_, List.getElem?_eq_getElem (by rw [hm]; exact hkm)⟩
    rw [hx]
    obtain ⟨b, off, rfl, d0, d1, d2, d3, d4⟩ := toks_get HL.out hx
    have hkc : k < cl := by omega
    clear hr hm hx h hb1 hx1 hz1 hL
    go_enter Tryz.func79, Tryz.ntmps79
    go_wp2_with fail
    (try rw [hw1])
    clear hw1
    go_quiet (fail)
    go_wp2_with fail
    go_region
    go_wp2
    refine bodyPost_ret (v := tkVal x) (by rw [results_cell1 rfl]; go_simp) rfl ⟨rfl, ?_⟩
    exact bel5 (bel_drewN HB.out _) (Nat.le_refl _) _ _ _ _ _
  · rw [List.getElem?_eq_none (by omega)]
    clear hr hm h hb1 hx1 hz1 hL
    go_enter Tryz.func79, Tryz.ntmps79
    go_wp2_with fail
    (try rw [hw1])
    clear hw1
    go_quiet (fail)
    go_wp2
    refine bodyPost_ret (v := tkVal zTok) (by rw [results_cell1 rfl]; go_simp; simp [zTok]) rfl ⟨rfl, ?_⟩
    exact bel5 (bel_drewN HB.out _) (Nat.le_refl _) _ _ _ _ _
/-- A term of nothing, as fail answers it. -/
abbrev zVal : Value := .agg #[.int .i64 0, .int .i64 0, .string ⟨#[]⟩, .slice none 0 0]
set_option maxHeartbeats 2000000 in
theorem dfail_at {D M : Nat → Bool} {w : World} {rb : Nat} {xs : List O} {L : List TokP} {o : Option RS} (h : Sd D M w rb xs L o) :
    Calls Tryz.prog 119 #[.pointer (some ⟨rb, 0, none⟩)] w fun e w' => e = .returned (.tuple #[zVal, .int .i64 0]) ∧ Sd D M w' rb xs L none ∧ Turn D M D M w w' := by
  obtain ⟨w1, hw1, hb1, hz1, hx1⟩ := box_new w #[.int .i64 0, .int .i64 0, .string ⟨#[]⟩, .slice none 0 0] 66
  obtain ⟨r0, r1, r2, r3, rf⟩ := hx1.four
  have hlt := h.lt
  have hn : rb ≠ w.heap.size := by omega
  have h1 := h.box hb1 (Nat.le_refl _) hx1.lt
  have c5 := h1.c5
  have hf := h1.fz
  have hmB := Lib.hid (h.out (Nat.le_refl _))
  have H1 := Lib.hid h1.failed
  have HMD := Lib.hid h.md
  have HMB := Lib.hid h.mb
  have HOD := Lib.hid h.old
  have HT := Lib.hid ((Turn.below (D := D) (M := M) hb1).set ⟨rb, 5, none⟩ (.bool true) (Or.inr h.mb))
  clear h h1 hb1 hz1 hx1
  go_enter Tryz.func119, Tryz.ntmps119
  go_wp2_with fail
  (try rw [hw1])
  clear hw1
  go_wp2
  have hT := HT.out.set4 (b := w.heap.size) (Or.inl (Nat.le_refl _)) (.int .i64 0) (.int .i64 0) (.string ⟨#[]⟩) (.slice none 0 0)
  refine bodyPost_ret (v := .tuple #[zVal, .int .i64 0]) (by rw [results_cell2' rfl]; go_simp; (try rfl)) rfl ⟨rfl, ?_, hT⟩
  exact ((H1.out.put4 (plusB_self D _) hmB.out (.int .i64 0) (.int .i64 0) (.string ⟨#[]⟩) (.slice none 0 0)).unbox HMD.out (HOD.out.mono hT.size))
set_option maxHeartbeats 2000000 in
theorem dpunct_at {D M : Nat → Bool} {w : World} {rb : Nat} {xs : List O} {L : List TokP} {s : RS} (hL : WfL L) (h : Sd D M w rb xs L (some s)) (t : List UInt8) :
    Calls Tryz.prog 162 #[.pointer (some ⟨rb, 0, none⟩), .string ⟨t.toArray⟩] w fun e w' => e = .returned (.bool (isMark t (headR s))) ∧ Sd D M w' rb xs L (some (takesS t s)) ∧ Turn D M D M w w' := by
  have HP := Lib.hid (dpeek_at hL h)
  have H := Lib.hid h
  obtain ⟨x, hx⟩ : ∃ x, headR s = x := ⟨_, rfl⟩
  have HQ := Lib.hid hx
  rw [hx] at HP ⊢
  obtain ⟨sd, hsd⟩ : ∃ sd, takesS t s = sd := ⟨_, rfl⟩
  have HSD := Lib.hid hsd
  obtain ⟨m, hm⟩ : ∃ m, isMark t x = m := ⟨_, rfl⟩
  have HM := Lib.hid hm
  rw [hsd, hm]
  have hLl := hL.1
  clear h hx hsd hm hL
  go_enter Tryz.func162, Tryz.ntmps162
  (go_wp2_with fail; go_fit (HP.out); rintro e w1 ⟨rfl, hb1⟩)
  obtain ⟨w2, hw2, hb2, hz2, hx2⟩ := box_new w1 #[.int .i64 (x.1.kind : Int), .string ⟨x.1.text.toArray⟩, .int .i64 (x.1.n : Int), .bool x.1.opens, .int .i64 (x.2 : Int)] 138
  obtain ⟨d0, d1, d2, d3, d4, df⟩ := hx2.five
  have HB2 := Lib.hid (Ext.trans' hb1 hb2)
  have H2 := Lib.hid (H.out.later HB2.out)
  clear hb1 hb2 hz2 hx2 HP
  by_cases hk : x.1.kind = 5
  · have hk' : ((x.1.kind : Int) == 5) = true := by rw [hk]; rfl
    by_cases he : x.1.text = t
    · have hm : isMark t x = true := by unfold isMark; rw [hk, he]; simp
      have HE : Hid (sd = dropR s) := Lib.hid (by rw [← HSD.out]; unfold takesS; rw [HQ.out, if_pos hm])
      obtain rfl : m = true := HM.out.symm.trans hm
      have he' : (x.1.text == t) = true := by rw [he]; exact beq_self_eq_true _
      obtain ⟨_, _, _, k, _, _, c2, _, _, _, hf, _, _, _, _, hr, hkl⟩ := H2.out.parts
      have hk2 : k < L.length := by
        rcases Nat.lt_or_ge k L.length with h | h
        · exact h
        · exfalso
          have h0 := dhead_at hr
          rw [HQ.out, List.getElem?_eq_none h] at h0
          rw [h0] at hk
          revert hk; decide
      have HS3 := Lib.hid (H2.out.pass c2 (by omega))
      have HT3 := Lib.hid ((Turn.below (D := D) (M := M) HB2.out).set ⟨rb, 2, none⟩ (.int .i64 ((k : Int) + 1)) (Or.inr H.out.mb))
      have hw : IntKind.i64.wrap ((k : Int) + 1) = (k : Int) + 1 := by rw [IntKind.wrap_i64]; omega
      clear hk he hm hr hkl hk2
      go_wp2_with fail
      (try rw [hw2])
      clear hw2
      go_wp2
      go_ret
      rw [HE.out]
      exact ⟨rfl, HS3.out, HT3.out⟩
    · have hm : isMark t x = false := by unfold isMark; rw [hk]; simp [he]
      have HE : Hid (sd = s) := Lib.hid (by rw [← HSD.out]; unfold takesS; rw [HQ.out, hm]; rfl)
      obtain rfl : m = false := HM.out.symm.trans hm
      have he' : (x.1.text == t) = false := beq_false_of_ne he
      clear hk he hm
      go_wp2_with fail
      (try rw [hw2])
      clear hw2
      go_wp2
      go_ret
      rw [HE.out]
      exact ⟨rfl, H2.out, Turn.below HB2.out⟩
  · have hm : isMark t x = false := by unfold isMark; simp [hk]
    have HE : Hid (sd = s) := Lib.hid (by rw [← HSD.out]; unfold takesS; rw [HQ.out, hm]; rfl)
    obtain rfl : m = false := HM.out.symm.trans hm
    have hk' : ((x.1.kind : Int) == 5) = false := beq_false_of_ne (by omega)
    clear hk hm
    go_wp2_with fail
    (try rw [hw2])
    clear hw2
    go_wp2
    go_ret
    rw [HE.out]
    exact ⟨rfl, H2.out, Turn.below HB2.out⟩
end Go.Proofs.YtobdhcaoeholhaaGreatDoor
/- The document's reader: between, begins. -/
namespace Go.Proofs.YtobdhcaoeholhaaGreatDoor
open Go.Shelf Go.RowKit
set_option linter.unusedVariables false

theorem ops_get {w : World} {a : Option Addr} {n cap : Nat} {l : List O} (h : Ops w (.slice a n cap) l) {k : Nat} {x : O} (hx : l[k]? = some x) :
    ∃ b off, a = some ⟨b, off, none⟩ ∧ n = l.length ∧ n ≤ cap ∧ cap ≤ maxLen ∧ w.cell? ⟨b, off + k * 3, none⟩ = some (.string x.n) ∧ w.cell? ⟨b, off + k * 3 + 1, none⟩ = some (.string x.k) ∧ w.cell? ⟨b, off + k * 3 + 2, none⟩ = some (.int .i64 x.l) := by
  obtain ⟨a', cap', e, h1, h2, h3⟩ := h
  cases e
  rcases h3 with rfl | ⟨b, off, rfl, hb, hc⟩
  · simp at hx
  · exact ⟨b, off, rfl, rfl, h1, h2, hc k x hx 0 _ rfl, by rw [Nat.add_assoc]; exact hc k x hx 1 _ rfl, by rw [Nat.add_assoc]; exact hc k x hx 2 _ rfl⟩
theorem opk_cases {q : TokP} (h : opKind q = true) : (((q.1.kind : Int) != 1) = false) ∨ (((q.1.kind : Int) != 1) = true ∧ ((q.1.kind : Int) != 2) = false) ∨ (((q.1.kind : Int) != 1) = true ∧ ((q.1.kind : Int) != 2) = true ∧ ((q.1.kind : Int) != 5) = false ∧ (q.1.text == [44]) = true) := by
  unfold opKind isMark at h
  simp only [Bool.or_eq_true, Bool.and_eq_true, beq_iff_eq] at h
  rcases h with h | h | ⟨h, h2⟩
  · exact Or.inl (by rw [h]; rfl)
  · exact Or.inr (Or.inl ⟨by rw [h]; rfl, by rw [h]; rfl⟩)
  · exact Or.inr (Or.inr ⟨by rw [h]; rfl, by rw [h]; rfl, by rw [h]; rfl, by rw [h2]; rfl⟩)
theorem opk_not {q : TokP} (h : opKind q = false) : ((q.1.kind : Int) != 1) = true ∧ ((q.1.kind : Int) != 2) = true ∧ (((q.1.kind : Int) != 5) = true ∨ (((q.1.kind : Int) != 5) = false ∧ (q.1.text == [44]) = false)) := by
  unfold opKind isMark at h
  simp only [Bool.or_eq_false_iff, Bool.and_eq_false_iff, beq_eq_false_iff_ne] at h
  obtain ⟨h1, h2, h3⟩ := h
  refine ⟨by simpa using (show (q.1.kind : Int) ≠ 1 by omega), by simpa using (show (q.1.kind : Int) ≠ 2 by omega), ?_⟩
  by_cases h5 : q.1.kind = 5
  · right
    rcases h3 with h3 | h3
    · exact absurd h5 h3
    · exact ⟨by rw [h5]; rfl, beq_false_of_ne h3⟩
  · left; simpa using (show (q.1.kind : Int) ≠ 5 by omega)
set_option maxHeartbeats 4000000 in
theorem dbet_yes {D M : Nat → Bool} {w : World} {rb : Nat} {xs : List O} {L : List TokP} {s : RS} (hg : goodB xs = true) (h : Sd D M w rb xs L (some s)) (q : TokP) (ho : opKind q = true) :
    Calls Tryz.prog 116 #[.pointer (some ⟨rb, 0, none⟩), tkVal q] w fun e w' => e = .returned (.tuple #[oVal (betO xs q.1.text).1, .bool (betO xs q.1.text).2]) ∧ Below w.heap.size w w' := by
  obtain ⟨w1, hw1, hb1, hz1, hx1⟩ := box_new w #[.int .i64 (q.1.kind : Int), .string ⟨q.1.text.toArray⟩, .int .i64 (q.1.n : Int), .bool q.1.opens, .int .i64 (q.2 : Int)] 138
  obtain ⟨w2, hw2, hb2, hz2, hx2⟩ := box_new w1 #[.string ⟨#[]⟩, .string ⟨#[]⟩, .int .i64 0] 114
  have HB2 := Lib.hid (Ext.trans' hb1 hb2)
  have hB : w.heap.size ≤ w1.heap.size := hb1.size
  have HX1 := Lib.hid (hx1.ext hb2)
  have HX2 := Lib.hid hx2
  obtain ⟨d0, d1, d2, d3, d4, df⟩ := HX1.out.five
  obtain ⟨r0, r1, r2, rf⟩ := hx2.three
  obtain ⟨vo, _, _, _, o1, _, _, _, _, _, _, o2, _⟩ := (h.later HB2.out).parts
  have o2 : Ops w2 vo xs := Elems.stay o2 (Stays.unhide D w2)
  have HO := Lib.hid o2
  have HF := Lib.hid (fun (wq : World) (hq : Below w2.heap.size w2 wq) => find_walk (o2.ext hq) ⟨q.1.text.toArray⟩ true)
  have hfb := find_bet hg q.1.text
  have hbl : bl (⟨q.1.text.toArray⟩ : ByteArray) = q.1.text := rfl
  simp only [hbl] at HF
  obtain ⟨z, hz⟩ : ∃ z, findB xs q.1.text true = z := ⟨_, rfl⟩
  rw [hz] at HF hfb
  obtain ⟨⟨⟨on, ok, ol⟩, og⟩, hy⟩ : ∃ y, betO xs q.1.text = y := ⟨_, rfl⟩
  rw [hy] at hfb ⊢
  have HFB := Lib.hid hfb
  have hk := opk_cases ho
  obtain ⟨ao, mo, co, rfl⟩ : ∃ a m c, vo = .slice a m c := by obtain ⟨a, c, e, _⟩ := o2; exact ⟨_, _, _, e⟩
  clear h ho hb1 hb2 hx1 hx2 hz1 hz2 hz hy o2 hfb hbl
  rcases hk with k1 | ⟨k1, k2⟩ | ⟨k1, k2, k5, kt⟩
  all_goals
    go_enter Tryz.func116, Tryz.ntmps116
    go_wp2_with fail
    (try rw [hw1])
    (try rw [hw2])
    clear hw1 hw2
    go_wp2_with fail
    (refine wp_region_class (fun w' => (w'.cell? ⟨rb, 0, none⟩ = some (.slice ao mo co) ∧ w'.cell? ⟨w.heap.size, 1, none⟩ = some (.string ⟨q.1.text.toArray⟩)) ∧ Below w2.heap.size w2 w') (by kernel_rfl) (by kernel_rfl) (⟨⟨o1, d1⟩, (Below.refl _ _).drew⟩) ?_; (repeat (first | go_big_quiet_skip | (go_big_quiet_want; refine quiet_of ?_; apply Exists.intro; refine ⟨fun wq hq => ?_, ?_⟩; (focus ((try dsimp only at hq); go_simp; (first | done | with_reducible rfl | ((go_at_call 144; refine (HF.out wq hq.2).mono ?_; rintro e w6 ⟨rfl, rfl⟩; exact ⟨rfl, hq⟩)) | fail))); try simp only [Act.put, List.setIfInBounds_toArray, List.set_cons_zero, List.set_cons_succ]; go_big_quiet_on) | fail)); refine wpQuiet_nil ?_; intro wz hz)
    obtain ⟨⟨o1, d1⟩, hz2⟩ := hz
    have HZ := Lib.hid hz2
    have HXZ := Lib.hid (HX2.out.ext hz2)
    obtain ⟨r0, r1, r2, rf⟩ := HXZ.out.three
    have HB := Lib.hid (Ext.trans' HB2.out hz2)
    have HOZ := Lib.hid (HO.out.ext hz2)
    clear hz2
    rcases HFB.out with ⟨k, x, e1, e2, e3⟩ | ⟨e1, e3⟩
    · injection e3 with e3 e4
      subst e3 e4
      obtain ⟨b, off, rfl, hn, hn1, hn2, f0, f1, f2⟩ := ops_get HOZ.out e2
      have hkm : k < mo := by rw [hn]; exact (List.getElem?_eq_some_iff.1 e2).1
      have hk1 : (k : Int) < mo := by omega
      have hk0 : ¬ ((k : Int) < 0) := by omega
      unfold maxLen at hn2
      subst e1
      clear e2 hn HF HFB HO HOZ
      go_wp2
      refine bodyPost_ret (v := .tuple #[.agg #[.string on, .string ok, .int .i64 ol], .bool true]) (by rw [results_cell_tmp rfl]; go_simp) rfl ⟨rfl, Below.set3 HB.out hB _ _ _⟩
    · have hz0 : z < 0 := by omega
      unfold zO at e3
      injection e3 with e3 e4
      injection e3 with e3 e5 e6
      subst e3 e4 e5 e6
      clear e1 HF HFB HO HOZ
      go_wp2
      refine bodyPost_ret (v := .tuple #[.agg #[.string ⟨#[]⟩, .string ⟨#[]⟩, .int .i64 0], .bool false]) (by rw [results_cell_tmp rfl]; go_simp) rfl ⟨rfl, Below.set3 HB.out hB _ _ _⟩
set_option maxHeartbeats 4000000 in
theorem dbet_no {D M : Nat → Bool} {w : World} {rb : Nat} {xs : List O} {L : List TokP} {s : RS} (h : Sd D M w rb xs L (some s)) (q : TokP) (ho : opKind q = false) :
    Calls Tryz.prog 116 #[.pointer (some ⟨rb, 0, none⟩), tkVal q] w fun e w' => e = .returned (.tuple #[.agg #[.string ⟨#[]⟩, .string ⟨#[]⟩, .int .i64 0], .bool false]) ∧ Below w.heap.size w w' := by
  obtain ⟨w1, hw1, hb1, hz1, hx1⟩ := box_new w #[.int .i64 (q.1.kind : Int), .string ⟨q.1.text.toArray⟩, .int .i64 (q.1.n : Int), .bool q.1.opens, .int .i64 (q.2 : Int)] 138
  obtain ⟨w2, hw2, hb2, hz2, hx2⟩ := box_new w1 #[.string ⟨#[]⟩, .string ⟨#[]⟩, .int .i64 0] 114
  have HB2 := Lib.hid (Ext.trans' hb1 hb2)
  have hB : w.heap.size ≤ w1.heap.size := hb1.size
  obtain ⟨d0, d1, d2, d3, d4, df⟩ := (hx1.ext hb2).five
  obtain ⟨r0, r1, r2, rf⟩ := hx2.three
  have hk := opk_not ho
  clear h ho hb1 hb2 hx1 hx2 hz1 hz2
  obtain ⟨k1, k2, k5 | ⟨k5, kt⟩⟩ := hk
  all_goals
    go_enter Tryz.func116, Tryz.ntmps116
    go_wp2_with fail
    (try rw [hw1])
    (try rw [hw2])
    clear hw1 hw2
    go_wp2
    refine bodyPost_ret (v := .tuple #[.agg #[.string ⟨#[]⟩, .string ⟨#[]⟩, .int .i64 0], .bool false]) (by rw [results_cell_tmp rfl]; go_simp) rfl ⟨rfl, Below.set3 HB2.out hB _ _ _⟩
theorem dbetween_at {D M : Nat → Bool} {w : World} {rb : Nat} {xs : List O} {L : List TokP} {s : RS} (hg : goodB xs = true) (h : Sd D M w rb xs L (some s)) (q : TokP) :
    Calls Tryz.prog 116 #[.pointer (some ⟨rb, 0, none⟩), tkVal q] w fun e w' => e = .returned (.tuple #[oVal (betweenR (betO xs) q).1, .bool (betweenR (betO xs) q).2]) ∧ Below w.heap.size w w' := by
  unfold betweenR
  cases ho : opKind q with
  | true => exact dbet_yes hg h q ho
  | false => exact dbet_no h q ho
end Go.Proofs.YtobdhcaoeholhaaGreatDoor
/- The document's reader: begins. -/
namespace Go.Proofs.YtobdhcaoeholhaaGreatDoor
open Go.Shelf Go.RowKit
set_option linter.unusedVariables false

theorem head_kind {L : List TokP} {a : Nat} {s : RS} (hL : WfL L) (h : s.rest = L.drop a) : (headR s).1.kind ≤ 6 := by
  rw [dhead_at h]
  cases hx : L[a]? with
  | none => decide
  | some x => exact hL.2.2 x (List.mem_of_getElem? hx)
set_option maxHeartbeats 4000000 in
theorem dbegins_at {D M : Nat → Bool} {w : World} {rb : Nat} {xs : List O} {L : List TokP} {s : RS} (hL : WfL L) (hg : goodB xs = true) (h : Sd D M w rb xs L (some s)) :
    Calls Tryz.prog 180 #[.pointer (some ⟨rb, 0, none⟩)] w fun e w' => e = .returned (.bool (beginsR (preO xs) (betO xs) (headR s))) ∧ Below w.heap.size w w' := by
  have HP := Lib.hid (dpeek_at hL h)
  have hk6 : (headR s).1.kind ≤ 6 := by obtain ⟨_, _, _, a, _, _, _, _, _, _, _, _, _, _, _, hr, _⟩ := h.parts; exact head_kind hL hr
  have H := Lib.hid h
  obtain ⟨x, hx⟩ : ∃ x, headR s = x := ⟨_, rfl⟩
  rw [hx] at HP hk6 ⊢
  obtain ⟨R, hR⟩ : ∃ R, beginsR (preO xs) (betO xs) x = R := ⟨_, rfl⟩
  rw [hR]
  have HR := Lib.hid hR
  have HG := Lib.hid hg
  clear h hx hR hg
  go_enter Tryz.func180, Tryz.ntmps180
  (go_wp2_with fail; go_fit (HP.out); rintro e w1 ⟨rfl, hb1⟩)
  obtain ⟨w2, hw2, hb2, hz2, hx2⟩ := box_new w1 #[.int .i64 (x.1.kind : Int), .string ⟨x.1.text.toArray⟩, .int .i64 (x.1.n : Int), .bool x.1.opens, .int .i64 (x.2 : Int)] 138
  obtain ⟨d0, d1, d2, d3, d4, df⟩ := hx2.five
  have HX2 := Lib.hid hx2
  have HB2 := Lib.hid (Ext.trans' hb1 hb2)
  have H2 := Lib.hid (H.out.later HB2.out)
  clear hb1 hb2 hz2 hx2 HP H hL
  by_cases hk : x.1.kind = 1 ∨ x.1.kind = 2
  · have hr : R = (x.1.opens || ((preO xs x.1.text).2 || !(betweenR (betO xs) x).2)) := by rw [← HR.out]; unfold beginsR; rw [if_pos hk]
    have k0 : ((x.1.kind : Int) == 0) = false := beq_false_of_ne (by omega)
    have k6 : ((x.1.kind : Int) == 6) = false := beq_false_of_ne (by omega)
    have k5 : ((x.1.kind : Int) == 5) = false := beq_false_of_ne (by omega)
    have HRR := Lib.hid hr
    have HBt := Lib.hid (fun wq (hq : Below w2.heap.size w2 wq) => dbetween_at HG.out (H2.out.later hq) x)
    obtain ⟨⟨⟨on, ok, ol⟩, og⟩, hy⟩ : ∃ y, betweenR (betO xs) x = y := ⟨_, rfl⟩
    rw [hy] at HBt HRR
    have hpre := find_pre HG.out x.1.text
    obtain ⟨vo, _, _, _, o1, _, _, _, _, _, _, o2, _⟩ := H2.out.parts
    have o2 : Ops w2 vo xs := Elems.stay o2 (Stays.unhide D w2)
    have HF := Lib.hid (fun (wq : World) (hq : Below w2.heap.size w2 wq) => find_walk (o2.ext hq) ⟨x.1.text.toArray⟩ false)
    have hbl : bl (⟨x.1.text.toArray⟩ : ByteArray) = x.1.text := rfl
    simp only [hbl] at HF
    obtain ⟨z, hz⟩ : ∃ z, findB xs x.1.text false = z := ⟨_, rfl⟩
    rw [hz] at HF hpre
    have hzp : (preO xs x.1.text).2 = decide (0 ≤ z) := by
      rcases hpre with ⟨k, o, e1, _, e3⟩ | ⟨e1, e3⟩
      · rw [e3, e1]; simp
      · rw [e3, e1]; rfl
    obtain ⟨pg, hpg⟩ : ∃ pg, decide (0 ≤ z) = pg := ⟨_, rfl⟩
    rw [hzp, hpg] at HRR
    have O1 := Lib.hid o1
    have hkk : ((x.1.kind : Int) == 1) = true ∨ (((x.1.kind : Int) == 1) = false ∧ ((x.1.kind : Int) == 2) = true) := by
      rcases hk with h | h
      · exact Or.inl (by rw [h]; rfl)
      · exact Or.inr ⟨by rw [h]; rfl, by rw [h]; rfl⟩
    clear hk hr hy hz hpre hzp o1 o2 hbl HR
    rcases hkk with k1 | ⟨k1, k2⟩
    all_goals
      go_wp2_with fail
      (try rw [hw2])
      clear hw2
      (go_wp2_with fail; go_fit (HBt.out _ (Below.refl _ _)); rintro e w3 ⟨rfl, hb3⟩)
      obtain ⟨w4, hw4, hb4, hz4, hx4⟩ := box_new w3 #[.string on, .string ok, .int .i64 ol] 114
      have hb24 := Ext.trans' hb3 hb4
      have HB24 := Lib.hid hb24
      obtain ⟨d0, d1, d2, d3, d4, df⟩ := (HX2.out.ext hb24).five
      have o1 := cell_later hb24 O1.out
      clear hb3 hb4 hz4 hx4 hb24
      obtain ⟨xo, hxo⟩ : ∃ b, x.1.opens = b := ⟨_, rfl⟩
      rw [hxo] at d3 HRR
      go_wp2_with fail
      (try rw [hw4])
      clear hw4
      cases og
      · have hr : R = true := by rw [HRR.out]; simp
        subst hr
        clear HRR
        (refine wp_region_class (fun w' => (w'.cell? ⟨rb, 0, none⟩ = some vo ∧ w'.cell? ⟨w1.heap.size, 1, none⟩ = some (.string ⟨x.1.text.toArray⟩) ∧ w'.cell? ⟨w1.heap.size, 3, none⟩ = some (.bool xo)) ∧ Below w4.heap.size w4 w') (by kernel_rfl) (by kernel_rfl) (⟨⟨o1, d1, d3⟩, (Below.refl _ _).drew⟩) ?_; (repeat (first | go_big_quiet_skip | (go_big_quiet_want; refine quiet_of ?_; apply Exists.intro; refine ⟨fun wq hq => ?_, ?_⟩; (focus ((try dsimp only at hq); go_simp; (first | done | with_reducible rfl | (fail) | fail))); try simp only [Act.put, List.setIfInBounds_toArray, List.set_cons_zero, List.set_cons_succ]; go_big_quiet_on) | fail)); refine wpQuiet_nil ?_; intro wz hz)
        have HBe := Lib.hid (Ext.trans' HB2.out (Ext.trans' HB24.out hz.2))
        clear hz
        go_wp2
        go_ret
        exact ⟨rfl, HBe.out⟩
      · cases xo
        · have hr : R = pg := by rw [HRR.out]; simp
          subst hr
          clear HRR
          (refine wp_region_class (fun w' => (w'.cell? ⟨rb, 0, none⟩ = some vo ∧ w'.cell? ⟨w1.heap.size, 1, none⟩ = some (.string ⟨x.1.text.toArray⟩) ∧ w'.cell? ⟨w1.heap.size, 3, none⟩ = some (.bool false)) ∧ Below w4.heap.size w4 w') (by kernel_rfl) (by kernel_rfl) (⟨⟨o1, d1, d3⟩, (Below.refl _ _).drew⟩) ?_; (repeat (first | go_big_quiet_skip | (go_big_quiet_want; refine quiet_of ?_; apply Exists.intro; refine ⟨fun wq hq => ?_, ?_⟩; (focus ((try dsimp only at hq); go_simp; (first | done | with_reducible rfl | ((go_at_call 144; refine (HF.out wq (Ext.trans' HB24.out hq.2)).mono ?_; rintro e w6 ⟨rfl, rfl⟩; exact ⟨rfl, hq⟩)) | fail))); try simp only [Act.put, List.setIfInBounds_toArray, List.set_cons_zero, List.set_cons_succ]; go_big_quiet_on) | fail)); refine wpQuiet_nil ?_; intro wz hz)
          have HBe := Lib.hid (Ext.trans' HB2.out (Ext.trans' HB24.out hz.2))
          clear hz
          go_wp2
          go_ret
          exact ⟨by first | exact rfl | exact congrArg (fun b => Ending.returned (.bool b)) hpg | exact congrArg (fun b => Ending.returned (.bool b)) hpg.symm, HBe.out⟩
        · have hr : R = true := by rw [HRR.out]; simp
          subst hr
          clear HRR
          (refine wp_region_class (fun w' => (w'.cell? ⟨rb, 0, none⟩ = some vo ∧ w'.cell? ⟨w1.heap.size, 1, none⟩ = some (.string ⟨x.1.text.toArray⟩) ∧ w'.cell? ⟨w1.heap.size, 3, none⟩ = some (.bool true)) ∧ Below w4.heap.size w4 w') (by kernel_rfl) (by kernel_rfl) (⟨⟨o1, d1, d3⟩, (Below.refl _ _).drew⟩) ?_; (repeat (first | go_big_quiet_skip | (go_big_quiet_want; refine quiet_of ?_; apply Exists.intro; refine ⟨fun wq hq => ?_, ?_⟩; (focus ((try dsimp only at hq); go_simp; (first | done | with_reducible rfl | (fail) | fail))); try simp only [Act.put, List.setIfInBounds_toArray, List.set_cons_zero, List.set_cons_succ]; go_big_quiet_on) | fail)); refine wpQuiet_nil ?_; intro wz hz)
          have HBe := Lib.hid (Ext.trans' HB2.out (Ext.trans' HB24.out hz.2))
          clear hz
          go_wp2
          go_ret
          exact ⟨rfl, HBe.out⟩
  · have k1 : ((x.1.kind : Int) == 1) = false := beq_false_of_ne (by omega)
    have k2 : ((x.1.kind : Int) == 2) = false := beq_false_of_ne (by omega)
    by_cases h34 : x.1.kind = 3 ∨ x.1.kind = 4
    · have hr : R = true := by rw [← HR.out]; unfold beginsR; rw [if_neg hk, if_pos h34]
      subst hr
      have k0 : ((x.1.kind : Int) == 0) = false := beq_false_of_ne (by omega)
      have k6 : ((x.1.kind : Int) == 6) = false := beq_false_of_ne (by omega)
      have k5 : ((x.1.kind : Int) == 5) = false := beq_false_of_ne (by omega)
      clear hk h34 HR
      go_wp2_with fail
      (try rw [hw2])
      clear hw2
      go_wp2
      go_ret
      exact ⟨rfl, HB2.out⟩
    · by_cases h5 : x.1.kind = 5
      · have k0 : ((x.1.kind : Int) == 0) = false := beq_false_of_ne (by omega)
        have k6 : ((x.1.kind : Int) == 6) = false := beq_false_of_ne (by omega)
        have k5 : ((x.1.kind : Int) == 5) = true := by rw [h5]; rfl
        have hr : R = (x.1.text == [40] || (x.1.text == [91] || x.1.text == [123])) := by rw [← HR.out]; unfold beginsR; rw [if_neg hk, if_neg h34, if_pos h5]
        have HRR := Lib.hid hr
        clear hk h34 h5 HR hr
        cases t1 : (x.1.text == [40])
        · cases t2 : (x.1.text == [91])
          · cases t3 : (x.1.text == [123])
            · have hr : R = false := by rw [HRR.out, t1, t2, t3]; rfl
              subst hr
              clear HRR
              go_wp2_with fail
              (try rw [hw2])
              clear hw2
              go_wp2
              go_ret
              exact ⟨rfl, HB2.out⟩
            · have hr : R = true := by rw [HRR.out, t1, t2, t3]; rfl
              subst hr
              clear HRR
              go_wp2_with fail
              (try rw [hw2])
              clear hw2
              go_wp2
              go_ret
              exact ⟨rfl, HB2.out⟩
          · have hr : R = true := by rw [HRR.out, t1, t2]; rfl
            subst hr
            clear HRR
            go_wp2_with fail
            (try rw [hw2])
            clear hw2
            go_wp2
            go_ret
            exact ⟨rfl, HB2.out⟩
        · have hr : R = true := by rw [HRR.out, t1]; rfl
          subst hr
          clear HRR
          go_wp2_with fail
          (try rw [hw2])
          clear hw2
          go_wp2
          go_ret
          exact ⟨rfl, HB2.out⟩
      · have hr : R = false := by rw [← HR.out]; unfold beginsR; rw [if_neg hk, if_neg h34, if_neg h5]
        subst hr
        have k06 : ((x.1.kind : Int) == 0) = true ∨ (((x.1.kind : Int) == 0) = false ∧ ((x.1.kind : Int) == 6) = true) := by
          rcases Nat.eq_zero_or_pos x.1.kind with h | h
          · exact Or.inl (by rw [h]; rfl)
          · have h6 : x.1.kind = 6 := by omega
            exact Or.inr ⟨by rw [h6]; rfl, by rw [h6]; rfl⟩
        clear hk h34 h5 HR
        rcases k06 with k0 | ⟨k0, k6⟩
        all_goals
          go_wp2_with fail
          (try rw [hw2])
          clear hw2
          go_wp2
          go_ret
          exact ⟨rfl, HB2.out⟩
end Go.Proofs.YtobdhcaoeholhaaGreatDoor
/- The document's reader: variable. -/
namespace Go.Proofs.YtobdhcaoeholhaaGreatDoor
open Go.Shelf Go.RowKit
set_option linter.unusedVariables false

theorem nm_first (name : List UInt8) : ∀ l : List NmP, (l.find? (fun p => p.1 == name) = none ∧ ∀ (j : Nat) (y : NmP), l[j]? = some y → (y.1 == name) = false) ∨
    ∃ (k : Nat) (x : NmP), l[k]? = some x ∧ l.find? (fun p => p.1 == name) = some x ∧ (x.1 == name) = true ∧ ∀ (j : Nat) (y : NmP), j < k → l[j]? = some y → (y.1 == name) = false
  | [] => Or.inl ⟨rfl, fun j y h => by simp at h⟩
  | a :: r => by
    cases ha : (a.1 == name) with
    | true => exact Or.inr ⟨0, a, rfl, by rw [List.find?_cons]; simp only [ha], ha, fun j y h => absurd h (Nat.not_lt_zero _)⟩
    | false =>
      rcases nm_first name r with ⟨h1, h2⟩ | ⟨k, x, h1, h2, h3, h4⟩
      · refine Or.inl ⟨by rw [List.find?_cons]; simp only [ha]; exact h1, fun j y h => ?_⟩
        cases j with
        | zero => simp at h; rw [← h]; exact ha
        | succ j => exact h2 j y (by simpa using h)
      · refine Or.inr ⟨k + 1, x, by simpa using h1, by rw [List.find?_cons]; simp only [ha]; exact h2, h3, fun j y hj h => ?_⟩
        cases j with
        | zero => simp at h; rw [← h]; exact ha
        | succ j => exact h4 j y (by omega) (by simpa using h)
theorem nms_get {w : World} {a : Option Addr} {n cap : Nat} {l : List NmP} (h : Nms w (.slice a n cap) l) {k : Nat} {x : NmP} (hx : l[k]? = some x) :
    ∃ b off, a = some ⟨b, off, none⟩ ∧ w.cell? ⟨b, off + k * 2, none⟩ = some (.string ⟨x.1.toArray⟩) ∧ w.cell? ⟨b, off + k * 2 + 1, none⟩ = some (.int .i64 (x.2 : Int)) := by
  obtain ⟨a', cap', e, h1, h2, h3⟩ := h
  cases e
  rcases h3 with rfl | ⟨b, off, rfl, hb, hc⟩
  · simp at hx
  · exact ⟨b, off, rfl, hc k x hx 0 _ rfl, by rw [Nat.add_assoc]; exact hc k x hx 1 _ rfl⟩
section
variable {D M : Nat → Bool} {w w5 : World} {rb : Nat} {xs : List O} {L : List TokP} {s s' : RS}
/-- Another number. -/
theorem Sd.num (h : Sd D M w rb xs L (some s)) (e1 : s'.rest = s.rest) (e2 : s'.names = s.names) (hn : Nice s') : Sd D M (w.setCell ⟨rb, 4, none⟩ (.int .i64 (s'.next : Int))) rb xs L (some s') := by
  have hs : Stays (hide D w) (hide D (w.setCell ⟨rb, 4, none⟩ (.int .i64 (s'.next : Int)))) := Stays.set _ _ (h.md rb h.mb)
  obtain ⟨vo, vl, vn, a', o1, l1, a1, n1, c4, c5, fz, o2, l2, n2, n3, a2, a3⟩ := h.parts
  refine { mb := h.mb, md := h.md, old := h.old.mono (by simp [World.setCell]), co := ⟨vo, by rw [near_cell (by decide)]; exact o1, Elems.stay o2 hs⟩, c5 := by rw [near_cell (by decide)]; exact c5, fz := fun j => by rw [World.frozen?_setCell]; exact fz j, good := fun s2 hs2 => ?_ }
  cases hs2
  exact { cl := ⟨vl, by rw [near_cell (by decide)]; exact l1, Elems.stay l2 hs⟩
          c2 := ⟨a', by rw [near_cell (by decide)]; exact a1, e1.trans a2, a3⟩
          c3 := ⟨vn, by rw [near_cell (by decide)]; exact n1, by rw [e2]; exact row_at n2 (fun g hg => Below.heap_setCell w _ _ g (fun e => by have := (row_in n2 hg).1; simp only at e; omega)), n3⟩
          c4 := css c4, nice := hn, nou := by rw [e2]; exact h.gd.nou }
/-- One more name, and its number. -/
theorem Sd.named {vn v' : Value} (h : Sd D M w rb xs L (some s)) (e1 : s'.rest = s.rest) (hn : Nice s') (hu : ∀ p ∈ s'.names, p.1 ≠ [95])
    (hv : w.cell? ⟨rb, 3, none⟩ = some vn) (hM : ∀ k, vn.ownBlock = some k → M k = true) (hrb : ∀ k, vn.ownBlock = some k → rb < k) (hot : Below 0 w w5) (hsz : w.heap.size ≤ w5.heap.size) (hk : ∀ k, k < w.heap.size → vn.ownBlock ≠ some k → w5.heap[k]? = w.heap[k]?)
    (hown : w5.ownsRow (rb + 1) 90 2 v' s'.names.length (s'.names.flatMap nmCells)) (hb : v'.ownBlock = vn.ownBlock ∨ ∃ k, w.heap.size ≤ k ∧ v'.ownBlock = some k) :
    Sd (withB D v') (withB M v') ((w5.setCell ⟨rb, 3, none⟩ v').setCell ⟨rb, 4, none⟩ (.int .i64 (s'.next : Int))) rb xs L (some s') ∧ Turn D M (withB D v') (withB M v') w ((w5.setCell ⟨rb, 3, none⟩ v').setCell ⟨rb, 4, none⟩ (.int .i64 (s'.next : Int))) := by
  have hlt := h.lt
  have hrn : vn.ownBlock ≠ some rb := fun e => by have := hrb rb e; omega
  have hold : ∀ k, k < w.heap.size → v'.ownBlock = some k → M k = true := fun k hk' e => by
    rcases hb with hb | ⟨g, hg, hb⟩
    · exact hM k (by rw [← hb]; exact e)
    · rw [hb] at e; cases e; omega
  have hkeep : ∀ k, k < w.heap.size → M k = false → ((w5.setCell ⟨rb, 3, none⟩ v').setCell ⟨rb, 4, none⟩ (.int .i64 (s'.next : Int))).heap[k]? = w.heap[k]? := fun k hk' hm => by
    rw [Below.heap_setCell _ _ _ k (fun e => by simp only at e; rw [e, h.mb] at hm; cases hm), Below.heap_setCell w5 _ _ k (fun e => by simp only at e; rw [e, h.mb] at hm; cases hm)]
    exact hk k hk' (fun e => by rw [hM k e] at hm; cases hm)
  have hdd : ∀ k, k < w.heap.size → withB D v' k = D k := fun k hk' => by
    by_cases e : v'.ownBlock = some k
    · rw [withB_own e, h.md k (hold k hk' e)]
    · exact withB_no e
  have hmm : ∀ k, k < w.heap.size → withB M v' k = M k := fun k hk' => by
    by_cases e : v'.ownBlock = some k
    · rw [withB_own e, hold k hk' e]
    · exact withB_no e
  have hs5 : ((w5.setCell ⟨rb, 3, none⟩ v').setCell ⟨rb, 4, none⟩ (.int .i64 (s'.next : Int))).heap.size = w5.heap.size := by simp [World.setCell]
  have ht : Turn D M (withB D v') (withB M v') w ((w5.setCell ⟨rb, 3, none⟩ v').setCell ⟨rb, 4, none⟩ (.int .i64 (s'.next : Int))) := ⟨by rw [hs5]; exact hsz, hdd, hmm, hkeep, (hot.setCell (Nat.zero_le _) _).setCell (Nat.zero_le _) _⟩
  have hst := ht.stays h.md
  have hr : ∀ j u, w.cell? ⟨rb, j, none⟩ = some u → w5.cell? ⟨rb, j, none⟩ = some u := fun j u hu => by rw [World.cell?_of_block (hk rb hlt hrn)]; exact hu
  obtain ⟨vo, vl, vn2, a', o1, l1, a1, n1, c4, c5, fz, o2, l2, n2, n3, a2, a3⟩ := h.parts
  refine ⟨{ mb := withB_of h.mb, md := fun k hm => ?_, old := fun k hk' => ?_
            co := ⟨vo, by rw [near_cell (by decide), near_cell (by decide)]; exact hr _ _ o1, Elems.stay o2 hst⟩
            c5 := by rw [near_cell (by decide), near_cell (by decide)]; exact hr _ _ c5
            fz := fun j => by rw [World.frozen?_setCell, World.frozen?_setCell, World.frozen?_of_block (hk rb hlt hrn)]; exact fz j
            good := fun s2 hs2 => ?_ }, ht⟩
  · by_cases e : v'.ownBlock = some k
    · exact withB_own e
    · rw [withB_no e] at hm; exact withB_of (h.md k hm)
  · rw [hs5] at hk'
    rw [withB_no (fun e => by have := (row_in hown e).2; omega)]
    exact h.old k (by omega)
  · cases hs2
    exact { cl := ⟨vl, by rw [near_cell (by decide), near_cell (by decide)]; exact hr _ _ l1, Elems.stay l2 hst⟩
            c2 := ⟨a', by rw [near_cell (by decide), near_cell (by decide)]; exact hr _ _ a1, e1.trans a2, a3⟩
            c3 := ⟨v', by rw [near_cell (by decide)]; exact css (hr _ _ hv), row_at hown (fun g hg => (Below.heap_setCell _ _ _ g (fun e => by have := (row_in hown hg).1; simp only at e; omega)).trans (Below.heap_setCell w5 _ _ g (fun e => by have := (row_in hown hg).1; simp only at e; omega))), fun k e => withB_own e⟩
            c4 := css (by rw [near_cell (by decide)]; exact hr _ _ c4), nice := hn, nou := hu }
end
theorem infoNmD : (Tryz.prog.info? 90).map (fun i => (i.zero, i.size, i.bytes)) = some (some (.agg #[.string ⟨#[]⟩, .int .i64 0]), 2, 24) := by kernel_rfl
/-- What variable leaves. -/
def VPost (D M : Nat → Bool) (w : World) (rb : Nat) (xs : List O) (L : List TokP) (n : Nat) (s' : RS) (e : Ending) (w' : World) : Prop :=
  ∃ D' M', e = .returned (.agg #[.int .i64 0, .int .i64 (n : Int), .string ⟨#[]⟩, .slice none 0 0]) ∧ Sd D' M' w' rb xs L (some s') ∧ Turn D M D' M' w w'
set_option maxHeartbeats 4000000 in
/-- A name that is met again. -/
theorem dvar_hit {D M : Nat → Bool} {w : World} {rb : Nat} {xs : List O} {L : List TokP} {s : RS} (h : Sd D M w rb xs L (some s)) (name : List UInt8) (hnu : name ≠ [95]) {k : Nat} {x : NmP} (hx : s.names[k]? = some x) (hxn : (x.1 == name) = true) (hno : ∀ (j : Nat) (y : NmP), j < k → s.names[j]? = some y → (y.1 == name) = false) :
    Calls Tryz.prog 159 #[.pointer (some ⟨rb, 0, none⟩), .string ⟨name.toArray⟩] w (VPost D M w rb xs L x.2 s) := by
  obtain ⟨w1, hw1, hb1, hz1, hx1⟩ := box_new w #[.int .i64 0, .int .i64 0, .string ⟨#[]⟩, .slice none 0 0] 66
  obtain ⟨r0, r1, r2, r3, rf⟩ := hx1.four
  have H1 := Lib.hid (h.box hb1 (Nat.le_refl _) hx1.lt)
  have HB := Lib.hid (h.out (Nat.le_refl _))
  have HMD := Lib.hid h.md
  have HOD := Lib.hid h.old
  have HT := Lib.hid (Turn.below (D := D) (M := M) hb1)
  obtain ⟨_, _, vn, _, _, _, _, p3, p4, p5, pf, _, _, pn, _⟩ := H1.out.parts
  have hnm : Nms w1 vn s.names := Elems.owned nmCells_len pn
  obtain ⟨a, c, e, l1, l2, _⟩ := (show Nms w1 vn s.names from hnm)
  subst e
  obtain ⟨n, hn⟩ : ∃ n, s.names.length = n := ⟨_, rfl⟩
  have hkn : k < n := by rw [← hn]; exact (List.getElem?_eq_some_iff.1 hx).1
  rw [hn] at p3 l1 hnm
  have HN := Lib.hid hnm
  have HNO := Lib.hid hno
  have HX := Lib.hid hx
  have HLEN := Lib.hid hn
  unfold maxLen at l2
  have hu1 : (name != [95]) = true := by simpa using hnu
  have hu2 : (name == [95]) = false := beq_false_of_ne hnu
  clear h hx hno hn pn hnm hb1 hx1 hz1 hnu
  go_enter Tryz.func159, Tryz.ntmps159
  go_wp2_with fail
  (try rw [hw1])
  clear hw1
  go_loop [5] (fun v => ∃ i : Nat, i ≤ k ∧ v = .int .i64 i) (fun v => n - (intOf v).toNat)
  case atStart => exact ⟨0, Nat.zero_le _, rfl⟩
  case round =>
    obtain ⟨i, hi, rfl⟩ := hrel
    have hin : (i : Int) < n := by omega
    by_cases hik : i < k
    · obtain ⟨y, hy⟩ : ∃ y, s.names[i]? = some y := ⟨_, List.getElem?_eq_getElem (by rw [HLEN.out]; omega)⟩
      obtain ⟨b, off, rfl, q0, q1⟩ := nms_get HN.out hy
      have hne := HNO.out i y hik hy
      clear hy
      go_wp2
      go_round
      case rel => exact ⟨i + 1, by omega, by go_num⟩
      case measure => simp [intOf]; omega
    · have hik2 : i = k := by omega
      subst hik2
      obtain ⟨b, off, rfl, q0, q1⟩ := nms_get HN.out HX.out
      go_wp2
      refine bodyPost_ret (v := .agg #[.int .i64 0, .int .i64 (x.2 : Int), .string ⟨#[]⟩, .slice none 0 0]) (by rw [results_cell1 rfl]; go_simp) rfl ?_
      have hT := HT.out.set4 (b := w.heap.size) (Or.inl (Nat.le_refl _)) (.int .i64 0) (.int .i64 (x.2 : Int)) (.string ⟨#[]⟩) (.slice none 0 0)
      exact ⟨D, M, rfl, (H1.out.put4 (plusB_self D _) HB.out (.int .i64 0) (.int .i64 (x.2 : Int)) (.string ⟨#[]⟩) (.slice none 0 0)).unbox HMD.out (HOD.out.mono hT.size), hT⟩
end Go.Proofs.YtobdhcaoeholhaaGreatDoor
