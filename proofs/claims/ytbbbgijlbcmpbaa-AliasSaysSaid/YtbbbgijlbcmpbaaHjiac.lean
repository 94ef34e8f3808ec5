import Derived.Test.YtbbbgijlbcmpbaaHjiab
import Derived.Test.YtbbbgijlbcmpbaaHjiaa
import Derived.Deep.RegionHeld3
import Derived.Deep.Quiet
import Derived.Deep.LoopGhost
import Derived.Test.YtbbbgijlbcmpbaaRows
import Derived.Deep.QuietTactic
import Derived.Laws.ResultCell
import Derived.Maps.OwnSet
import Derived.Maps.OwnOps
import Derived.Maps.Views
import Derived.Lib.Strings
set_option linter.unusedVariables false
set_option linter.unusedSimpArgs false
/- Drawn together by pull.py from XPrM XPrN XPrB XPrE XPrF XPrG XPrH XPsB. -/
namespace Go.Proofs.Ytbbbgijlbcmpbaa
open Go.RowKit
set_option linter.unusedVariables false

/-- Of the old blocks only those of M have turned; of them the same are not looked at, the same turn. -/
structure Turn (D M D' M' : Nat → Bool) (w w' : World) : Prop where
  size : w.heap.size ≤ w'.heap.size
  dd : ∀ k, k < w.heap.size → D' k = D k
  mm : ∀ k, k < w.heap.size → M' k = M k
  kept : ∀ k, k < w.heap.size → M k = false → w'.heap[k]? = w.heap[k]?
  ot : Below 0 w w'
theorem Turn.refl (D M : Nat → Bool) (w : World) : Turn D M D M w w := ⟨Nat.le_refl _, fun _ _ => rfl, fun _ _ => rfl, fun _ _ _ => rfl, Below.refl _ _⟩
theorem Turn.trans {D M D' M' D2 M2 : Nat → Bool} {a b c : World} (h : Turn D M D' M' a b) (g : Turn D' M' D2 M2 b c) : Turn D M D2 M2 a c :=
  ⟨Nat.le_trans h.size g.size, fun k hk => (g.dd k (Nat.lt_of_lt_of_le hk h.size)).trans (h.dd k hk), fun k hk => (g.mm k (Nat.lt_of_lt_of_le hk h.size)).trans (h.mm k hk),
    fun k hk hm => (g.kept k (Nat.lt_of_lt_of_le hk h.size) ((h.mm k hk).trans hm)).trans (h.kept k hk hm), h.ot.trans g.ot⟩
theorem Turn.below {D M : Nat → Bool} {w w' : World} (h : Below w.heap.size w w') : Turn D M D M w w' := ⟨h.size, fun _ _ => rfl, fun _ _ => rfl, fun k hk _ => h.block k hk, h.mono (Nat.zero_le _)⟩
theorem Turn.stays {D M D' M' : Nat → Bool} {w w' : World} (h : Turn D M D' M' w w') (md : ∀ k, M k = true → D k = true) : Stays (hide D w) (hide D' w') :=
  Stays.hide h.size fun k hk hd => ⟨(h.dd k hk).trans hd, h.kept k hk (by cases hm : M k with | false => rfl | true => rw [md k hm] at hd; cases hd)⟩
/-- As many blocks as lie below n and don't turn are as they were. -/
theorem Turn.bel {D M D' M' : Nat → Bool} {w w' : World} (h : Turn D M D' M' w w') {n : Nat} (hn : n ≤ w.heap.size) (hm : ∀ k, k < n → M k = false) : Below n w w' :=
  ⟨h.ot.os, h.ot.tape, h.ot.output, h.size, fun k hk => h.kept k (Nat.lt_of_lt_of_le hk hn) (hm k hk)⟩
/-- A block of one's own that turns in the end. -/
theorem Turn.set {D M D' M' : Nat → Bool} {w w' : World} (h : Turn D M D' M' w w') (a : Addr) (u : Value) (ha : w.heap.size ≤ a.block ∨ M a.block = true) : Turn D M D' M' w (w'.setCell a u) :=
  ⟨Nat.le_trans h.size (by simp [World.setCell]), h.dd, h.mm, fun k hk hm => (Below.heap_setCell w' a u k (fun e => by
    rcases ha with ha | ha
    · omega
    · rw [e, ha] at hm; cases hm)).trans (h.kept k hk hm), h.ot.setCell (Nat.zero_le _) u⟩
theorem row_at {w w' : World} {B k n : Nat} {e : TypeId} {v : Value} {xs : List Value} (h : w.ownsRow B e k v n xs) (hb : ∀ g, v.ownBlock = some g → w'.heap[g]? = w.heap[g]?) : w'.ownsRow B e k v n xs := by
  obtain ⟨h0, h1⟩ := h
  refine ⟨h0, ?_⟩
  rcases h1 with h1 | ⟨g, cap, cur, rfl, hg, hh, h2⟩
  · exact Or.inl h1
  · exact Or.inr ⟨g, cap, cur, rfl, hg, by rw [hb g rfl]; exact hh, h2⟩
theorem row_in {w : World} {B k n : Nat} {e : TypeId} {v : Value} {xs : List Value} (h : w.ownsRow B e k v n xs) {g : Nat} (hg : v.ownBlock = some g) : B ≤ g ∧ g < w.heap.size := by
  rcases h.2 with ⟨rfl, _⟩ | ⟨g', cap, cur, rfl, h1, h2, _⟩
  · cases hg
  · cases hg
    exact ⟨h1, (Array.getElem?_eq_some_iff.1 h2).1⟩
/-- One more block is not looked at. -/
def plusB (D : Nat → Bool) (b : Nat) : Nat → Bool := fun k => k == b || D k
theorem plusB_self (D : Nat → Bool) (b : Nat) : plusB D b b = true := by simp [plusB]
theorem plusB_of {D : Nat → Bool} {b k : Nat} (h : D k = true) : plusB D b k = true := by simp [plusB, h]
theorem plusB_ne {D : Nat → Bool} {b k : Nat} (h : k ≠ b) : plusB D b k = D k := by simp [plusB, h]
/-- A box of one's own is looked at no more. -/
theorem Turn.box {D M D' M' : Nat → Bool} {w w' : World} {b : Nat} (h : Turn (plusB D b) M D' M' w w') (hb : w.heap.size ≤ b) : Turn D M D' M' w w' :=
  ⟨h.size, fun k hk => (h.dd k hk).trans (plusB_ne (by omega)), h.mm, h.kept, h.ot⟩
theorem Turn.into {D M : Nat → Bool} {w w' : World} (h : Below w.heap.size w w') {b : Nat} (hb : w.heap.size ≤ b) : Turn D M (plusB D b) M w w' :=
  ⟨h.size, fun k hk => plusB_ne (by omega), fun _ _ => rfl, fun k hk _ => h.block k hk, h.mono (Nat.zero_le _)⟩
/-- A box of one's own with these values. -/
structure Box (w : World) (b : Nat) (vs : List Value) : Prop where
  cells : ∀ j u, vs[j]? = some u → w.cell? ⟨b, j, none⟩ = some u
  fz : ∀ j, w.frozen? ⟨b, j, none⟩ = false
  lt : b < w.heap.size
theorem box_new (w : World) (cs : Array Value) (ty : TypeId) : ∃ w1, w.alloc (.cells cs ty) = w1 ∧ Below w.heap.size w w1 ∧ w1.heap.size = w.heap.size + 1 ∧ Box w1 w.heap.size cs.toList := by
  refine ⟨_, rfl, bel1' _ _, by simp, fun j u h => ?_, fun j => by simp, by simp⟩
  have := cell_new w cs ty j u h
  rw [add_plain, Nat.zero_add] at this
  exact this
theorem Box.ext {w w' : World} {b : Nat} {vs : List Value} (h : Box w b vs) (hb : Below w.heap.size w w') : Box w' b vs :=
  ⟨fun j u hu => cell_later hb (h.cells j u hu), fun j => (hb.frozen (p := ⟨b, j, none⟩) h.lt).trans (h.fz j), Nat.lt_of_lt_of_le h.lt hb.size⟩
theorem Box.far {w : World} {b c k : Nat} {u : Value} {vs : List Value} (h : Box w b vs) (hne : b ≠ c) : Box (w.setCell ⟨c, k, none⟩ u) b vs :=
  ⟨fun j v hv => by
    rw [World.cell?_setCell_other]
    · exact h.cells j v hv
    · intro e; injection e with e _ _; exact hne e.symm, fun j => by rw [World.frozen?_setCell]; exact h.fz j, by have := h.lt; simpa [World.setCell] using this⟩
theorem Box.set {w : World} {b k : Nat} {u : Value} {vs : List Value} (h : Box w b vs) (hk : k < vs.length) : Box (w.setCell ⟨b, k, none⟩ u) b (vs.set k u) :=
  ⟨fun j v hv => by
    by_cases hj : j = k
    · subst hj
      rw [List.getElem?_set_self hk] at hv
      injection hv with hv
      subst hv
      exact css (h.cells j _ (List.getElem?_eq_getElem hk))
    · rw [List.getElem?_set_ne (by omega)] at hv
      rw [World.cell?_setCell_other]
      · exact h.cells j v hv
      · intro e; injection e with _ e _; exact hj e.symm, fun j => by rw [World.frozen?_setCell]; exact h.fz j, by have := h.lt; simpa [World.setCell] using this⟩
theorem Box.four {w : World} {b : Nat} {v0 v1 v2 v3 : Value} (h : Box w b [v0, v1, v2, v3]) : w.cell? ⟨b, 0, none⟩ = some v0 ∧ w.cell? ⟨b, 1, none⟩ = some v1 ∧ w.cell? ⟨b, 2, none⟩ = some v2 ∧ w.cell? ⟨b, 3, none⟩ = some v3 ∧ ∀ j, w.frozen? ⟨b, j, none⟩ = false :=
  ⟨h.cells 0 _ rfl, h.cells 1 _ rfl, h.cells 2 _ rfl, h.cells 3 _ rfl, h.fz⟩
abbrev set3 (w : World) (b : Nat) (u0 u1 u2 : Value) : World := ((w.setCell ⟨b, 0, none⟩ u0).setCell ⟨b, 1, none⟩ u1).setCell ⟨b, 2, none⟩ u2
abbrev set4 (w : World) (b : Nat) (u0 u1 u2 u3 : Value) : World := (set3 w b u0 u1 u2).setCell ⟨b, 3, none⟩ u3
theorem Turn.set3 {D M D' M' : Nat → Bool} {w w' : World} (h : Turn D M D' M' w w') {b : Nat} (hb : w.heap.size ≤ b ∨ M b = true) (u0 u1 u2 : Value) : Turn D M D' M' w (Go.Proofs.Ytbbbgijlbcmpbaa.set3 w' b u0 u1 u2) :=
  ((h.set ⟨b, 0, none⟩ u0 hb).set ⟨b, 1, none⟩ u1 hb).set ⟨b, 2, none⟩ u2 hb
theorem Turn.set4 {D M D' M' : Nat → Bool} {w w' : World} (h : Turn D M D' M' w w') {b : Nat} (hb : w.heap.size ≤ b ∨ M b = true) (u0 u1 u2 u3 : Value) : Turn D M D' M' w (Go.Proofs.Ytbbbgijlbcmpbaa.set4 w' b u0 u1 u2 u3) :=
  (h.set3 hb u0 u1 u2).set ⟨b, 3, none⟩ u3 hb

theorem far_cell {w : World} {b j c k : Nat} {u : Value} (hne : b ≠ c) : (w.setCell ⟨c, k, none⟩ u).cell? ⟨b, j, none⟩ = w.cell? ⟨b, j, none⟩ := by
  rw [World.cell?_setCell_other]
  intro e; injection e with e _ _; exact hne e.symm

theorem Below.set3 {B : Nat} {w w' : World} (h : Below B w w') {b : Nat} (hb : B ≤ b) (u0 u1 u2 : Value) : Below B w (Go.Proofs.Ytbbbgijlbcmpbaa.set3 w' b u0 u1 u2) :=
  ((h.setCell (p := ⟨b, 0, none⟩) hb _).setCell (p := ⟨b, 1, none⟩) hb _).setCell (p := ⟨b, 2, none⟩) hb _
theorem Below.set4 {B : Nat} {w w' : World} (h : Below B w w') {b : Nat} (hb : B ≤ b) (u0 u1 u2 u3 : Value) : Below B w (Go.Proofs.Ytbbbgijlbcmpbaa.set4 w' b u0 u1 u2 u3) :=
  (Below.set3 h hb u0 u1 u2).setCell (p := ⟨b, 3, none⟩) hb _

def withB (D : Nat → Bool) (v : Value) : Nat → Bool := fun k => D k || v.ownBlock == some k
theorem withB_of {D : Nat → Bool} {v : Value} {k : Nat} (h : D k = true) : withB D v k = true := by simp [withB, h]
theorem withB_own {D : Nat → Bool} {v : Value} {k : Nat} (h : v.ownBlock = some k) : withB D v k = true := by simp [withB, h]
theorem withB_no {D : Nat → Bool} {v : Value} {k : Nat} (h : v.ownBlock ≠ some k) : withB D v k = D k := by simp [withB, h]
theorem Box.block {w w' : World} {b : Nat} {vs : List Value} (h : Box w b vs) (hb : w'.heap[b]? = w.heap[b]?) (hlt : b < w'.heap.size) : Box w' b vs :=
  ⟨fun j u hu => by rw [World.cell?_of_block hb]; exact h.cells j u hu, fun j => by rw [World.frozen?_of_block hb]; exact h.fz j, hlt⟩
def Okd (D M : Nat → Bool) (w : World) : Prop := (∀ k, M k = true → D k = true) ∧ Old D w
/-- Of the new blocks only those of M are not looked at. -/
def Fin (D M' : Nat → Bool) (n : Nat) : Nat → Bool := fun k => if k < n then D k else M' k
theorem fin_old {D M' : Nat → Bool} {n k : Nat} (h : k < n) : Fin D M' n k = D k := if_pos h
theorem fin_new {D M' : Nat → Bool} {n k : Nat} (h : n ≤ k) : Fin D M' n k = M' k := if_neg (by omega)
theorem fin_less {D M D1 M' : Nat → Bool} {w w' : World} (ht : Turn D M D1 M' w w') (ho : Okd D1 M' w') {k : Nat} (h : D1 k = false) : Fin D M' w.heap.size k = false := by
  by_cases hk : k < w.heap.size
  · rw [fin_old hk, ← ht.dd k hk]; exact h
  · rw [fin_new (by omega)]
    cases hm : M' k with
    | false => rfl
    | true => rw [ho.1 k hm] at h; cases h
theorem TmV.fin {D M D1 M' : Nat → Bool} {w w' : World} {t : Tm} {v : Value} (h : TmV (hide D1 w') t v) (ht : Turn D M D1 M' w w') (ho : Okd D1 M' w') : TmV (hide (Fin D M' w.heap.size) w') t v :=
  TmV.stay (Stays.less fun k hk => fin_less ht ho hk) t v h
/-- A row of the call's own in the making: it is not looked at. -/
def Row (D M : Nat → Bool) (w : World) (base : Nat) (v : Value) (ps : List TmP) : Prop :=
  RowP w base 31 v ps ∧ (∀ g, v.ownBlock = some g → D g = true ∧ M g = false) ∧ ∀ p ∈ ps, TmV (hide D w) p.1 (pVal p)
theorem Row.none (D M : Nat → Bool) (w : World) (base : Nat) : Row D M w base (.slice none 0 0) [] := ⟨World.ownsRow_nil _ _ _ _, fun g hg => (by cases hg), fun p hp => (by cases hp)⟩
theorem Row.turn {D M D' M' : Nat → Bool} {w w' : World} {base : Nat} {v : Value} {ps : List TmP} (h : Row D M w base v ps) (ht : Turn D M D' M' w w') (md : ∀ k, M k = true → D k = true) : Row D' M' w' base v ps := by
  obtain ⟨h1, h2, h3⟩ := h
  refine ⟨row_at h1 (fun g hg => ht.kept g (row_in h1 hg).2 (h2 g hg).2), fun g hg => ?_, fun p hp => TmV.stay (ht.stays md) _ _ (h3 p hp)⟩
  have hlt := (row_in h1 hg).2
  rw [ht.dd g hlt, ht.mm g hlt]
  exact h2 g hg
theorem grown_stays {D : Nat → Bool} {W w' : World} {v v' : Value} (hg : W.grownBy w' v.ownBlock) (hD : ∀ g, v.ownBlock = some g → D g = true) (hv : v'.ownBlock = v.ownBlock ∨ v'.ownBlock = some W.heap.size) : Stays (hide D W) (hide (withB D v') w') :=
  Stays.hide hg.size fun k hk hd => ⟨by
    rw [withB_no]
    · exact hd
    · intro e
      rcases hv with hv | hv
      · rw [hD k (hv.symm.trans e)] at hd; cases hd
      · rw [hv] at e; injection e with e; omega, hg.block k hk (fun e => by rw [hD k e.symm] at hd; cases hd)⟩
theorem Turn.grown {D M D1 M1 : Nat → Bool} {w W w' : World} {v v' : Value} (ht : Turn D M D1 M1 w W) (hg : W.grownBy w' v.ownBlock) (hb : ∀ g, v.ownBlock = some g → w.heap.size ≤ g) (hv : v'.ownBlock = v.ownBlock ∨ v'.ownBlock = some W.heap.size) : Turn D M (withB D1 v') M1 w w' :=
  ⟨Nat.le_trans ht.size hg.size, fun k hk => by
    rw [withB_no]
    · exact ht.dd k hk
    · intro e
      rcases hv with hv | hv
      · have := hb k (hv.symm.trans e); omega
      · rw [hv] at e; injection e with e; have := ht.size; omega, ht.mm, fun k hk hm => (hg.block k (Nat.lt_of_lt_of_le hk ht.size) (fun e => by have := hb k e.symm; omega)).trans (ht.kept k hk hm), ht.ot.grown hg (Nat.zero_le _) (fun _ _ => Nat.zero_le _)⟩
/-- One more. -/
theorem Row.more {D M : Nat → Bool} {W w' : World} {base : Nat} {v v' : Value} {ps : List TmP} {p : TmP} (h : Row D M W base v ps) (hp : TmV (hide D W) p.1 (pVal p)) (ho : Okd D M W) (hg : W.grownBy w' v.ownBlock) (hv : v'.ownBlock = v.ownBlock ∨ v'.ownBlock = some W.heap.size)
    (hr : w'.ownsRow base 31 4 v' (ps.length + 1) (ps.flatMap pCells ++ pCells p)) : Row (withB D v') M w' base v' (ps ++ [p]) := by
  obtain ⟨h1, h2, h3⟩ := h
  have hs := grown_stays hg (fun g e => (h2 g e).1) hv
  refine ⟨?_, fun g hg' => ⟨withB_own hg', ?_⟩, fun q hq => ?_⟩
  · unfold RowP
    rw [List.length_append, List.flatMap_append, List.length_singleton]
    simpa using hr
  · rcases hv with hv | hv
    · exact (h2 g (hv.symm.trans hg')).2
    · rw [hv] at hg'
      injection hg' with e
      subst e
      cases hm : M W.heap.size with
      | false => rfl
      | true => have := ho.1 _ hm; rw [ho.2 _ (Nat.le_refl _)] at this; cases this
  · rcases List.mem_append.1 hq with hq | hq
    · exact TmV.stay hs _ _ (h3 q hq)
    · simp at hq
      subst hq
      exact TmV.stay hs _ _ hp
/-- The row is looked at again. -/
theorem Row.fin {D M D1 M' : Nat → Bool} {w w' : World} {v : Value} {ps : List TmP} (h : Row D1 M' w' w.heap.size v ps) (ht : Turn D M D1 M' w w') (ho : Okd D1 M' w') (hl : ps.length ≤ 100000) : Tms (hide (Fin D M' w.heap.size) w') v (ps.map (·.1)) := by
  obtain ⟨h1, h2, h3⟩ := h
  have hh : RowP (hide (Fin D M' w.heap.size) w') w.heap.size 31 v ps := by
    refine row_at h1 (fun g hg => hide_get _ _ _ ?_)
    rw [fin_new (row_in h1 hg).1]
    exact (h2 g hg).2
  exact hh.terms (fun p hp => TmV.fin (h3 p hp) ht ho) (by unfold BIG; omega)

theorem four_of {w : World} {t : Tm} {v : Value} (h : TmV w t v) : ∃ k n s a m c, v = .agg #[.int .i64 k, .int .i64 n, .string s, .slice a m c] ∧ t.k = k ∧ t.n = n ∧ t.s = s ∧ v = pVal (t, .slice a m c) := by
  cases t with
  | mk k n s ts =>
    obtain ⟨u, rfl, _, _, _, hu⟩ := tmV_iff.1 h
    obtain ⟨a, c, rfl, _⟩ := hu.len
    exact ⟨k, n, s, a, _, c, rfl, rfl, rfl, rfl, rfl⟩
theorem TmV.put4 {D : Nat → Bool} {w : World} {t : Tm} {v : Value} (h : TmV (hide D w) t v) {b : Nat} (hd : D b = true) (u0 u1 u2 u3 : Value) : TmV (hide D (set4 w b u0 u1 u2 u3)) t v :=
  TmV.stay ((((Stays.set ⟨b, 0, none⟩ u0 hd).trans (Stays.set ⟨b, 1, none⟩ u1 hd)).trans (Stays.set ⟨b, 2, none⟩ u2 hd)).trans (Stays.set ⟨b, 3, none⟩ u3 hd)) t v h
theorem Okd.later {D M : Nat → Bool} {w w' : World} (h : Okd D M w) (hb : w.heap.size ≤ w'.heap.size) : Okd D M w' := ⟨h.1, h.2.mono hb⟩
theorem Okd.put4 {D M : Nat → Bool} {w : World} (h : Okd D M w) (b : Nat) (u0 u1 u2 u3 : Value) : Okd D M (set4 w b u0 u1 u2 u3) := h.later (by simp [World.setCell])
theorem Okd.box {D M : Nat → Bool} {w w' : World} (h : Okd D M w) (hb : w.heap.size ≤ w'.heap.size) {b : Nat} (hlt : b < w'.heap.size) : Okd (plusB D b) M w' :=
  ⟨fun k hk => plusB_of (h.1 k hk), fun k hk => (plusB_ne (by omega)).trans (h.2 k (Nat.le_trans hb hk))⟩
/-- A row of the call's own in the making: it is not looked at. -/
def RowY (D M : Nat → Bool) (w : World) (base : Nat) (v : Value) (ps : List TmP) : Prop :=
  RowP w base 48 v ps ∧ (∀ g, v.ownBlock = some g → D g = true ∧ M g = false) ∧ ∀ p ∈ ps, TmV (hide D w) p.1 (pVal p)
theorem RowY.none (D M : Nat → Bool) (w : World) (base : Nat) : RowY D M w base (.slice none 0 0) [] := ⟨World.ownsRow_nil _ _ _ _, fun g hg => (by cases hg), fun p hp => (by cases hp)⟩
theorem RowY.turn {D M D' M' : Nat → Bool} {w w' : World} {base : Nat} {v : Value} {ps : List TmP} (h : RowY D M w base v ps) (ht : Turn D M D' M' w w') (md : ∀ k, M k = true → D k = true) : RowY D' M' w' base v ps := by
  obtain ⟨h1, h2, h3⟩ := h
  refine ⟨row_at h1 (fun g hg => ht.kept g (row_in h1 hg).2 (h2 g hg).2), fun g hg => ?_, fun p hp => TmV.stay (ht.stays md) _ _ (h3 p hp)⟩
  have hlt := (row_in h1 hg).2
  rw [ht.dd g hlt, ht.mm g hlt]
  exact h2 g hg
/-- One more. -/
theorem RowY.more {D M : Nat → Bool} {W w' : World} {base : Nat} {v v' : Value} {ps : List TmP} {p : TmP} (h : RowY D M W base v ps) (hp : TmV (hide D W) p.1 (pVal p)) (ho : Okd D M W) (hg : W.grownBy w' v.ownBlock) (hv : v'.ownBlock = v.ownBlock ∨ v'.ownBlock = some W.heap.size)
    (hr : w'.ownsRow base 48 4 v' (ps.length + 1) (ps.flatMap pCells ++ pCells p)) : RowY (withB D v') M w' base v' (ps ++ [p]) := by
  obtain ⟨h1, h2, h3⟩ := h
  have hs := grown_stays hg (fun g e => (h2 g e).1) hv
  refine ⟨?_, fun g hg' => ⟨withB_own hg', ?_⟩, fun q hq => ?_⟩
  · unfold RowP
    rw [List.length_append, List.flatMap_append, List.length_singleton]
    simpa using hr
  · rcases hv with hv | hv
    · exact (h2 g (hv.symm.trans hg')).2
    · rw [hv] at hg'
      injection hg' with e
      subst e
      cases hm : M W.heap.size with
      | false => rfl
      | true => have := ho.1 _ hm; rw [ho.2 _ (Nat.le_refl _)] at this; cases this
  · rcases List.mem_append.1 hq with hq | hq
    · exact TmV.stay hs _ _ (h3 q hq)
    · simp at hq
      subst hq
      exact TmV.stay hs _ _ hp
/-- The row is looked at again. -/
theorem RowY.fin {D M D1 M' : Nat → Bool} {w w' : World} {v : Value} {ps : List TmP} {base : Nat} (hbase : w.heap.size ≤ base) (h : RowY D1 M' w' base v ps) (ht : Turn D M D1 M' w w') (ho : Okd D1 M' w') (hl : ps.length * 56 ≤ BIG) : Tms (hide (Fin D M' w.heap.size) w') v (ps.map (·.1)) := by
  obtain ⟨h1, h2, h3⟩ := h
  have hh : RowP (hide (Fin D M' w.heap.size) w') base 48 v ps := by
    refine row_at h1 (fun g hg => hide_get _ _ _ ?_)
    rw [fin_new (Nat.le_trans hbase (row_in h1 hg).1)]
    exact (h2 g hg).2
  exact hh.terms (fun p hp => TmV.fin (h3 p hp) ht ho) hl
theorem infoTermR : (Try.prog.info? 48).map (fun i => (i.zero, i.size, i.bytes)) = some (some (.agg #[.int .i64 0, .int .i64 0, .string ⟨#[]⟩, .slice none 0 0]), 4, 56) := by kernel_rfl
abbrev noM : Nat → Bool := fun _ => false
theorem fin_no {D : Nat → Bool} {w : World} (h : Old D w) : Fin D noM w.heap.size = D := by
  funext k
  by_cases hk : k < w.heap.size
  · exact fin_old hk
  · rw [fin_new (by omega)]
    exact (h k (by omega)).symm
theorem okd_no {D : Nat → Bool} {w : World} (h : Old D w) : Okd D noM w := And.intro (fun k hk => absurd hk (by simp)) h
theorem take_next {α : Type} {l : List α} {k : Nat} {x : α} (h : l[k]? = some x) : l.take (k + 1) = l.take k ++ [x] := by rw [List.take_add_one, h]; rfl
theorem RowY.put {D M : Nat → Bool} {w : World} {base : Nat} {v : Value} {ps : List TmP} (h : RowY D M w base v ps) (a : Addr) (u : Value) (hd : D a.block = true) (hne : ∀ g, v.ownBlock = some g → g ≠ a.block) : RowY D M (w.setCell a u) base v ps :=
  ⟨row_at h.1 (fun g hg => Below.heap_setCell w a u g (hne g hg)), h.2.1, fun p hp => TmV.stay (Stays.set a u hd) _ _ (h.2.2 p hp)⟩
theorem far_one {w : World} {b j c k : Nat} {v u : Value} (h : w.cell? ⟨b, j, none⟩ = some v) (hne : b ≠ c) : (w.setCell ⟨c, k, none⟩ u).cell? ⟨b, j, none⟩ = some v := by rw [far_cell hne]; exact h
end Go.Proofs.Ytbbbgijlbcmpbaa
/- Package bind: Walk. -/
namespace Go.Proofs.Ytbbbgijlbcmpbaa
open Go.RowKit
set_option linter.unusedVariables false

def hgt (r : Int → Nat) (y : Tm) : Nat := if y.k = 0 then r y.n + 1 else 0
section
variable {V w : World} {F : List Nat} {p : Value} {N : Nat} {R : List (Int × Tm)}
end
end Go.Proofs.Ytbbbgijlbcmpbaa
/- Rows of numbers; a term's variables' numbers, one behind the other. -/
namespace Go.Proofs.Ytbbbgijlbcmpbaa
open Go.RowKit
set_option linter.unusedVariables false

/-- A row of numbers of 64 bits. -/
def Nums (w : World) (v : Value) (l : List Int) : Prop := Elems 1 (fun n => [Value.int .i64 n]) w v l
theorem Nums.ext {w w' : World} {v : Value} {l : List Int} (h : Nums w v l) (hb : Below w.heap.size w w') : Nums w' v l := Elems.ext h hb
theorem Nums.nil (w : World) : Nums w (.slice none 0 0) [] := ⟨none, 0, rfl, Nat.le_refl _, Nat.zero_le _, Or.inl rfl⟩
theorem Nums.get {w : World} {a : Option Addr} {m c : Nat} {l : List Int} (h : Nums w (.slice a m c) l) {i : Nat} {x : Int} (hx : l[i]? = some x) : ∃ b off, a = some ⟨b, off, none⟩ ∧ b < w.heap.size ∧ w.cell? ⟨b, off + i, none⟩ = some (.int .i64 x) := by
  obtain ⟨a', c', e, h1, h2, h3⟩ := h
  cases e
  rcases h3 with rfl | ⟨b, off, rfl, hb, hc⟩
  · simp at hx
  · exact ⟨b, off, rfl, hb, by have := hc i x hx 0 _ rfl; simpa using this⟩
theorem Nums.len {w : World} {v : Value} {l : List Int} (h : Nums w v l) : ∃ a c, v = .slice a l.length c ∧ l.length ≤ c ∧ c ≤ maxLen := by
  obtain ⟨a, c, h1, h2, h3, _⟩ := h
  exact ⟨a, c, h1, h2, h3⟩
abbrev numCells (n : Int) : List Value := [Value.int .i64 n]
/-- A row of numbers of the call's own. -/
def RowN (w : World) (base : Nat) (v : Value) (l : List Int) : Prop := w.ownsRow base 2 1 v l.length (l.flatMap numCells)
theorem RowN.nums {w : World} {base : Nat} {v : Value} {l : List Int} (h : RowN w base v l) : Nums w v l := Elems.owned (cells := numCells) (fun _ => rfl) h
theorem RowN.nil (w : World) (base : Nat) : RowN w base (.slice none 0 0) [] := World.ownsRow_nil _ _ _ _
mutual
theorem vars_len : ∀ (t : Tm) (l : List Int), (varsT t l).length ≤ l.length + sizeN t ∧ l.length ≤ (varsT t l).length
  | .mk k n s ts, l => by
    rw [varsT, sizeN]
    by_cases hk : k = 0
    · rw [if_pos hk]
      split
      · omega
      · rw [List.length_append, List.length_singleton]; omega
    · rw [if_neg hk]
      have := varss_len ts l
      omega
theorem varss_len : ∀ (ts : List Tm) (l : List Int), (varsL ts l).length ≤ l.length + sizesN ts ∧ l.length ≤ (varsL ts l).length
  | [], l => by rw [varsL, sizesN]; omega
  | x :: r, l => by
    rw [varsL, sizesN]
    have h1 := vars_len x l
    have h2 := varss_len r (varsT x l)
    omega
end
theorem varss_step {ts : List Tm} {i : Nat} {y : Tm} (h : ts[i]? = some y) (l : List Int) : varsL (ts.take (i + 1)) l = varsT y (varsL (ts.take i) l) := by
  induction ts generalizing i l with
  | nil => simp at h
  | cons x r ih =>
    cases i with
    | zero => simp at h; subst h; simp [varsL]
    | succ i =>
      simp only [List.take_succ_cons, varsL]
      exact ih (by simpa using h) _
/-- Of what was there nothing has turned but one block. -/
def Kept (w w' : World) (row : Option Nat) : Prop := w.heap.size ≤ w'.heap.size ∧ ∀ k, k < w.heap.size → row ≠ some k → w'.heap[k]? = w.heap[k]?
theorem Kept.of {w w' : World} (h : Below w.heap.size w w') (row : Option Nat) : Kept w w' row := ⟨h.size, fun k hk _ => h.block k hk⟩
theorem Kept.cell {w w' : World} {row : Option Nat} (h : Kept w w' row) {b j : Nat} {u : Value} (hne : row ≠ some b) (hc : w.cell? ⟨b, j, none⟩ = some u) : w'.cell? ⟨b, j, none⟩ = some u := by
  have hb : b < w.heap.size := World.block_lt_of_cell? _ _ hc
  rw [World.cell?_of_block (w := w) (h.2 b hb hne)]
  exact hc
theorem Kept.trans {w w1 w2 : World} {r1 r2 : Option Nat} (h1 : Kept w w1 r1) (h2 : Kept w1 w2 r2) (hr : r2 = r1 ∨ ∀ k, r2 = some k → w.heap.size ≤ k) : Kept w w2 r1 :=
  ⟨Nat.le_trans h1.1 h2.1, fun k hk hne => by
    rw [h2.2 k (Nat.lt_of_lt_of_le hk h1.1) (fun e => by
      rcases hr with hr | hr
      · exact hne (by rw [← hr]; exact e)
      · have := hr k e; omega), h1.2 k hk hne]⟩
theorem infoI64 : (Try.prog.info? 2).map (fun i => (i.zero, i.size, i.bytes)) = some (some (.int .i64 0), 1, 8) := by kernel_rfl
end Go.Proofs.Ytbbbgijlbcmpbaa
/- Package term: Vars. -/
namespace Go.Proofs.Ytbbbgijlbcmpbaa
open Go.RowKit
set_option linter.unusedVariables false

theorem cell_one_new' {w : World} (o : Obj) (v : Value) (ty : TypeId) (j : Nat) (u : Value) (h : [v][j]? = some u) : ((w.alloc o).alloc (.cells #[v] ty)).cell? ((⟨w.heap.size + 1, 0, none⟩ : Addr).add j) = some u := by
  have h1 := cell_new (w.alloc o) #[v] ty j u h
  rwa [show (w.alloc o).heap.size = w.heap.size + 1 by simp] at h1
set_option maxHeartbeats 2000000 in
theorem index_at {w : World} {v : Value} {l : List Int} (h : Nums w v l) (n : Int) : Calls Try.prog 110 #[v, .int .i64 n] w fun e w' => (∃ z : Int, e = .returned (.int .i64 z) ∧ (0 ≤ z ↔ n ∈ l)) ∧ w = w' := by
  obtain ⟨a, c, rfl, h1, h2⟩ := h.len
  unfold maxLen at h2
  obtain ⟨m, hm⟩ : ∃ m, l.length = m := ⟨_, rfl⟩
  have HU := Lib.hid h
  have HM := Lib.hid hm
  rw [hm] at h1 h HU ⊢
  clear h hm
  go_enter Try.func110, Try.ntmps110
  go_wp2_with fail
  go_loop [8] (fun v => ∃ i : Nat, i ≤ m ∧ v = .int .i64 i ∧ Hid (¬ n ∈ l.take i)) (fun v => m - (intOf v).toNat)
  case atStart => exact ⟨0, Nat.zero_le _, rfl, Lib.hid (by simp)⟩
  case round =>
    obtain ⟨i, hi, rfl, HT⟩ := hrel
    by_cases hil : i < m
    · obtain ⟨x, hx⟩ : ∃ x, l[i]? = some x := ⟨_, List.getElem?_eq_getElem (by rw [HM.out]; exact hil)⟩
      obtain ⟨b, off, rfl, _, c0⟩ := HU.out.get hx
      by_cases hxn : n = x
      · subst hxn
        have HMEM := Lib.hid (List.mem_of_getElem? hx)
        clear hx HT
        go_wp2
        go_ret
        exact ⟨⟨i, rfl, fun _ => HMEM.out, fun _ => by omega⟩, rfl⟩
      · have HT2 : Hid (¬ n ∈ l.take (i + 1)) := Lib.hid (by
          rw [List.take_add_one, hx]
          intro hmem
          rcases List.mem_append.1 hmem with hh | hh
          · exact HT.out hh
          · simp at hh
            exact hxn hh)
        have hxn' : (n == x) = false := beq_false_of_ne hxn
        clear hx HT
        go_wp2
        go_round
        case rel => exact ⟨i + 1, by omega, by go_num, HT2⟩
        case measure => simp [intOf]; omega
    · have HNO : Hid (¬ n ∈ l) := Lib.hid (by
        have := HT.out
        rwa [List.take_of_length_le (by rw [HM.out]; omega)] at this)
      clear HT
      go_wp2
      go_ret
      exact ⟨⟨-1, rfl, fun h => by omega, fun h => absurd h HNO.out⟩, rfl⟩
theorem contains_at {w : World} {v : Value} {l : List Int} (h : Nums w v l) (n : Int) : Calls Try.prog 102 #[v, .int .i64 n] w fun e w' => e = .returned (.bool (l.contains n)) ∧ w = w' := by
  have I := index_at h n
  by_cases hm : n ∈ l
  · have hr : l.contains n = true := by simpa using hm
    rw [hr]
    have HM := Lib.hid hm
    clear hm hr h
    go_enter Try.func102, Try.ntmps102
    go_wp2_with fail
    go_fit (I)
    rintro e w' ⟨⟨z, rfl, hz⟩, rfl⟩
    have hz0 : 0 ≤ z := hz.2 HM.out
    clear hz
    go_wp2
    go_ret
    exact ⟨rfl, rfl⟩
  · have hr : l.contains n = false := by simpa using hm
    rw [hr]
    have HM := Lib.hid hm
    clear hm hr h
    go_enter Try.func102, Try.ntmps102
    go_wp2_with fail
    go_fit (I)
    rintro e w' ⟨⟨z, rfl, hz⟩, rfl⟩
    have hz0 : z < 0 := by
      have : ¬ 0 ≤ z := fun hh => HM.out (hz.1 hh)
      omega
    clear hz
    go_wp2
    go_ret
    exact ⟨ret_bool (decide_eq_false (by omega)), rfl⟩
/-- The box at its place, when a row behind it has grown. -/
theorem box_grown {w w4 : World} {B : Nat} {lv : Value} {k n : Int} {s : ByteArray} {u : Value} {o : Obj} (h : ∀ q, lv.ownBlock = some q → q < w.heap.size) (hg : ((w.alloc (box4 k n s u 31)).alloc o).grownBy w4 lv.ownBlock) :
    w4.cell? ⟨w.heap.size, 3, none⟩ = some u := by
  have h0 := hg.block w.heap.size (by simp; omega) (fun e => by have := h _ e.symm; omega)
  rw [World.cell?_of_block (w := (w.alloc (box4 k n s u 31)).alloc o) h0]
  simp
set_option maxHeartbeats 4000000 in
set_option maxRecDepth 100000 in
theorem addVars_var {W w : World} {n : Int} {s : ByteArray} {a lv : Option Addr} {lw : Value} {c : Nat} {l : List Int} (hb : Below W.heap.size W w) (hr : RowN w W.heap.size lw l) (hl : l.length ≤ 1000000) (hc : c ≤ maxLen) :
    Calls Try.prog 78 #[lw, .agg #[.int .i64 0, .int .i64 n, .string s, .slice a 0 c]] w fun e w' => ∃ r, e = .returned r ∧ RowN w' W.heap.size r (if l.contains n then l else l ++ [n]) ∧ Below W.heap.size W w' := by
  have hbb := bel1' w (box4 0 n s (.slice a 0 c) 31)
  have hnums := (show RowN (w.alloc (box4 0 n s (.slice a 0 c) 31)) W.heap.size lw l from row_ext hr hbb).nums
  have C := contains_at hnums n
  obtain ⟨i0, hi0, hz0, hs0, hb0⟩ := info_parts infoI64
  have hlt := hr.lt
  obtain ⟨m, hm⟩ : ∃ m, l.length = m := ⟨_, rfl⟩
  have HBW := Lib.hid hb
  have hWs : W.heap.size ≤ w.heap.size := hb.size
  have HROW := Lib.hid hr
  have HBB := Lib.hid hbb
  cases hcn : l.contains n
  · rw [hcn] at C
    have HR2 : Hid (w.ownsRow W.heap.size 2 1 lw m (l.flatMap numCells)) := Lib.hid (by have := hr; unfold RowN at this; rw [hm] at this; exact this)
    have HM := Lib.hid hm
    have HLT := Lib.hid hlt
    rw [hm] at hl
    obtain ⟨al, cl, rfl, h1⟩ := row_formk HR2.out
    clear hr hb hnums hm hlt hbb hcn
    go_enter Try.func78, Try.ntmps78
    (go_wp2_with fail; go_fit (C); rintro e w1 ⟨rfl, rfl⟩)
    go_wp2_with (at_builtin; refine wpList_append_k rfl _ _ 51 rfl W.heap.size 2 i0 (.int .i64 0) 1 8 Try.underlying51 hi0 hz0 hs0 (by decide) hb0 rfl (.slice al m cl) m (l.flatMap numCells) rfl ((HR2.out.alloc _).alloc _) _ 1 1 [.int .i64 n] rfl rfl (Or.inr ⟨⟨w.heap.size + 1, 0, none⟩, rfl, fun j u hu => by have := cell_one_new' (w := w) (box4 0 n s (.slice a 0 c) 31) (.int .i64 n) 2 j u hu; exact this⟩) (fun u hu => by simp at hu; subst hu; rfl) (by unfold maxLen; omega) (by omega) (by simp; omega) (m + 1) ((l ++ [n]).flatMap numCells) rfl (by rw [List.flatMap_append]; rfl) ?_; intro a4 c4 w4 hown4 hgrow4 hat4; have e3 := box_grown (B := 0) (fun q hq => (HLT.out q hq).2) hgrow4)
    have HFIN : Hid (RowN w4 W.heap.size (.slice a4 (m + 1) c4) (l ++ [n]) ∧ Below W.heap.size W w4) := Lib.hid ⟨by
      unfold RowN
      rw [List.length_append, HM.out]
      exact hown4, ((Ext.trans' HBW.out HBB.out).alloc (by simp; omega) _).grown hgrow4 (by simp; omega) (fun q hq => (HLT.out q hq).1)⟩
    clear hown4 hgrow4 hat4
    go_loop [0, 25] (fun z v => z = .slice a4 (m + 1) c4 ∧ v = .int .i64 0) (fun _ _ => 0)
    case atStart => exact ⟨rfl, rfl⟩
    case round =>
      obtain ⟨rfl, rfl⟩ := hrel
      go_wp2
      go_ret
      exact ⟨_, rfl, HFIN.out⟩
  · rw [hcn] at C
    clear hr hb hnums hm hlt hbb hcn
    go_enter Try.func78, Try.ntmps78
    (go_wp2_with fail; go_fit (C); rintro e w1 ⟨rfl, rfl⟩)
    go_wp2_with fail
    go_loop [0, 25] (fun z v => z = lw ∧ v = .int .i64 0) (fun _ _ => 0)
    case atStart => exact ⟨rfl, rfl⟩
    case round =>
      obtain ⟨rfl, rfl⟩ := hrel
      go_wp2
      go_ret
      exact ⟨_, rfl, row_ext HROW.out HBB.out, Ext.trans' HBW.out HBB.out⟩
set_option maxHeartbeats 4000000 in
set_option maxRecDepth 100000 in
theorem addVars_at : ∀ (N : Nat) (x : Tm), sizeN x ≤ N → formedT x = true → ∀ (W w : World) (v lv : Value) (l : List Int), TmV W x v → Below W.heap.size W w → RowN w W.heap.size lv l → l.length + sizeN x ≤ 1000000 →
    Calls Try.prog 78 #[lv, v] w fun e w' => ∃ r, e = .returned r ∧ RowN w' W.heap.size r (varsT x l) ∧ Below W.heap.size W w'
  | 0, x, h, hf, W, w, v, lv, l, hv, hb, hr, hl => by have := size_pos x; omega
  | N + 1, .mk k n s ts, h, hf, W, w, v, lv, l, hv, hb, hr, hl => by
    obtain ⟨u, rfl, hs, hki, hni, hu⟩ := tmV_iff.1 hv
    obtain ⟨a, c, rfl, h1, h2, h3⟩ := hu.len
    rw [formedT, Bool.and_eq_true] at hf
    by_cases hk : k = 0
    · have e : varsT (.mk k n s ts) l = if l.contains n then l else l ++ [n] := by rw [varsT, if_pos hk]
      rw [e]
      subst hk
      have hts : ts.length = 0 := by
        have := hf.1
        unfold plainT at this
        rw [if_pos rfl] at this
        simp at this
        simp [this.2]
      rw [hts]
      have := size_pos (.mk 0 n s ts)
      exact addVars_var (lv := none) hb hr (by omega) h2
    have e : varsT (.mk k n s ts) l = varsL ts l := by rw [varsT, if_neg hk]
    rw [e]
    have hk' : (k == 0) = false := beq_false_of_ne hk
    unfold BIG at h3
    obtain ⟨m, hm⟩ : ∃ m, ts.length = m := ⟨_, rfl⟩
    have IH := Lib.hid (fun (y : Tm) (hy : y ∈ ts) => addVars_at N y (mem_size h hy) (formed_mem hf.2 hy) W)
    have HL := Lib.hid (show l.length + sizesN ts ≤ 1000000 by rw [sizeN] at hl; omega)
    have HU := Lib.hid hu
    have HM := Lib.hid hm
    rw [hm] at h1 h3 hu HU ⊢
    have HBW := Lib.hid hb
    have HROW := Lib.hid hr
    obtain ⟨R, hR⟩ : ∃ R, varsL ts l = R := ⟨_, rfl⟩
    rw [hR]
    have HR := Lib.hid hR
    clear e hk hv hb hr hl hu hm hR h hf
    go_enter Try.func78, Try.ntmps78
    go_wp2_with fail
    go_loopw [0, 25] (fun z v wr => ∃ i : Nat, i ≤ m ∧ v = .int .i64 i ∧ Hid (RowN wr W.heap.size z (varsL (ts.take i) l)) ∧ Hid (Below W.heap.size W wr)) (fun _ v _ => m - (intOf v).toNat)
    case atStart => exact ⟨0, Nat.zero_le _, rfl, Lib.hid (by rw [List.take_zero, varsL]; exact row_ext HROW.out (bel1' _ _)), Lib.hid (Ext.trans' HBW.out (bel1' _ _))⟩
    case round =>
      obtain ⟨i, hi, rfl, HZ, HB⟩ := hrel
      by_cases hil : i < m
      · obtain ⟨y, hy⟩ : ∃ y, ts[i]? = some y := ⟨_, List.getElem?_eq_getElem (by rw [HM.out]; exact hil)⟩
        obtain ⟨b, off, k1, n1, s1, u1, rfl, hbb, _, _, _, c0, c1, c2, c3, htu, ht⟩ := HU.out.get hy
        obtain ⟨au, cu, rfl, _⟩ := htu.len
        clear htu
        have d0 := cell_later HB.out c0
        have d1 := cell_later HB.out c1
        have d2 := cell_later HB.out c2
        have d3 := cell_later HB.out c3
        have hz := sizes_drop' hy
        have hz2 := sizes_take' ts (i + 1)
        have hvl := (varss_len (ts.take i) l).1
        have hbx := bel1' wr (box4 k1 n1 s1 (.slice au y.args.length cu) 31)
        have ih := IH.out y (List.mem_of_getElem? hy) _ _ _ _ ht (HB.out.trans (hbx.mono HB.out.size)) (row_ext HZ.out hbx) (by have := HL.out; omega)
        have hst := varss_step hy l
        rw [← hst] at ih
        clear c0 c1 c2 c3 hz hz2 hvl hst ht hy hbx
        (go_wp2_with fail; go_fit (ih); rintro e w2 ⟨r2, rfl, hr2, b2⟩)
        have HZ2 := Lib.hid hr2
        have HB2 := Lib.hid b2
        clear hr2 b2 HZ HB d0 d1 d2 d3
        go_wp2
        go_roundw
        case rel => exact ⟨i + 1, by omega, by go_num, HZ2, HB2⟩
        case measure => simp [intOf]; omega
      · have hR2 : varsL (ts.take i) l = R := by rw [← HR.out, List.take_of_length_le (by rw [HM.out]; omega)]
        have HZ2 := HZ.out
        rw [hR2] at HZ2
        clear hR2 HZ HR
        go_wp2
        go_ret
        exact ⟨_, rfl, HZ2, HB.out⟩
set_option maxHeartbeats 2000000 in
theorem Vars_at (x : Tm) (w : World) (v : Value) (hv : TmV w x v) : Calls Try.prog 38 #[v] w fun e w' => ∃ r, e = .returned r ∧ Nums w' r (if goodT x then varsT x [] else []) ∧ Below w.heap.size w w' := by
  have G := fun w (h : TmV w x v) => Good_at x w v h
  have V := fun w1 (hb : Below w.heap.size w w1) (hs : goodT x = true) => addVars_at _ x (Nat.le_refl _) (good_parts hs).2.2 w w1 v (.slice none 0 0) [] hv hb (RowN.nil _ _) (by have := (good_parts hs).1; simp; omega)
  obtain ⟨k, n, s, u, rfl⟩ := hv.four
  have hv0 := TmV.ext (bel1' w (box4 k n s u 31)) _ _ hv
  clear hv
  cases hg : goodT x
  · rw [hg] at G
    clear V hg
    go_enter Try.func38, Try.ntmps38
    (go_wp2_with fail; go_fit (G _ hv0); rintro e w1 ⟨rfl, b1⟩)
    have B1 := Lib.hid (Ext.trans' (bel1' w _) b1)
    clear b1
    go_wp2
    go_ret
    exact ⟨_, rfl, Nums.nil _, B1.out⟩
  · rw [hg] at G
    have V' := fun w h => V w h hg
    rw [if_pos rfl]
    clear V hg
    go_enter Try.func38, Try.ntmps38
    (go_wp2_with fail; go_fit (G _ hv0); rintro e w1 ⟨rfl, b1⟩)
    obtain ⟨e0, e1, e2, e3⟩ := box_cells w 31 _ _ _ _ b1
    have B1 := Lib.hid (Ext.trans' (bel1' w _) b1)
    clear b1
    (go_wp2_with fail; go_fit (V' _ B1.out); rintro e w2 ⟨r, rfl, hr, b2⟩)
    have HN := Lib.hid hr.nums
    have B2 := Lib.hid b2
    clear hr b2
    go_wp2
    go_ret
    exact ⟨_, rfl, HN.out, B2.out⟩
end Go.Proofs.Ytbbbgijlbcmpbaa
/- Package bind: addVars, fits. -/
namespace Go.Proofs.Ytbbbgijlbcmpbaa
open Go.RowKit
set_option linter.unusedVariables false

section
variable {V w : World} {F : List Nat} {p : Value} {N : Nat} {R : List (Int × Tm)}
mutual
theorem occ_i64 {w : World} : ∀ (x : Tm) (v : Value), TmV w x v → ∀ m ∈ occT x, I64 m
  | .mk k n s ts, v, h, m, hm => by
    rw [TmV] at h
    obtain ⟨a, c, h1, h2, h3, h4, h5, h6, h7, h8⟩ := h
    by_cases hk : k = 0
    · subst hk
      rw [occ_var] at hm
      simp at hm
      subst hm
      exact h7
    · rw [occ_not hk] at hm
      rcases h8 with h8 | ⟨b, off, e1, e2, e3⟩
      · subst h8; simp [occL] at hm
      · exact occs_i64 ts b off e3 m hm
theorem occs_i64 {w : World} : ∀ (l : List Tm) (b off : Nat), TmRow w l b off → ∀ m ∈ occL l, I64 m
  | [], b, off, _, m, hm => by simp [occL] at hm
  | x :: r, b, off, h, m, hm => by
    rw [TmRow] at h
    obtain ⟨⟨c0, c1, c2, c3, h0, h1, h2, h3, h4⟩, h5⟩ := h
    rw [occL] at hm
    rcases List.mem_append.1 hm with hm | hm
    · exact occ_i64 x _ h4 m hm
    · exact occs_i64 r b (off + 4) h5 m hm
end
end
end Go.Proofs.Ytbbbgijlbcmpbaa
/- Package bind: whole. -/
namespace Go.Proofs.Ytbbbgijlbcmpbaa
open Go.RowKit
set_option linter.unusedVariables false

/-- All that lay below n is not looked at. -/
abbrev under (n : Nat) : Nat → Bool := fun k => decide (k < n)
section
variable {V : World} {F : List Nat} {p : Value} {N : Nat} {R : List (Int × Tm)}
end
end Go.Proofs.Ytbbbgijlbcmpbaa
/- Package bind: whole, where there is room. -/
namespace Go.Proofs.Ytbbbgijlbcmpbaa
open Go.RowKit
set_option linter.unusedVariables false

theorem Touch.then {F : List Nat} {w w' w'' : World} (h : Touch F w w') (hb : Below w'.heap.size w' w'') : Touch F w w'' := h.trans (Touch.of_below hb F) (fun k hk => Or.inl hk)
section
variable {D : Nat → Bool} {ps : List TmP} {n0 : Nat} {wr : World} {z : Value} {ts : List Tm}
end
end Go.Proofs.Ytbbbgijlbcmpbaa
/- Package bind: whole, walked. -/
namespace Go.Proofs.Ytbbbgijlbcmpbaa
open Go.RowKit
set_option linter.unusedVariables false

theorem sizes_map_drop {S : Int → Tm} {ts : List Tm} {i : Nat} {y : Tm} (h : ts[i]? = some y) : (subL S ts)[i]? = some (subT S y) := by rw [subL_map, List.getElem?_map, h]; rfl
section
variable {V : World} {F : List Nat} {p : Value} {N : Nat} {R : List (Int × Tm)}
end
end Go.Proofs.Ytbbbgijlbcmpbaa
/- Package bind: reaches. -/
namespace Go.Proofs.Ytbbbgijlbcmpbaa
open Go.RowKit Go.Maps
set_option linter.unusedVariables false

theorem lKeyed : Keyed Try.prog 2 := int_keyed Try.underlying2
theorem wf_i64 {n : Int} (h : I64 n) : (Lit.int .i64 n).wf = true := WalkArith.wf_i64 h
theorem lKey {n : Int} (h : I64 n) : keyOf Try.prog 2 (.int .i64 n) = some (.int .i64 n) := keyOf_int_mk Try.underlying2 (wf_i64 h)
section
variable {V w : World} {F : List Nat} {p : Value} {N : Nat} {R : List (Int × Tm)}
end
end Go.Proofs.Ytbbbgijlbcmpbaa
/- Terms: how deep one is asked of. -/
namespace Go.Proofs.Ytbbbgijlbcmpbaa
open Go.RowKit
set_option linter.unusedVariables false

mutual
def deepT : Tm → Int → Bool
  | .mk _ _ _ ts, left => if left < 1 ∨ 12 < ts.length then true else deepsT ts (left - 1)
def deepsT : List Tm → Int → Bool
  | [], _ => false
  | x :: r, left => deepT x left || deepsT r left
end
end Go.Proofs.Ytbbbgijlbcmpbaa
/- Terms: the document's Size, Depth. -/
namespace Go.Proofs.Ytbbbgijlbcmpbaa
open Go.RowKit
set_option linter.unusedVariables false

theorem sizes_drop : ∀ {ts : List Tm} {i : Nat} {y : Tm}, ts[i]? = some y → sizesN (ts.take (i + 1)) = sizesN (ts.take i) + sizeN y
  | x :: r, 0, y, h => by
    simp at h; subst h
    simp [sizesN]
  | x :: r, i + 1, y, h => by
    have := sizes_drop (ts := r) (i := i) (y := y) (by simpa using h)
    simp only [List.take_succ_cons, sizesN, this]
    omega
  | [], i, y, h => by simp at h
theorem depths_drop : ∀ {ts : List Tm} {i : Nat} {y : Tm}, ts[i]? = some y → depthsN (ts.take (i + 1)) = max (depthsN (ts.take i)) (depthN y)
  | x :: r, 0, y, h => by
    simp at h; subst h
    simp [depthsN]
  | x :: r, i + 1, y, h => by
    have := depths_drop (ts := r) (i := i) (y := y) (by simpa using h)
    simp only [List.take_succ_cons, depthsN, this]
    omega
  | [], i, y, h => by simp at h
theorem sizes_take (ts : List Tm) (i : Nat) : sizesN (ts.take i) ≤ sizesN ts := by
  induction ts generalizing i with
  | nil => simp
  | cons x r ih =>
    cases i with
    | zero => simp [sizesN]
    | succ i =>
      simp only [List.take_succ_cons, sizesN]
      have := ih i
      omega
set_option maxHeartbeats 2000000 in
set_option maxRecDepth 100000 in
theorem rsize_at : ∀ (N : Nat) (x : Tm), sizeN x ≤ N → ∀ (q : Nat), q ≤ 1000000 → ∀ (w : World) (v : Value), TmV w x v →
    Calls Try.prog 89 #[v, .int .i64 q] w fun e w' => e = .returned (.int .i64 (min (sizeN x) (q + 1) : Nat)) ∧ Below w.heap.size w w'
  | 0, x, h, q, hq, w, v, hv => by have := size_pos x; omega
  | N + 1, .mk k n s ts, h, q, hq, w, v, hv => by
    obtain ⟨u, rfl, hs, hk, hn, hu⟩ := tmV_iff.1 hv
    obtain ⟨a, c, rfl, h1, h2, h3⟩ := hu.len
    unfold BIG at h3
    obtain ⟨m, hm⟩ : ∃ m, ts.length = m := ⟨_, rfl⟩
    have IH := Lib.hid (fun (y : Tm) (hy : y ∈ ts) => rsize_at N y (mem_size h hy))
    have HU := Lib.hid hu
    have HM := Lib.hid hm
    rw [hm] at h1 h3 hu HU ⊢
    obtain ⟨r, hr⟩ : ∃ r, min (sizeN (.mk k n s ts)) (q + 1) = r := ⟨_, rfl⟩
    rw [hr]
    have HR := Lib.hid (show min (sizesN ts + 1) (q + 1) = r by rw [← hr, sizeN])
    clear hv hu hm hr h
    go_enter Try.func89, Try.ntmps89
    go_wp2_with fail
    go_loopw [5, 6] (fun z v wr => ∃ i t : Nat, i ≤ m ∧ v = .int .i64 i ∧ z = .int .i64 t ∧ Hid (t = min (sizesN (ts.take i) + 1) (q + 1)) ∧ t ≤ q + 1 ∧ Hid (Below (w.alloc (.cells #[.int .i64 k, .int .i64 n, .string s, .slice a m c] 48)).heap.size (w.alloc (.cells #[.int .i64 k, .int .i64 n, .string s, .slice a m c] 48)) wr)) (fun _ v _ => m - (intOf v).toNat)
    case atStart => exact ⟨0, 1, Nat.zero_le _, rfl, rfl, Lib.hid (by simp [sizesN]), by omega, Lib.hid (Below.refl _ _)⟩
    case round =>
      obtain ⟨i, t, hi, rfl, rfl, HT, ht, HB⟩ := hrel
      obtain ⟨e0, e1, e2, e3⟩ := box_cells w 48 _ _ _ _ HB.out
      have HBW := Lib.hid (Ext.trans' (bel1' w _) HB.out)
      by_cases hil : i < m
      · obtain ⟨y, hy⟩ : ∃ y, ts[i]? = some y := ⟨_, List.getElem?_eq_getElem (by rw [HM.out]; exact hil)⟩
        have hst := sizes_take ts (i + 1)
        have hds := sizes_drop hy
        by_cases htq : t ≤ q
        · obtain ⟨b, off, k', n', s', u', rfl, hbb, _, _, _, c0, c1, c2, c3, _, hty⟩ := (HU.out.ext HBW.out).get hy
          obtain ⟨d, hd⟩ : ∃ d, q - t = d := ⟨_, rfl⟩
          have hqt : (q : Int) - t = d := by omega
          have ih := IH.out y (List.mem_of_getElem? hy) d (by omega) wr _ hty
          obtain ⟨z, hz⟩ : ∃ z, min (sizeN y) (d + 1) = z := ⟨_, rfl⟩
          rw [hz] at ih
          have HN : Hid (t + z = min (sizesN (ts.take (i + 1)) + 1) (q + 1)) := Lib.hid (by
            have := HT.out
            rw [hds]
            omega)
          have hzd : z ≤ d + 1 := by omega
          have hzq : t + z ≤ q + 1 := by omega
          clear hst hds hz hy hty hd HT
          (go_wp2_with fail; go_fit (ih); rintro e w2 ⟨rfl, b2⟩)
          have B2 := Lib.hid (Ext.trans' HB.out b2)
          clear b2
          go_wp2
          go_roundw
          case rel => exact ⟨i + 1, t + z, by omega, by go_num, by go_num, HN, hzq, B2⟩
          case measure => simp [intOf]; omega
        · have hrt : t = r := by
            have a1 := HT.out
            have a2 := HR.out
            have a3 := sizes_take ts i
            omega
          subst hrt
          clear hst hds hy
          go_wp2
          go_ret
          exact ⟨rfl, HBW.out⟩
      · have hrt : t = r := by
          have a1 := HT.out
          have a2 := HR.out
          rw [List.take_of_length_le (by rw [HM.out]; omega)] at a1
          omega
        subst hrt
        go_wp2
        go_ret
        exact ⟨rfl, HBW.out⟩
set_option maxHeartbeats 2000000 in
set_option maxRecDepth 100000 in
theorem rdepth_at : ∀ (q : Nat) (x : Tm), q ≤ 1000000 → ∀ (w : World) (v : Value), TmV w x v →
    Calls Try.prog 90 #[v, .int .i64 q] w fun e w' => e = .returned (.int .i64 (min (depthN x) (q + 1) : Nat)) ∧ Below w.heap.size w w'
  | 0, .mk k n s ts, hq, w, v, hv => by
    obtain ⟨u, rfl, hs, hk, hn, hu⟩ := tmV_iff.1 hv
    rw [show min (depthN (.mk k n s ts)) (0 + 1) = 1 by have := depth_pos (.mk k n s ts); omega]
    go_enter Try.func90, Try.ntmps90
    go_wp2
    go_ret
    exact ⟨rfl, bel1' _ _⟩
  | q + 1, .mk k n s ts, hq, w, v, hv => by
    obtain ⟨u, rfl, hs, hk, hn, hu⟩ := tmV_iff.1 hv
    obtain ⟨a, c, rfl, h1, h2, h3⟩ := hu.len
    unfold BIG at h3
    obtain ⟨m, hm⟩ : ∃ m, ts.length = m := ⟨_, rfl⟩
    have IH := Lib.hid (fun (y : Tm) => rdepth_at q y (by omega))
    have HU := Lib.hid hu
    have HM := Lib.hid hm
    rw [hm] at h1 h3 hu HU ⊢
    obtain ⟨r, hr⟩ : ∃ r, min (depthN (.mk k n s ts)) (q + 1 + 1) = r := ⟨_, rfl⟩
    rw [hr]
    have HR := Lib.hid (show min (depthsN ts + 1) (q + 2) = r by rw [← hr, depthN])
    clear hv hu hm hr
    obtain ⟨Q, hQ⟩ : ∃ Q : Int, ((q + 1 : Nat) : Int) = Q := ⟨_, rfl⟩
    rw [hQ]
    have hq1 : Q - 1 = q := by omega
    have hQ0 : ¬ Q ≤ 0 := by omega
    have hQb : Q ≤ 1000000 := by omega
    clear hQ
    go_enter Try.func90, Try.ntmps90
    go_wp2_with fail
    go_loopw [5, 6] (fun z v wr => ∃ i t : Nat, i ≤ m ∧ v = .int .i64 i ∧ z = .int .i64 t ∧ Hid (t = min (depthsN (ts.take i)) (q + 1)) ∧ t ≤ q + 1 ∧ Hid (Below (w.alloc (.cells #[.int .i64 k, .int .i64 n, .string s, .slice a m c] 48)).heap.size (w.alloc (.cells #[.int .i64 k, .int .i64 n, .string s, .slice a m c] 48)) wr)) (fun _ v _ => m - (intOf v).toNat)
    case atStart => exact ⟨0, 0, Nat.zero_le _, rfl, rfl, Lib.hid (by simp [depthsN]), by omega, Lib.hid (Below.refl _ _)⟩
    case round =>
      obtain ⟨i, t, hi, rfl, rfl, HT, ht, HB⟩ := hrel
      obtain ⟨e0, e1, e2, e3⟩ := box_cells w 48 _ _ _ _ HB.out
      have HBW := Lib.hid (Ext.trans' (bel1' w _) HB.out)
      by_cases hil : i < m
      · obtain ⟨y, hy⟩ : ∃ y, ts[i]? = some y := ⟨_, List.getElem?_eq_getElem (by rw [HM.out]; exact hil)⟩
        have hds := depths_drop hy
        obtain ⟨b, off, k', n', s', u', rfl, hbb, _, _, _, c0, c1, c2, c3, _, hty⟩ := (HU.out.ext HBW.out).get hy
        have ih := IH.out y wr _ hty
        obtain ⟨z, hz⟩ : ∃ z, min (depthN y) (q + 1) = z := ⟨_, rfl⟩
        rw [hz] at ih
        have HN : Hid (max t z = min (depthsN (ts.take (i + 1))) (q + 1)) := Lib.hid (by
          have := HT.out
          rw [hds]
          omega)
        have hzd : z ≤ q + 1 := by omega
        clear hds hz hy hty HT
        by_cases htz : t < z
        · have HM2 := Lib.hid (show max t z = z by omega)
          (go_wp2_with fail; go_fit (ih); rintro e w2 ⟨rfl, b2⟩)
          have B2 := Lib.hid (Ext.trans' HB.out b2)
          clear b2
          go_wp2
          go_roundw
          case rel => exact ⟨i + 1, z, by omega, by go_num, rfl, Lib.hid (by rw [← HN.out, HM2.out]), hzd, B2⟩
          case measure => simp [intOf]; omega
        · have HM2 := Lib.hid (show max t z = t by omega)
          (go_wp2_with fail; go_fit (ih); rintro e w2 ⟨rfl, b2⟩)
          have B2 := Lib.hid (Ext.trans' HB.out b2)
          clear b2
          go_wp2
          go_roundw
          case rel => exact ⟨i + 1, t, by omega, by go_num, rfl, Lib.hid (by rw [← HN.out, HM2.out]), ht, B2⟩
          case measure => simp [intOf]; omega
      · have hrt : t + 1 = r := by
          have a1 := HT.out
          have a2 := HR.out
          rw [List.take_of_length_le (by rw [HM.out]; omega)] at a1
          omega
        subst hrt
        go_wp2
        go_ret
        exact ⟨ret_int (by omega), HBW.out⟩
end Go.Proofs.Ytbbbgijlbcmpbaa
/- Terms: which the document's own calls good. -/
namespace Go.Proofs.Ytbbbgijlbcmpbaa
open Go.RowKit
set_option linter.unusedVariables false

theorem formed_mk (k n : Int) (s : ByteArray) (ts : List Tm) : formedT (.mk k n s ts) = (plainT k n s.data.toList ts.length && formedL ts) := by rw [formedT]
theorem formed_no {k n : Int} {s : ByteArray} {ts : List Tm} (h : plainT k n s.data.toList ts.length = false) : formedT (.mk k n s ts) = false := by rw [formed_mk, h]; rfl
theorem formed_leaf {k n : Int} {s : ByteArray} (h : plainT k n s.data.toList 0 = true) : formedT (.mk k n s []) = true := by rw [formed_mk]; show (plainT k n s.data.toList 0 && formedL []) = true; rw [h, formedL]; rfl
theorem isEmpty_size (s : ByteArray) : s.data.toList.isEmpty = decide (s.size = 0) := by
  have h : s.data.toList.length = s.size := rfl
  cases hq : s.data.toList with
  | nil => rw [hq] at h; simp at h; simp [← h]
  | cons a r =>
    rw [hq, List.length_cons] at h
    rw [decide_eq_false (by omega)]
    rfl
theorem toList_empty {s : ByteArray} (h : s.size = 0) : s.toList.isEmpty = true := by rw [Lib.toList_data, isEmpty_size]; simpa using h
theorem toList_some {s : ByteArray} (h : ¬ s.size = 0) : s.toList.isEmpty = false := by rw [Lib.toList_data, isEmpty_size]; simpa using h
theorem letter_eq : ∀ c : UInt8, letterB c = (((c.toNat : Int) == 9) || ((c.toNat : Int) == 10) || (!decide ((c.toNat : Int) < 32) && !decide (126 < (c.toNat : Int)))) := by
  intro c
  have h : ((List.range 256).all fun n => letterB (UInt8.ofNat n) == ((((UInt8.ofNat n).toNat : Int) == 9) || (((UInt8.ofNat n).toNat : Int) == 10) || (!decide (((UInt8.ofNat n).toNat : Int) < 32) && !decide (126 < ((UInt8.ofNat n).toNat : Int))))) = true := by decide +kernel
  have h1 := List.all_eq_true.1 h c.toNat (List.mem_range.2 c.toNat_lt)
  have e : UInt8.ofNat c.toNat = c := by simp
  rw [e] at h1
  exact eq_of_beq h1
set_option maxHeartbeats 4000000 in
set_option maxRecDepth 100000 in
/-- A name with its Args: the letters, then the Args. -/
theorem rformed_two {s : ByteArray} {ts : List Tm} {w : World} {a : Option Addr} {m c : Nat} (hs : s.size ≤ 140737488351232) (h1 : m ≤ c) (h2 : c ≤ maxLen) (h3 : m * 56 ≤ 140737488351232) (g2 : ¬ 64 < s.size) (g3 : ¬ 8 < m) (HM : Hid (ts.length = m)) (HU : Hid (Tms w (.slice a m c) ts))
    (HP : Hid (formedT (.mk 2 0 s ts) = (s.data.toList.all letterB && formedL ts)))
    (IH : Hid (∀ y ∈ ts, ∀ (w : World) (v : Value), TmV w y v → Calls Try.prog 91 #[v] w fun e w' => e = .returned (.bool (formedT y)) ∧ Below w.heap.size w w')) :
    Calls Try.prog 91 #[.agg #[.int .i64 2, .int .i64 0, .string s, .slice a m c]] w fun e w' => e = .returned (.bool (formedT (.mk 2 0 s ts))) ∧ Below w.heap.size w w' := by
  obtain ⟨r, hr⟩ : ∃ r, formedT (.mk 2 0 s ts) = r := ⟨_, rfl⟩
  rw [hr]
  have HR := Lib.hid (HP.out.symm.trans hr)
  clear hr HP
  go_enter Try.func91, Try.ntmps91
  go_wp2_with fail
  go_loopw [3] (fun z wr => ∃ i : Nat, i ≤ s.size ∧ z = .int .i64 i ∧ Hid (∀ j (hj : j < s.size), j < i → letterB s[j] = true) ∧ wr = w.alloc (.cells #[.int .i64 2, .int .i64 0, .string s, .slice a m c] 48)) (fun z _ => s.size - (intOf z).toNat)
  case atStart => exact ⟨0, Nat.zero_le _, rfl, Lib.hid (fun j _ h => by omega), rfl⟩
  case round =>
    obtain ⟨i, hi, rfl, HL, rfl⟩ := hrel
    by_cases hil : i < s.size
    · cases hq : letterB s[i]
      · have hlq := letter_eq s[i]
        rw [hq] at hlq
        have hall : s.data.toList.all letterB = false := by
          rw [List.all_eq_false]
          exact ⟨s.data.toList[i]'hil, List.getElem_mem _, by show ¬ letterB s[i] = true; rw [hq]; simp⟩
        have hrf : r = false := by rw [← HR.out, hall]; rfl
        subst hrf
        obtain ⟨z, hz⟩ : ∃ z : Int, (s[i].toNat : Int) = z := ⟨_, rfl⟩
        rw [hz] at hlq
        have e9 : (z == 9) = false := by
          cases h : (z == 9)
          · rfl
          · rw [h] at hlq; cases hlq
        have e10 : (z == 10) = false := by
          cases h : (z == 10)
          · rfl
          · rw [h, Bool.or_true] at hlq; cases hlq
        rw [e9, e10, Bool.false_or, Bool.false_or] at hlq
        have n9 : (z != 9) = true := by unfold bne; rw [e9]; rfl
        have n10 : (z != 10) = true := by unfold bne; rw [e10]; rfl
        clear e9 e10
        clear hall hq HR HL
        by_cases h32 : z < 32
        · clear hlq
          go_wp2
          go_ret
          exact ⟨rfl, bel1' _ _⟩
        · have h126 : 126 < z := by
            simp [h32] at hlq
            omega
          clear hlq
          go_wp2
          go_ret
          exact ⟨rfl, bel1' _ _⟩
      · have hlq := letter_eq s[i]
        rw [hq] at hlq
        have HN : Hid (∀ j (hj : j < s.size), j < i + 1 → letterB s[j] = true) := Lib.hid (fun j hj h => by
          by_cases e : j = i
          · subst e; exact hq
          · exact HL.out j hj (by omega))
        obtain ⟨z, hz⟩ : ∃ z : Int, (s[i].toNat : Int) = z := ⟨_, rfl⟩
        rw [hz] at hlq
        clear hq HL
        by_cases e9 : z = 9
        · subst e9
          clear hlq
          go_wp2
          go_roundw
          case rel => exact ⟨i + 1, by omega, by go_num, HN, trivial⟩
          case measure => simp [intOf]; omega
        have e9' : (z == 9) = false := beq_false_of_ne e9
        by_cases e10 : z = 10
        · subst e10
          clear hlq
          go_wp2
          go_roundw
          case rel => exact ⟨i + 1, by omega, by go_num, HN, trivial⟩
          case measure => simp [intOf]; omega
        have e10' : (z == 10) = false := beq_false_of_ne e10
        rw [e9', e10'] at hlq
        have h32 : ¬ z < 32 := fun hh => by simp [hh] at hlq
        have h126 : ¬ 126 < z := fun hh => by simp [hh] at hlq
        have n9 : (z != 9) = true := by unfold bne; rw [e9']; rfl
        have n10 : (z != 10) = true := by unfold bne; rw [e10']; rfl
        clear hlq e9 e10 e9' e10'
        go_wp2
        go_roundw
        case rel => exact ⟨i + 1, by omega, by go_num, HN, trivial⟩
        case measure => simp [intOf]; omega
    · have hall : s.data.toList.all letterB = true := by
        rw [List.all_eq_true]
        intro x hx
        obtain ⟨j, hj, rfl⟩ := List.getElem_of_mem hx
        exact HL.out j hj (by have : j < s.size := hj; omega)
      have HR2 := Lib.hid (show formedL ts = r by rw [← HR.out, hall]; rfl)
      clear hall HR HL
      go_wp2_with fail
      go_loopw [5] (fun v wr => ∃ i : Nat, i ≤ m ∧ v = .int .i64 i ∧ Hid (formedL (ts.drop i) = r) ∧ Hid (Below (w.alloc (.cells #[.int .i64 2, .int .i64 0, .string s, .slice a m c] 48)).heap.size (w.alloc (.cells #[.int .i64 2, .int .i64 0, .string s, .slice a m c] 48)) wr)) (fun v _ => m - (intOf v).toNat)
      case atStart => exact ⟨0, Nat.zero_le _, rfl, Lib.hid (by rw [List.drop_zero]; exact HR2.out), Lib.hid (Below.refl _ _)⟩
      case round =>
        obtain ⟨i, hi, rfl, HD, HB⟩ := hrel
        obtain ⟨e0, e1, e2, e3⟩ := box_cells w 48 _ _ _ _ HB.out
        by_cases hil : i < m
        · obtain ⟨y, hy⟩ : ∃ y, ts[i]? = some y := ⟨_, List.getElem?_eq_getElem (by rw [HM.out]; exact hil)⟩
          have hdr : ts.drop i = y :: ts.drop (i + 1) := by
            obtain ⟨hlt', rfl⟩ := List.getElem?_eq_some_iff.1 hy
            exact List.drop_eq_getElem_cons hlt'
          have hd := HD.out
          rw [hdr, formedL] at hd
          have HBW := Lib.hid (Ext.trans' (bel1' w _) HB.out)
          obtain ⟨b, off, k', n', s', u', rfl, hbb, _, _, _, c0, c1, c2, c3, _, ht⟩ := (HU.out.ext HBW.out).get hy
          have ih := IH.out y (List.mem_of_getElem? hy) wr _ ht
          clear hdr HD ht
          cases hq : formedT y
          · rw [hq, Bool.false_and] at hd
            rw [hq] at ih
            subst hd
            clear hq hy HR2
            (go_wp2_with fail; go_fit (ih); rintro e w2 ⟨rfl, b2⟩)
            have B2 := Lib.hid (Ext.trans' HBW.out b2)
            clear b2
            go_wp2
            go_ret
            exact ⟨rfl, B2.out⟩
          · rw [hq, Bool.true_and] at hd
            rw [hq] at ih
            have HD := Lib.hid hd
            clear hq hd hy
            (go_wp2_with fail; go_fit (ih); rintro e w2 ⟨rfl, b2⟩)
            have B2 := Lib.hid (Ext.trans' HB.out b2)
            clear b2
            go_wp2
            go_roundw
            case rel => exact ⟨i + 1, by omega, by go_num, HD, B2⟩
            case measure => simp [intOf]; omega
        · have hd := HD.out
          rw [List.drop_eq_nil_of_le (by rw [HM.out]; omega), formedL] at hd
          subst hd
          clear HR2 HD
          go_wp2
          go_ret
          exact ⟨rfl, Ext.trans' (bel1' w _) HB.out⟩
end Go.Proofs.Ytbbbgijlbcmpbaa
