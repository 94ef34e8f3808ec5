/- Drawn together by pull.py from XPrM XPrN XPrB XPrE XPrF XPrG XPrH XPsB. -/
import Derived.Test.YtnnadmabgaopdaaTnG
import Derived.Test.YtnnadmabgaopdaaH
import Derived.Test.YtnnadmabgaopdaaAppK
import Derived.Test.YtnnadmabgaopdaaElO
namespace Go.Proofs.Ytnnadmabgaopdaa
open Go.RowKit
set_option linter.unusedVariables false

/-- Of the old blocks only those of M have turned; of them the same are not looked at, the same turn. -/
structure Turn (D M D' M' : Nat → Bool) (w w' : World) : Prop where
  size : w.heap.size ≤ w'.heap.size
  dd : ∀ k, k < w.heap.size → D' k = D k
  mm : ∀ k, k < w.heap.size → M' k = M k
  kept : ∀ k, k < w.heap.size → M k = false → w'.heap[k]? = w.heap[k]?
  ot : Below 0 w w'
theorem Turn.refl (D M : Nat → Bool) (w : World) : Turn D M D M w w := ⟨Nat.le_refl _, fun _ _ => rfl, fun _ _ => rfl, fun _ _ _ => rfl, Below.refl _ _⟩
theorem Turn.trans {D M D' M' D2 M2 : Nat → Bool} {a b c : World} (h : Turn D M D' M' a b) (g : Turn D' M' D2 M2 b c) : Turn D M D2 M2 a c :=
  ⟨Nat.le_trans h.size g.size, fun k hk => (g.dd k (Nat.lt_of_lt_of_le hk h.size)).trans (h.dd k hk), fun k hk => (g.mm k (Nat.lt_of_lt_of_le hk h.size)).trans (h.mm k hk),
    fun k hk hm => (g.kept k (Nat.lt_of_lt_of_le hk h.size) ((h.mm k hk).trans hm)).trans (h.kept k hk hm), h.ot.trans g.ot⟩
theorem Turn.below {D M : Nat → Bool} {w w' : World} (h : Below w.heap.size w w') : Turn D M D M w w' := ⟨h.size, fun _ _ => rfl, fun _ _ => rfl, fun k hk _ => h.block k hk, h.mono (Nat.zero_le _)⟩
theorem Turn.stays {D M D' M' : Nat → Bool} {w w' : World} (h : Turn D M D' M' w w') (md : ∀ k, M k = true → D k = true) : Stays (hide D w) (hide D' w') :=
  Stays.hide h.size fun k hk hd => ⟨(h.dd k hk).trans hd, h.kept k hk (by cases hm : M k with | false => rfl | true => rw [md k hm] at hd; cases hd)⟩
theorem Turn.cell {D M D' M' : Nat → Bool} {w w' : World} (h : Turn D M D' M' w w') {b j : Nat} {v : Value} (hm : M b = false) (hc : w.cell? ⟨b, j, none⟩ = some v) : w'.cell? ⟨b, j, none⟩ = some v := by
  rw [World.cell?_of_block (h.kept b (World.block_lt_of_cell? _ _ hc) hm)]; exact hc
theorem Turn.froz {D M D' M' : Nat → Bool} {w w' : World} (h : Turn D M D' M' w w') {b j : Nat} (hb : b < w.heap.size) (hm : M b = false) (hc : w.frozen? ⟨b, j, none⟩ = false) : w'.frozen? ⟨b, j, none⟩ = false := by
  rw [World.frozen?_of_block (h.kept b hb hm)]; exact hc
/-- As many blocks as lie below n and don't turn are as they were. -/
theorem Turn.bel {D M D' M' : Nat → Bool} {w w' : World} (h : Turn D M D' M' w w') {n : Nat} (hn : n ≤ w.heap.size) (hm : ∀ k, k < n → M k = false) : Below n w w' :=
  ⟨h.ot.os, h.ot.tape, h.ot.output, h.size, fun k hk => h.kept k (Nat.lt_of_lt_of_le hk hn) (hm k hk)⟩
/-- A block of one's own that turns in the end. -/
theorem Turn.set {D M D' M' : Nat → Bool} {w w' : World} (h : Turn D M D' M' w w') (a : Addr) (u : Value) (ha : w.heap.size ≤ a.block ∨ M a.block = true) : Turn D M D' M' w (w'.setCell a u) :=
  ⟨Nat.le_trans h.size (by simp [World.setCell]), h.dd, h.mm, fun k hk hm => (Below.heap_setCell w' a u k (fun e => by
    rcases ha with ha | ha
    · omega
    · rw [e, ha] at hm; cases hm)).trans (h.kept k hk hm), h.ot.setCell (Nat.zero_le _) u⟩
theorem Turn.alloc {D M D' M' : Nat → Bool} {w w' : World} (h : Turn D M D' M' w w') (o : Obj) : Turn D M D' M' w (w'.alloc o) := h.trans (Turn.below (bel1' w' o))
theorem row_at {w w' : World} {B k n : Nat} {e : TypeId} {v : Value} {xs : List Value} (h : w.ownsRow B e k v n xs) (hb : ∀ g, v.ownBlock = some g → w'.heap[g]? = w.heap[g]?) : w'.ownsRow B e k v n xs := by
  obtain ⟨h0, h1⟩ := h
  refine ⟨h0, ?_⟩
  rcases h1 with h1 | ⟨g, cap, cur, rfl, hg, hh, h2⟩
  · exact Or.inl h1
  · exact Or.inr ⟨g, cap, cur, rfl, hg, by rw [hb g rfl]; exact hh, h2⟩
theorem row_in {w : World} {B k n : Nat} {e : TypeId} {v : Value} {xs : List Value} (h : w.ownsRow B e k v n xs) {g : Nat} (hg : v.ownBlock = some g) : B ≤ g ∧ g < w.heap.size := by
  rcases h.2 with ⟨rfl, _⟩ | ⟨g', cap, cur, rfl, h1, h2, _⟩
  · cases hg
  · cases hg
    exact ⟨h1, (Array.getElem?_eq_some_iff.1 h2).1⟩
/-- One more block is not looked at. -/
def plusB (D : Nat → Bool) (b : Nat) : Nat → Bool := fun k => k == b || D k
theorem plusB_self (D : Nat → Bool) (b : Nat) : plusB D b b = true := by simp [plusB]
theorem plusB_of {D : Nat → Bool} {b k : Nat} (h : D k = true) : plusB D b k = true := by simp [plusB, h]
theorem plusB_ne {D : Nat → Bool} {b k : Nat} (h : k ≠ b) : plusB D b k = D k := by simp [plusB, h]
/-- A box of one's own is looked at no more. -/
theorem Turn.box {D M D' M' : Nat → Bool} {w w' : World} {b : Nat} (h : Turn (plusB D b) M D' M' w w') (hb : w.heap.size ≤ b) : Turn D M D' M' w w' :=
  ⟨h.size, fun k hk => (h.dd k hk).trans (plusB_ne (by omega)), h.mm, h.kept, h.ot⟩
theorem Turn.into {D M : Nat → Bool} {w w' : World} (h : Below w.heap.size w w') {b : Nat} (hb : w.heap.size ≤ b) : Turn D M (plusB D b) M w w' :=
  ⟨h.size, fun k hk => plusB_ne (by omega), fun _ _ => rfl, fun k hk _ => h.block k hk, h.mono (Nat.zero_le _)⟩
/-- A box of one's own with these values. -/
structure Box (w : World) (b : Nat) (vs : List Value) : Prop where
  cells : ∀ j u, vs[j]? = some u → w.cell? ⟨b, j, none⟩ = some u
  fz : ∀ j, w.frozen? ⟨b, j, none⟩ = false
  lt : b < w.heap.size
theorem box_new (w : World) (cs : Array Value) (ty : TypeId) : ∃ w1, w.alloc (.cells cs ty) = w1 ∧ Below w.heap.size w w1 ∧ w1.heap.size = w.heap.size + 1 ∧ Box w1 w.heap.size cs.toList := by
  refine ⟨_, rfl, bel1' _ _, by simp, fun j u h => ?_, fun j => by simp, by simp⟩
  have := cell_new w cs ty j u h
  rw [add_plain, Nat.zero_add] at this
  exact this
theorem Box.ext {w w' : World} {b : Nat} {vs : List Value} (h : Box w b vs) (hb : Below w.heap.size w w') : Box w' b vs :=
  ⟨fun j u hu => cell_later hb (h.cells j u hu), fun j => (hb.frozen (p := ⟨b, j, none⟩) h.lt).trans (h.fz j), Nat.lt_of_lt_of_le h.lt hb.size⟩
theorem Box.turn {D M D' M' : Nat → Bool} {w w' : World} {b : Nat} {vs : List Value} (h : Box w b vs) (ht : Turn D M D' M' w w') (hm : M b = false) : Box w' b vs :=
  ⟨fun j u hu => ht.cell hm (h.cells j u hu), fun j => ht.froz h.lt hm (h.fz j), Nat.lt_of_lt_of_le h.lt ht.size⟩
theorem Box.far {w : World} {b c k : Nat} {u : Value} {vs : List Value} (h : Box w b vs) (hne : b ≠ c) : Box (w.setCell ⟨c, k, none⟩ u) b vs :=
  ⟨fun j v hv => by
    rw [World.cell?_setCell_other]
    · exact h.cells j v hv
    · intro e; injection e with e _ _; exact hne e.symm, fun j => by rw [World.frozen?_setCell]; exact h.fz j, by have := h.lt; simpa [World.setCell] using this⟩
theorem Box.set {w : World} {b k : Nat} {u : Value} {vs : List Value} (h : Box w b vs) (hk : k < vs.length) : Box (w.setCell ⟨b, k, none⟩ u) b (vs.set k u) :=
  ⟨fun j v hv => by
    by_cases hj : j = k
    · subst hj
      rw [List.getElem?_set_self hk] at hv
      injection hv with hv
      subst hv
      exact css (h.cells j _ (List.getElem?_eq_getElem hk))
    · rw [List.getElem?_set_ne (by omega)] at hv
      rw [World.cell?_setCell_other]
      · exact h.cells j v hv
      · intro e; injection e with _ e _; exact hj e.symm, fun j => by rw [World.frozen?_setCell]; exact h.fz j, by have := h.lt; simpa [World.setCell] using this⟩
theorem Box.four {w : World} {b : Nat} {v0 v1 v2 v3 : Value} (h : Box w b [v0, v1, v2, v3]) : w.cell? ⟨b, 0, none⟩ = some v0 ∧ w.cell? ⟨b, 1, none⟩ = some v1 ∧ w.cell? ⟨b, 2, none⟩ = some v2 ∧ w.cell? ⟨b, 3, none⟩ = some v3 ∧ ∀ j, w.frozen? ⟨b, j, none⟩ = false :=
  ⟨h.cells 0 _ rfl, h.cells 1 _ rfl, h.cells 2 _ rfl, h.cells 3 _ rfl, h.fz⟩
abbrev set3 (w : World) (b : Nat) (u0 u1 u2 : Value) : World := ((w.setCell ⟨b, 0, none⟩ u0).setCell ⟨b, 1, none⟩ u1).setCell ⟨b, 2, none⟩ u2
abbrev set4 (w : World) (b : Nat) (u0 u1 u2 u3 : Value) : World := (set3 w b u0 u1 u2).setCell ⟨b, 3, none⟩ u3
theorem Turn.set3 {D M D' M' : Nat → Bool} {w w' : World} (h : Turn D M D' M' w w') {b : Nat} (hb : w.heap.size ≤ b ∨ M b = true) (u0 u1 u2 : Value) : Turn D M D' M' w (Go.Proofs.Ytnnadmabgaopdaa.set3 w' b u0 u1 u2) :=
  ((h.set ⟨b, 0, none⟩ u0 hb).set ⟨b, 1, none⟩ u1 hb).set ⟨b, 2, none⟩ u2 hb
theorem Turn.set4 {D M D' M' : Nat → Bool} {w w' : World} (h : Turn D M D' M' w w') {b : Nat} (hb : w.heap.size ≤ b ∨ M b = true) (u0 u1 u2 u3 : Value) : Turn D M D' M' w (Go.Proofs.Ytnnadmabgaopdaa.set4 w' b u0 u1 u2 u3) :=
  (h.set3 hb u0 u1 u2).set ⟨b, 3, none⟩ u3 hb

theorem far_cell {w : World} {b j c k : Nat} {u : Value} (hne : b ≠ c) : (w.setCell ⟨c, k, none⟩ u).cell? ⟨b, j, none⟩ = w.cell? ⟨b, j, none⟩ := by
  rw [World.cell?_setCell_other]
  intro e; injection e with e _ _; exact hne e.symm

theorem Below.set3 {B : Nat} {w w' : World} (h : Below B w w') {b : Nat} (hb : B ≤ b) (u0 u1 u2 : Value) : Below B w (Go.Proofs.Ytnnadmabgaopdaa.set3 w' b u0 u1 u2) :=
  ((h.setCell (p := ⟨b, 0, none⟩) hb _).setCell (p := ⟨b, 1, none⟩) hb _).setCell (p := ⟨b, 2, none⟩) hb _
theorem Below.set4 {B : Nat} {w w' : World} (h : Below B w w') {b : Nat} (hb : B ≤ b) (u0 u1 u2 u3 : Value) : Below B w (Go.Proofs.Ytnnadmabgaopdaa.set4 w' b u0 u1 u2 u3) :=
  (Below.set3 h hb u0 u1 u2).setCell (p := ⟨b, 3, none⟩) hb _

def withB (D : Nat → Bool) (v : Value) : Nat → Bool := fun k => D k || v.ownBlock == some k
theorem withB_of {D : Nat → Bool} {v : Value} {k : Nat} (h : D k = true) : withB D v k = true := by simp [withB, h]
theorem withB_own {D : Nat → Bool} {v : Value} {k : Nat} (h : v.ownBlock = some k) : withB D v k = true := by simp [withB, h]
theorem withB_no {D : Nat → Bool} {v : Value} {k : Nat} (h : v.ownBlock ≠ some k) : withB D v k = D k := by simp [withB, h]
theorem Box.block {w w' : World} {b : Nat} {vs : List Value} (h : Box w b vs) (hb : w'.heap[b]? = w.heap[b]?) (hlt : b < w'.heap.size) : Box w' b vs :=
  ⟨fun j u hu => by rw [World.cell?_of_block hb]; exact h.cells j u hu, fun j => by rw [World.frozen?_of_block hb]; exact h.fz j, hlt⟩
def Okd (D M : Nat → Bool) (w : World) : Prop := (∀ k, M k = true → D k = true) ∧ Old D w
/-- Of the new blocks only those of M are not looked at. -/
def Fin (D M' : Nat → Bool) (n : Nat) : Nat → Bool := fun k => if k < n then D k else M' k
theorem fin_old {D M' : Nat → Bool} {n k : Nat} (h : k < n) : Fin D M' n k = D k := if_pos h
theorem fin_new {D M' : Nat → Bool} {n k : Nat} (h : n ≤ k) : Fin D M' n k = M' k := if_neg (by omega)
theorem fin_less {D M D1 M' : Nat → Bool} {w w' : World} (ht : Turn D M D1 M' w w') (ho : Okd D1 M' w') {k : Nat} (h : D1 k = false) : Fin D M' w.heap.size k = false := by
  by_cases hk : k < w.heap.size
  · rw [fin_old hk, ← ht.dd k hk]; exact h
  · rw [fin_new (by omega)]
    cases hm : M' k with
    | false => rfl
    | true => rw [ho.1 k hm] at h; cases h
theorem TmV.fin {D M D1 M' : Nat → Bool} {w w' : World} {t : Tm} {v : Value} (h : TmV (hide D1 w') t v) (ht : Turn D M D1 M' w w') (ho : Okd D1 M' w') : TmV (hide (Fin D M' w.heap.size) w') t v :=
  TmV.stay (Stays.less fun k hk => fin_less ht ho hk) t v h
/-- A row of the call's own in the making: it is not looked at. -/
def Row (D M : Nat → Bool) (w : World) (base : Nat) (v : Value) (ps : List TmP) : Prop :=
  RowP w base 25 v ps ∧ (∀ g, v.ownBlock = some g → D g = true ∧ M g = false) ∧ ∀ p ∈ ps, TmV (hide D w) p.1 (pVal p)
theorem Row.none (D M : Nat → Bool) (w : World) (base : Nat) : Row D M w base (.slice none 0 0) [] := ⟨World.ownsRow_nil _ _ _ _, fun g hg => (by cases hg), fun p hp => (by cases hp)⟩
theorem Row.turn {D M D' M' : Nat → Bool} {w w' : World} {base : Nat} {v : Value} {ps : List TmP} (h : Row D M w base v ps) (ht : Turn D M D' M' w w') (md : ∀ k, M k = true → D k = true) : Row D' M' w' base v ps := by
  obtain ⟨h1, h2, h3⟩ := h
  refine ⟨row_at h1 (fun g hg => ht.kept g (row_in h1 hg).2 (h2 g hg).2), fun g hg => ?_, fun p hp => TmV.stay (ht.stays md) _ _ (h3 p hp)⟩
  have hlt := (row_in h1 hg).2
  rw [ht.dd g hlt, ht.mm g hlt]
  exact h2 g hg
theorem grown_stays {D : Nat → Bool} {W w' : World} {v v' : Value} (hg : W.grownBy w' v.ownBlock) (hD : ∀ g, v.ownBlock = some g → D g = true) (hv : v'.ownBlock = v.ownBlock ∨ v'.ownBlock = some W.heap.size) : Stays (hide D W) (hide (withB D v') w') :=
  Stays.hide hg.size fun k hk hd => ⟨by
    rw [withB_no]
    · exact hd
    · intro e
      rcases hv with hv | hv
      · rw [hD k (hv.symm.trans e)] at hd; cases hd
      · rw [hv] at e; injection e with e; omega, hg.block k hk (fun e => by rw [hD k e.symm] at hd; cases hd)⟩
theorem Turn.grown {D M D1 M1 : Nat → Bool} {w W w' : World} {v v' : Value} (ht : Turn D M D1 M1 w W) (hg : W.grownBy w' v.ownBlock) (hb : ∀ g, v.ownBlock = some g → w.heap.size ≤ g) (hv : v'.ownBlock = v.ownBlock ∨ v'.ownBlock = some W.heap.size) : Turn D M (withB D1 v') M1 w w' :=
  ⟨Nat.le_trans ht.size hg.size, fun k hk => by
    rw [withB_no]
    · exact ht.dd k hk
    · intro e
      rcases hv with hv | hv
      · have := hb k (hv.symm.trans e); omega
      · rw [hv] at e; injection e with e; have := ht.size; omega, ht.mm, fun k hk hm => (hg.block k (Nat.lt_of_lt_of_le hk ht.size) (fun e => by have := hb k e.symm; omega)).trans (ht.kept k hk hm), ht.ot.grown hg (Nat.zero_le _) (fun _ _ => Nat.zero_le _)⟩
/-- One more. -/
theorem Row.more {D M : Nat → Bool} {W w' : World} {base : Nat} {v v' : Value} {ps : List TmP} {p : TmP} (h : Row D M W base v ps) (hp : TmV (hide D W) p.1 (pVal p)) (ho : Okd D M W) (hg : W.grownBy w' v.ownBlock) (hv : v'.ownBlock = v.ownBlock ∨ v'.ownBlock = some W.heap.size)
    (hr : w'.ownsRow base 25 4 v' (ps.length + 1) (ps.flatMap pCells ++ pCells p)) : Row (withB D v') M w' base v' (ps ++ [p]) := by
  obtain ⟨h1, h2, h3⟩ := h
  have hs := grown_stays hg (fun g e => (h2 g e).1) hv
  refine ⟨?_, fun g hg' => ⟨withB_own hg', ?_⟩, fun q hq => ?_⟩
  · unfold RowP
    rw [List.length_append, List.flatMap_append, List.length_singleton]
    simpa using hr
  · rcases hv with hv | hv
    · exact (h2 g (hv.symm.trans hg')).2
    · rw [hv] at hg'
      injection hg' with e
      subst e
      cases hm : M W.heap.size with
      | false => rfl
      | true => have := ho.1 _ hm; rw [ho.2 _ (Nat.le_refl _)] at this; cases this
  · rcases List.mem_append.1 hq with hq | hq
    · exact TmV.stay hs _ _ (h3 q hq)
    · simp at hq
      subst hq
      exact TmV.stay hs _ _ hp
/-- The row is looked at again. -/
theorem Row.fin {D M D1 M' : Nat → Bool} {w w' : World} {v : Value} {ps : List TmP} (h : Row D1 M' w' w.heap.size v ps) (ht : Turn D M D1 M' w w') (ho : Okd D1 M' w') (hl : ps.length ≤ 100000) : Tms (hide (Fin D M' w.heap.size) w') v (ps.map (·.1)) := by
  obtain ⟨h1, h2, h3⟩ := h
  have hh : RowP (hide (Fin D M' w.heap.size) w') w.heap.size 25 v ps := by
    refine row_at h1 (fun g hg => hide_get _ _ _ ?_)
    rw [fin_new (row_in h1 hg).1]
    exact (h2 g hg).2
  exact hh.terms (fun p hp => TmV.fin (h3 p hp) ht ho) (by unfold BIG; omega)

theorem four_of {w : World} {t : Tm} {v : Value} (h : TmV w t v) : ∃ k n s a m c, v = .agg #[.int .i64 k, .int .i64 n, .string s, .slice a m c] ∧ t.k = k ∧ t.n = n ∧ t.s = s ∧ v = pVal (t, .slice a m c) := by
  cases t with
  | mk k n s ts =>
    obtain ⟨u, rfl, _, _, _, hu⟩ := tmV_iff.1 h
    obtain ⟨a, c, rfl, _⟩ := hu.len
    exact ⟨k, n, s, a, _, c, rfl, rfl, rfl, rfl, rfl⟩
theorem TmV.put4 {D : Nat → Bool} {w : World} {t : Tm} {v : Value} (h : TmV (hide D w) t v) {b : Nat} (hd : D b = true) (u0 u1 u2 u3 : Value) : TmV (hide D (set4 w b u0 u1 u2 u3)) t v :=
  TmV.stay ((((Stays.set ⟨b, 0, none⟩ u0 hd).trans (Stays.set ⟨b, 1, none⟩ u1 hd)).trans (Stays.set ⟨b, 2, none⟩ u2 hd)).trans (Stays.set ⟨b, 3, none⟩ u3 hd)) t v h
theorem Tms.put4 {D : Nat → Bool} {w : World} {t : List Tm} {v : Value} (h : Tms (hide D w) v t) {b : Nat} (hd : D b = true) (u0 u1 u2 u3 : Value) : Tms (hide D (set4 w b u0 u1 u2 u3)) v t :=
  h.stay ((((Stays.set ⟨b, 0, none⟩ u0 hd).trans (Stays.set ⟨b, 1, none⟩ u1 hd)).trans (Stays.set ⟨b, 2, none⟩ u2 hd)).trans (Stays.set ⟨b, 3, none⟩ u3 hd))
theorem Okd.later {D M : Nat → Bool} {w w' : World} (h : Okd D M w) (hb : w.heap.size ≤ w'.heap.size) : Okd D M w' := ⟨h.1, h.2.mono hb⟩
theorem Okd.put4 {D M : Nat → Bool} {w : World} (h : Okd D M w) (b : Nat) (u0 u1 u2 u3 : Value) : Okd D M (set4 w b u0 u1 u2 u3) := h.later (by simp [World.setCell])
theorem Okd.box {D M : Nat → Bool} {w w' : World} (h : Okd D M w) (hb : w.heap.size ≤ w'.heap.size) {b : Nat} (hlt : b < w'.heap.size) : Okd (plusB D b) M w' :=
  ⟨fun k hk => plusB_of (h.1 k hk), fun k hk => (plusB_ne (by omega)).trans (h.2 k (Nat.le_trans hb hk))⟩
theorem TmV.box {D : Nat → Bool} {w w' : World} {t : Tm} {v : Value} (h : TmV (hide D w) t v) (hb : Below w.heap.size w w') {b : Nat} (hn : w.heap.size ≤ b) : TmV (hide (plusB D b) w') t v :=
  TmV.stay (Stays.below hb fun k hk hd => (plusB_ne (by omega)).trans hd) t v h
theorem Tms.box {D : Nat → Bool} {w w' : World} {t : List Tm} {v : Value} (h : Tms (hide D w) v t) (hb : Below w.heap.size w w') {b : Nat} (hn : w.heap.size ≤ b) : Tms (hide (plusB D b) w') v t :=
  h.stay (Stays.below hb fun k hk hd => (plusB_ne (by omega)).trans hd)

/-- A row of the call's own in the making: it is not looked at. -/
def RowY (D M : Nat → Bool) (w : World) (base : Nat) (v : Value) (ps : List TmP) : Prop :=
  RowP w base 38 v ps ∧ (∀ g, v.ownBlock = some g → D g = true ∧ M g = false) ∧ ∀ p ∈ ps, TmV (hide D w) p.1 (pVal p)
theorem RowY.none (D M : Nat → Bool) (w : World) (base : Nat) : RowY D M w base (.slice none 0 0) [] := ⟨World.ownsRow_nil _ _ _ _, fun g hg => (by cases hg), fun p hp => (by cases hp)⟩
theorem RowY.turn {D M D' M' : Nat → Bool} {w w' : World} {base : Nat} {v : Value} {ps : List TmP} (h : RowY D M w base v ps) (ht : Turn D M D' M' w w') (md : ∀ k, M k = true → D k = true) : RowY D' M' w' base v ps := by
  obtain ⟨h1, h2, h3⟩ := h
  refine ⟨row_at h1 (fun g hg => ht.kept g (row_in h1 hg).2 (h2 g hg).2), fun g hg => ?_, fun p hp => TmV.stay (ht.stays md) _ _ (h3 p hp)⟩
  have hlt := (row_in h1 hg).2
  rw [ht.dd g hlt, ht.mm g hlt]
  exact h2 g hg
/-- One more. -/
theorem RowY.more {D M : Nat → Bool} {W w' : World} {base : Nat} {v v' : Value} {ps : List TmP} {p : TmP} (h : RowY D M W base v ps) (hp : TmV (hide D W) p.1 (pVal p)) (ho : Okd D M W) (hg : W.grownBy w' v.ownBlock) (hv : v'.ownBlock = v.ownBlock ∨ v'.ownBlock = some W.heap.size)
    (hr : w'.ownsRow base 38 4 v' (ps.length + 1) (ps.flatMap pCells ++ pCells p)) : RowY (withB D v') M w' base v' (ps ++ [p]) := by
  obtain ⟨h1, h2, h3⟩ := h
  have hs := grown_stays hg (fun g e => (h2 g e).1) hv
  refine ⟨?_, fun g hg' => ⟨withB_own hg', ?_⟩, fun q hq => ?_⟩
  · unfold RowP
    rw [List.length_append, List.flatMap_append, List.length_singleton]
    simpa using hr
  · rcases hv with hv | hv
    · exact (h2 g (hv.symm.trans hg')).2
    · rw [hv] at hg'
      injection hg' with e
      subst e
      cases hm : M W.heap.size with
      | false => rfl
      | true => have := ho.1 _ hm; rw [ho.2 _ (Nat.le_refl _)] at this; cases this
  · rcases List.mem_append.1 hq with hq | hq
    · exact TmV.stay hs _ _ (h3 q hq)
    · simp at hq
      subst hq
      exact TmV.stay hs _ _ hp
/-- The row is looked at again. -/
theorem RowY.fin {D M D1 M' : Nat → Bool} {w w' : World} {v : Value} {ps : List TmP} {base : Nat} (hbase : w.heap.size ≤ base) (h : RowY D1 M' w' base v ps) (ht : Turn D M D1 M' w w') (ho : Okd D1 M' w') (hl : ps.length * 56 ≤ BIG) : Tms (hide (Fin D M' w.heap.size) w') v (ps.map (·.1)) := by
  obtain ⟨h1, h2, h3⟩ := h
  have hh : RowP (hide (Fin D M' w.heap.size) w') base 38 v ps := by
    refine row_at h1 (fun g hg => hide_get _ _ _ ?_)
    rw [fin_new (Nat.le_trans hbase (row_in h1 hg).1)]
    exact (h2 g hg).2
  exact hh.terms (fun p hp => TmV.fin (h3 p hp) ht ho) hl
theorem infoTermR : (Try.prog.info? 38).map (fun i => (i.zero, i.size, i.bytes)) = some (some (.agg #[.int .i64 0, .int .i64 0, .string ⟨#[]⟩, .slice none 0 0]), 4, 56) := by kernel_rfl
abbrev noM : Nat → Bool := fun _ => false
theorem fin_no {D : Nat → Bool} {w : World} (h : Old D w) : Fin D noM w.heap.size = D := by
  funext k
  by_cases hk : k < w.heap.size
  · exact fin_old hk
  · rw [fin_new (by omega)]
    exact (h k (by omega)).symm
theorem okd_no {D : Nat → Bool} {w : World} (h : Old D w) : Okd D noM w := And.intro (fun k hk => absurd hk (by simp)) h
theorem take_next {α : Type} {l : List α} {k : Nat} {x : α} (h : l[k]? = some x) : l.take (k + 1) = l.take k ++ [x] := by rw [List.take_add_one, h]; rfl
theorem RowY.put {D M : Nat → Bool} {w : World} {base : Nat} {v : Value} {ps : List TmP} (h : RowY D M w base v ps) (a : Addr) (u : Value) (hd : D a.block = true) (hne : ∀ g, v.ownBlock = some g → g ≠ a.block) : RowY D M (w.setCell a u) base v ps :=
  ⟨row_at h.1 (fun g hg => Below.heap_setCell w a u g (hne g hg)), h.2.1, fun p hp => TmV.stay (Stays.set a u hd) _ _ (h.2.2 p hp)⟩
theorem far_one {w : World} {b j c k : Nat} {v u : Value} (h : w.cell? ⟨b, j, none⟩ = some v) (hne : b ≠ c) : (w.setCell ⟨c, k, none⟩ u).cell? ⟨b, j, none⟩ = some v := by rw [far_cell hne]; exact h
end Go.Proofs.Ytnnadmabgaopdaa
