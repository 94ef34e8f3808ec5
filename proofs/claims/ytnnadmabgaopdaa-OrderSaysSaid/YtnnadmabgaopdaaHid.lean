/- Worlds of which some blocks are not looked at: terms that read without them. Nothing here speaks of one program. -/
import Derived.Test.YtnnadmabgaopdaaTmI
namespace Go.Proofs.Ytnnadmabgaopdaa
open Go.RowKit
set_option linter.unusedVariables false

/-- The world without these blocks. -/
def hide (D : Nat → Bool) (w : World) : World := { w with heap := w.heap.mapIdx fun i o => if D i then Obj.deferred none else o }
theorem hide_size (D : Nat → Bool) (w : World) : (hide D w).heap.size = w.heap.size := by unfold hide; simp
theorem hide_get (D : Nat → Bool) (w : World) (k : Nat) (h : D k = false) : (hide D w).heap[k]? = w.heap[k]? := by
  unfold hide
  simp only [Array.getElem?_mapIdx]
  cases w.heap[k]? with
  | none => rfl
  | some o => simp [h]
theorem hide_gone (D : Nat → Bool) (w : World) (a : Addr) (h : D a.block = true) : (hide D w).cell? a = none := by
  unfold World.cell? hide
  simp only [Array.getElem?_mapIdx]
  cases w.heap[a.block]? with
  | none => rfl
  | some o => simp [h]
theorem hide_cell (D : Nat → Bool) (w : World) (a : Addr) (h : D a.block = false) : (hide D w).cell? a = w.cell? a := World.cell?_of_block (hide_get D w a.block h)
theorem hide_none (w : World) : hide (fun _ => false) w = w := by
  unfold hide
  have : (w.heap.mapIdx fun i o => if (fun _ => false) i = true then Obj.deferred none else o) = w.heap := by
    apply Array.ext
    · simp
    · intro i h1 h2; simp
  rw [this]
/-- Each cell that is there is there still. -/
def Stays (w w' : World) : Prop := w.heap.size ≤ w'.heap.size ∧ ∀ a v, w.cell? a = some v → w'.cell? a = some v
theorem Stays.refl (w : World) : Stays w w := ⟨Nat.le_refl _, fun _ _ h => h⟩
theorem Stays.trans {a b c : World} (h : Stays a b) (h' : Stays b c) : Stays a c := ⟨Nat.le_trans h.1 h'.1, fun x v hv => h'.2 x v (h.2 x v hv)⟩
theorem Stays.hide {D D' : Nat → Bool} {w w' : World} (hs : w.heap.size ≤ w'.heap.size) (hk : ∀ k, k < w.heap.size → D k = false → D' k = false ∧ w'.heap[k]? = w.heap[k]?) : Stays (hide D w) (hide D' w') := by
  refine ⟨by rw [hide_size, hide_size]; exact hs, fun a v hv => ?_⟩
  have hlt : a.block < w.heap.size := by
    have := World.block_lt_of_cell? _ _ hv
    rwa [hide_size] at this
  cases hd : D a.block with
  | true => rw [hide_gone D w a hd] at hv; cases hv
  | false =>
    obtain ⟨h1, h2⟩ := hk _ hlt hd
    rw [hide_cell D w a hd] at hv
    rw [hide_cell D' w' a h1, World.cell?_of_block h2]
    exact hv
theorem Stays.unhide (D : Nat → Bool) (w : World) : Stays (Go.Proofs.Ytnnadmabgaopdaa.hide D w) w := by
  refine ⟨by rw [hide_size]; exact Nat.le_refl _, fun a v hv => ?_⟩
  cases hd : D a.block with
  | true => rw [hide_gone D w a hd] at hv; cases hv
  | false => rwa [hide_cell D w a hd] at hv
/-- Nothing old has turned; of the old blocks the same are hidden. -/
theorem Stays.below {D D' : Nat → Bool} {w w' : World} (hb : Below w.heap.size w w') (hD : ∀ k, k < w.heap.size → D k = false → D' k = false) : Stays (Go.Proofs.Ytnnadmabgaopdaa.hide D w) (Go.Proofs.Ytnnadmabgaopdaa.hide D' w') :=
  Stays.hide hb.size fun k hk hd => ⟨hD k hk hd, hb.block k hk⟩
theorem Stays.less {D D' : Nat → Bool} {w : World} (hD : ∀ k, D k = false → D' k = false) : Stays (Go.Proofs.Ytnnadmabgaopdaa.hide D w) (Go.Proofs.Ytnnadmabgaopdaa.hide D' w) :=
  Stays.hide (Nat.le_refl _) fun k _ hd => ⟨hD k hd, rfl⟩
theorem Stays.set {D : Nat → Bool} {w : World} (a : Addr) (v : Value) (h : D a.block = true) : Stays (Go.Proofs.Ytnnadmabgaopdaa.hide D w) (Go.Proofs.Ytnnadmabgaopdaa.hide D (w.setCell a v)) :=
  Stays.hide (by simp [World.setCell]) fun k _ hd => ⟨hd, Below.heap_setCell w a v k (fun e => by rw [e, h] at hd; cases hd)⟩
mutual
theorem TmV.stay {w w' : World} (hb : Stays w w') : ∀ (x : Tm) (v : Value), TmV w x v → TmV w' x v
  | .mk k n s ts, v, h => by
    rw [TmV] at h ⊢
    obtain ⟨a, c, h1, h2, h3, h4, h5, h6, h7, h8⟩ := h
    refine ⟨a, c, h1, h2, h3, h4, h5, h6, h7, ?_⟩
    rcases h8 with h8 | ⟨b, off, e1, e2, e3⟩
    · exact Or.inl h8
    · exact Or.inr ⟨b, off, e1, Nat.lt_of_lt_of_le e2 hb.1, TmRow.stay hb ts b off e3⟩
theorem TmRow.stay {w w' : World} (hb : Stays w w') : ∀ (l : List Tm) (b off : Nat), TmRow w l b off → TmRow w' l b off
  | [], b, off, _ => by rw [TmRow]; trivial
  | x :: r, b, off, h => by
    rw [TmRow] at h ⊢
    obtain ⟨⟨c0, c1, c2, c3, h0, h1, h2, h3, h4⟩, h5⟩ := h
    exact ⟨⟨c0, c1, c2, c3, hb.2 _ _ h0, hb.2 _ _ h1, hb.2 _ _ h2, hb.2 _ _ h3, TmV.stay hb x _ h4⟩, TmRow.stay hb r b (off + 4) h5⟩
end
theorem Tms.stay {w w' : World} {v : Value} {l : List Tm} (h : Tms w v l) (hb : Stays w w') : Tms w' v l := by
  obtain ⟨a, c, h1, h2, h3, h4, h5⟩ := h
  refine ⟨a, c, h1, h2, h3, h4, ?_⟩
  rcases h5 with h5 | ⟨b, off, e1, e2, e3⟩
  · exact Or.inl h5
  · exact Or.inr ⟨b, off, e1, Nat.lt_of_lt_of_le e2 hb.1, TmRow.stay hb l b off e3⟩
/-- A row of the call's own that is not hidden. -/
theorem RowP.hide {w : World} {base : Nat} {ty : TypeId} {v : Value} {ps : List TmP} {D : Nat → Bool} (h : RowP w base ty v ps) (hD : ∀ k, base ≤ k → (∃ cur, w.heap[k]? = some (.cells cur ty (0, 0))) → D k = false) : RowP (Go.Proofs.Ytnnadmabgaopdaa.hide D w) base ty v ps := by
  obtain ⟨h1, h2⟩ := h
  refine ⟨h1, ?_⟩
  rcases h2 with h2 | ⟨g, cap, cur, hv, hg, hh, r⟩
  · exact Or.inl h2
  · exact Or.inr ⟨g, cap, cur, hv, hg, by rw [hide_get D w g (hD g hg ⟨_, hh⟩)]; exact hh, r⟩
def Old (D : Nat → Bool) (w : World) : Prop := ∀ k, w.heap.size ≤ k → D k = false
theorem Old.mono {D : Nat → Bool} {w w' : World} (h : Old D w) (hs : w.heap.size ≤ w'.heap.size) : Old D w' := fun k hk => h k (Nat.le_trans hs hk)
/-- What reads without the hidden blocks reads so later, if nothing old has turned. -/
theorem TmV.later {D : Nat → Bool} {w w' : World} (hb : Below w.heap.size w w') {x : Tm} {v : Value} (h : TmV (hide D w) x v) : TmV (hide D w') x v := TmV.stay (Stays.below hb fun _ _ h => h) x v h
theorem Tms.later {D : Nat → Bool} {w w' : World} (hb : Below w.heap.size w w') {x : List Tm} {v : Value} (h : Tms (hide D w) v x) : Tms (hide D w') v x := h.stay (Stays.below hb fun _ _ h => h)
theorem TmV.bare {D : Nat → Bool} {w : World} {x : Tm} {v : Value} (h : TmV (hide D w) x v) : TmV w x v := TmV.stay (Stays.unhide D w) x v h
theorem Tms.bare {D : Nat → Bool} {w : World} {x : List Tm} {v : Value} (h : Tms (hide D w) v x) : Tms w v x := h.stay (Stays.unhide D w)
end Go.Proofs.Ytnnadmabgaopdaa
