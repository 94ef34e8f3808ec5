/- Package term: Items. -/
import Derived.Test.YtnnadmabgaopdaaTnE
import Derived.Test.YtnnadmabgaopdaaHid
import Derived.Deep.RegionHeld3
namespace Go.Proofs.Ytnnadmabgaopdaa
open Go.RowKit
set_option linter.unusedVariables false

theorem results_tmp_cell' {fn : Func} {p u : Tmp} {ty : TypeId} (h : fn.results = #[.tmp u, .cell p ty]) (tmps : Array Value) (P : Program) (w : World) :
    (results fn tmps).run P w =
      ((asAddr (tmps.getD p undef)).run P w).andThen fun a w₁ => ((loadVar ty a).run P w₁).andThen fun x w₂ => .ok (.tuple #[tmps.getD u undef, x]) w₂ := by
  simp only [results, h]
  simp [Sem.run_bind, Result.andThen]
def sliceLen : Value → Nat | .slice _ n _ => n | _ => 0
/-- The term at hand in its box, the items so far. -/
structure ItemsAt (D : Nat → Bool) (w wr : World) (x y : Tm) (u z : Value) (ps : List TmP) : Prop where
  tm : TmV (hide D w) y (pVal (y, u))
  old : Old D w
  fm : formedT y = true
  b0 : wr.cell? ⟨w.heap.size, 0, none⟩ = some (.int .i64 y.k)
  b1 : wr.cell? ⟨w.heap.size, 1, none⟩ = some (.int .i64 y.n)
  b2 : wr.cell? ⟨w.heap.size, 2, none⟩ = some (.string y.s)
  b3 : wr.cell? ⟨w.heap.size, 3, none⟩ = some u
  fz : ∀ j, wr.frozen? ⟨w.heap.size, j, none⟩ = false
  fz1 : ∀ j, wr.frozen? ⟨w.heap.size + 1, j, none⟩ = false
  r0 : wr.cell? ⟨w.heap.size + 1, 0, none⟩ = some (.int .i64 0)
  r1 : wr.cell? ⟨w.heap.size + 1, 1, none⟩ = some (.int .i64 0)
  r2 : wr.cell? ⟨w.heap.size + 1, 2, none⟩ = some (.string ⟨#[]⟩)
  r3 : wr.cell? ⟨w.heap.size + 1, 3, none⟩ = some (.slice none 0 0)
  row : RowP wr (w.heap.size + 2) 25 z ps
  all : ∀ p ∈ ps, TmV (hide D w) p.1 (pVal p)
  items : itemsT x = (ps.map (·.1) ++ (itemsT y).1, (itemsT y).2)
  size : sizeN y + ps.length ≤ sizeN x
  bel : Below w.heap.size w wr
  big : w.heap.size + 2 ≤ wr.heap.size
theorem ItemsAt.start {D : Nat → Bool} {w w1 : World} {x : Tm} {u : Value} (ho : Old D w) (hv : TmV (hide D w) x (pVal (x, u))) (hf : formedT x = true) (hb : Below ((w.alloc (box4 x.k x.n x.s u 25)).alloc (box4 0 0 ⟨#[]⟩ (.slice none 0 0) 25)).heap.size ((w.alloc (box4 x.k x.n x.s u 25)).alloc (box4 0 0 ⟨#[]⟩ (.slice none 0 0) 25)) w1) : ItemsAt D w w1 x x u (.slice none 0 0) [] :=
  { tm := hv, old := ho, fm := hf, b0 := cell_later hb (by simp), b1 := cell_later hb (by simp), b2 := cell_later hb (by simp), b3 := cell_later hb (by simp)
    fz := fun j => by rw [World.frozen?_of_block (hb.block w.heap.size (by simp <;> omega))]; simp
    fz1 := fun j => by rw [World.frozen?_of_block (hb.block (w.heap.size + 1) (by simp <;> omega))]; simp
    r0 := cell_later hb (by simp), r1 := cell_later hb (by simp), r2 := cell_later hb (by simp), r3 := cell_later hb (by simp)
    row := World.ownsRow_nil _ _ _ _, all := fun p hp => by simp at hp, items := by simp, size := by simp
    bel := Ext.trans' ((bel1' _ _).alloc (by simp) _) hb
    big := by have := hb.size; simp at this; omega }
theorem pair_form {t a b : Tm} (hs : t.s.data.toList = [46]) (hp : t.args = [a, b]) (hf : formedT t = true) : pairT t = some (a, b) := by
  cases t with
  | mk k n s ts =>
    cases (show ts = [a, b] from hp)
    rw [formedT, Bool.and_eq_true] at hf
    have h := hf.1
    unfold plainT at h
    by_cases h0 : k = 0
    · rw [if_pos h0] at h; simp at h
    · by_cases h1 : k = 1
      · rw [if_neg h0, if_pos h1] at h; simp at h
      · by_cases h2 : k = 2
        · rw [pairT, h2, (show s.data.toList = [46] from hs)]; rfl
        · rw [if_neg h0, if_neg h1, if_neg h2] at h; cases h
theorem pair_not {t : Tm} (h : pairT t = none) (hf : formedT t = true) : ¬ t.s.data.toList = [46] ∨ ¬ t.args.length = 2 := by
  by_cases hs : t.s.data.toList = [46]
  · right
    intro h2
    match hp : t.args, h2 with
    | [a, b], _ => rw [pair_form hs hp hf] at h; cases h
  · exact Or.inl hs
theorem ItemsAt.grown {D : Nat → Bool} {w wr w4 : World} {x y : Tm} {uy z : Value} {ps : List TmP} {o : Obj} (h : ItemsAt D w wr x y uy z ps) (hg : (wr.alloc o).grownBy w4 z.ownBlock) :
    w4.cell? ⟨w.heap.size, 0, none⟩ = some (.int .i64 y.k) ∧ w4.cell? ⟨w.heap.size, 1, none⟩ = some (.int .i64 y.n) ∧ w4.cell? ⟨w.heap.size, 2, none⟩ = some (.string y.s) ∧ w4.cell? ⟨w.heap.size, 3, none⟩ = some uy ∧ (∀ j, w4.frozen? ⟨w.heap.size, j, none⟩ = false) ∧ Below w.heap.size w w4 := by
  have hz : ∀ k, z.ownBlock = some k → w.heap.size + 2 ≤ k := fun k hk => (h.row.lt k hk).1
  have hbig := h.big
  have hB4 : Below w.heap.size w w4 := (h.bel.alloc (by omega) o).grown hg (by simp; omega) (fun k hk => by have := hz k hk; omega)
  have k0 : w4.heap[w.heap.size]? = wr.heap[w.heap.size]? := by
    rw [hg.block w.heap.size (by simp; omega) (fun e => by have := hz _ e.symm; omega)]
    exact (bel1' wr o).block w.heap.size (by omega)
  exact ⟨(World.cell?_of_block (a := ⟨w.heap.size, 0, none⟩) k0).trans h.b0, (World.cell?_of_block (a := ⟨w.heap.size, 1, none⟩) k0).trans h.b1, (World.cell?_of_block (a := ⟨w.heap.size, 2, none⟩) k0).trans h.b2, (World.cell?_of_block (a := ⟨w.heap.size, 3, none⟩) k0).trans h.b3,
    fun j => by rw [World.frozen?_of_block k0]; exact h.fz j, hB4⟩
/-- Behind a round: the item appended, the box turned. -/
theorem ItemsAt.next {D : Nat → Bool} {w wr w4 : World} {x y p q : Tm} {uy up uq z z' : Value} {ps : List TmP} {o : Obj} (h : ItemsAt D w wr x y uy z ps) (hp : pairT y = some (p, q)) (hvp : TmV (hide D w) p (pVal (p, up))) (hvq : TmV (hide D w) q (pVal (q, uq)))
    (hown : w4.ownsRow (w.heap.size + 2) 25 4 z' (ps.length + 1) (ps.flatMap pCells ++ pCells (p, up))) (hg : (wr.alloc o).grownBy w4 z.ownBlock) :
    ItemsAt D w (setFour w4 w.heap.size (.int .i64 q.k) (.int .i64 q.n) (.string q.s) uq) x q uq z' (ps ++ [(p, up)]) := by
  have hz : ∀ k, z.ownBlock = some k → w.heap.size + 2 ≤ k := fun k hk => (h.row.lt k hk).1
  have hbig := h.big
  have hB4 : Below w.heap.size w w4 := (h.bel.alloc (by omega) o).grown hg (by simp; omega) (fun k hk => by have := hz k hk; omega)
  have hF := four_below (.int .i64 q.k) (.int .i64 q.n) (.string q.s) uq hB4 (Nat.le_refl w.heap.size)
  have k0 : w4.heap[w.heap.size]? = wr.heap[w.heap.size]? := by
    rw [hg.block w.heap.size (by simp; omega) (fun e => by have := hz _ e.symm; omega)]
    exact (bel1' wr o).block w.heap.size (by omega)
  have k1 : w4.heap[w.heap.size + 1]? = wr.heap[w.heap.size + 1]? := by
    rw [hg.block (w.heap.size + 1) (by simp; omega) (fun e => by have := hz _ e.symm; omega)]
    exact (bel1' wr o).block (w.heap.size + 1) (by omega)
  have c0 := (World.cell?_of_block (a := ⟨w.heap.size, 0, none⟩) k0).trans h.b0
  have c1 := (World.cell?_of_block (a := ⟨w.heap.size, 1, none⟩) k0).trans h.b1
  have c2 := (World.cell?_of_block (a := ⟨w.heap.size, 2, none⟩) k0).trans h.b2
  have c3 := (World.cell?_of_block (a := ⟨w.heap.size, 3, none⟩) k0).trans h.b3
  obtain ⟨d0, d1, d2, d3⟩ := four_cells (.int .i64 q.k) (.int .i64 q.n) (.string q.s) uq c0 c1 c2 c3
  have hit := items_some hp
  obtain ⟨hsz, hargs, hk, hs⟩ := pair_size hp
  have far := fun j => four_far w4 w.heap.size (.int .i64 q.k) (.int .i64 q.n) (.string q.s) uq (w.heap.size + 1) j (by omega)
  have fr : ∀ b j, (setFour w4 w.heap.size (.int .i64 q.k) (.int .i64 q.n) (.string q.s) uq).frozen? ⟨b, j, none⟩ = w4.frozen? ⟨b, j, none⟩ := fun b j => by
    unfold setFour
    rw [World.frozen?_setCell, World.frozen?_setCell, World.frozen?_setCell, World.frozen?_setCell]
  exact
    { tm := hvq
      old := h.old
      fm := by
        have hf := h.fm
        cases y with
        | mk ky ny sy ty =>
          rw [formedT, Bool.and_eq_true] at hf
          exact formed_mem hf.2 (by rw [(show ty = [p, q] from hargs)]; simp)
      b0 := d0, b1 := d1, b2 := d2, b3 := d3
      fz := fun j => by rw [fr, World.frozen?_of_block k0]; exact h.fz j
      fz1 := fun j => by rw [fr, World.frozen?_of_block k1]; exact h.fz1 j
      r0 := by rw [far, World.cell?_of_block k1]; exact h.r0
      r1 := by rw [far, World.cell?_of_block k1]; exact h.r1
      r2 := by rw [far, World.cell?_of_block k1]; exact h.r2
      r3 := by rw [far, World.cell?_of_block k1]; exact h.r3
      row := by
        unfold RowP
        rw [List.length_append, List.flatMap_append]
        have := four_row (.int .i64 q.k) (.int .i64 q.n) (.string q.s) uq hown (show w.heap.size < w.heap.size + 2 by omega)
        simpa using this
      all := fun r hr => by
        rcases List.mem_append.1 hr with hr | hr
        · exact h.all r hr
        · simp at hr; subst hr; exact hvp
      items := by rw [h.items, hit]; simp
      size := by have := h.size; rw [List.length_append, List.length_singleton]; omega
      bel := hF
      big := by
        have := hg.size
        unfold setFour
        simp at this ⊢
        omega }
theorem ItemsAt.finish {D : Nat → Bool} {w wr : World} {x y : Tm} {uy z : Value} {ps : List TmP} (h : ItemsAt D w wr x y uy z ps) (hp : pairT y = none) (hx : sizeN x ≤ 2000) (v0 v1 v2 v3 : Value) :
    Tms (hide D (setFour wr (w.heap.size + 1) v0 v1 v2 v3).drew) z (itemsT x).1 ∧ TmV (hide D (setFour wr (w.heap.size + 1) v0 v1 v2 v3).drew) (itemsT x).2 (pVal (y, uy)) ∧ Below w.heap.size w (setFour wr (w.heap.size + 1) v0 v1 v2 v3).drew := by
  have hB : Below w.heap.size w (setFour wr (w.heap.size + 1) v0 v1 v2 v3).drew := (four_below v0 v1 v2 v3 h.bel (by omega)).drew
  have hi := h.items
  rw [items_none hp] at hi
  simp only [List.append_nil] at hi
  rw [hi]
  have hsz := h.size
  refine ⟨?_, TmV.later hB h.tm, hB⟩
  have hR : RowP (setFour wr (w.heap.size + 1) v0 v1 v2 v3).drew (w.heap.size + 2) 25 z ps := four_row v0 v1 v2 v3 h.row (by omega)
  exact (hR.hide (fun k hk _ => h.old k (by omega))).terms (fun p hp => TmV.later hB (h.all p hp)) (by unfold BIG; omega)
end Go.Proofs.Ytnnadmabgaopdaa
