import Derived.Test.YtljgkfdnmikpfaaGreatDoorHgfad
import Derived.Deep.RegionHeld3
import Derived.Test.YtljgkfdnmikpfaaGreatDoorHgfac
import Derived.Shelf.Small.Strs
import Derived.Shelf.Strconv.Itoa0
import Derived.Shelf.Strconv.Itoa1
import Derived.Shelf.LaysM
import Derived.Shelf.Strconv.Itoa2
import Derived.Shelf.Strconv.Itoa3
import Derived.Shelf.Strconv.Itoa4
import Derived.Shelf.Strconv.ParseIntEmpty
import Derived.Shelf.Strconv.Clone
import Derived.Shelf.Strconv.SyntaxError
import Derived.Shelf.LaysC
import Derived.Shelf.Strconv.ToError
import Derived.Shelf.Strconv.Lower
import Derived.Shelf.Strconv.ParseUint10
import Derived.Shelf.Strconv.ParseUint10Empty
import Derived.Shelf.Strconv.ParseUint10Any
import Derived.Shelf.Strconv.ParseInt10
import Derived.Shelf.Strconv.RangeError
import Derived.Shelf.Strconv.ToErrorRange
import Derived.Shelf.Strconv.ParseUintEmpty
import Derived.Shelf.Strconv.ParseUint10b64
import Derived.Shelf.Strconv.ParseUint10b32
import Derived.Shelf.Strconv.ParseUint10b16
import Derived.Shelf.Strconv.ParseUint10b8
import Derived.Shelf.Strconv.ParseUint10At
import Derived.Shelf.Strconv.ParseInt10At64
import Derived.Shelf.Strconv.ParseInt10At32
import Derived.Shelf.Strconv.ParseInt10At16
import Derived.Shelf.Strconv.ParseInt10At8
import Derived.Shelf.Strconv.ParseInt10All
import Derived.Shelf.Strconv.ParseIntPublic10
import Derived.Shelf.Strconv.ErrVarParseInt
import Derived.Shelf.Strings.Search1
import Derived.Shelf.Strings.Prefix
import Derived.Test.YtljgkfdnmikpfaaGreatDoorProg
set_option linter.unusedVariables false
set_option linter.unusedSimpArgs false
/- Package term: Items. -/
namespace Go.Proofs.YtljgkfdnmikpfaaGreatDoor
open Go.RowKit
set_option linter.unusedVariables false

theorem results_tmp_cell' {fn : Func} {p u : Tmp} {ty : TypeId} (h : fn.results = #[.tmp u, .cell p ty]) (tmps : Array Value) (P : Program) (w : World) :
    (results fn tmps).run P w =
      ((asAddr (tmps.getD p undef)).run P w).andThen fun a w₁ => ((loadVar ty a).run P w₁).andThen fun x w₂ => .ok (.tuple #[tmps.getD u undef, x]) w₂ := by
  simp only [results, h]
  simp [Sem.run_bind, Result.andThen]
def sliceLen : Value → Nat | .slice _ n _ => n | _ => 0
/-- The term at hand in its box, the items so far. -/
structure ItemsAt (D : Nat → Bool) (w wr : World) (x y : Tm) (u z : Value) (ps : List TmP) : Prop where
  tm : TmV (hide D w) y (pVal (y, u))
  old : Old D w
  fm : formedT y = true
  b0 : wr.cell? ⟨w.heap.size, 0, none⟩ = some (.int .i64 y.k)
  b1 : wr.cell? ⟨w.heap.size, 1, none⟩ = some (.int .i64 y.n)
  b2 : wr.cell? ⟨w.heap.size, 2, none⟩ = some (.string y.s)
  b3 : wr.cell? ⟨w.heap.size, 3, none⟩ = some u
  fz : ∀ j, wr.frozen? ⟨w.heap.size, j, none⟩ = false
  fz1 : ∀ j, wr.frozen? ⟨w.heap.size + 1, j, none⟩ = false
  r0 : wr.cell? ⟨w.heap.size + 1, 0, none⟩ = some (.int .i64 0)
  r1 : wr.cell? ⟨w.heap.size + 1, 1, none⟩ = some (.int .i64 0)
  r2 : wr.cell? ⟨w.heap.size + 1, 2, none⟩ = some (.string ⟨#[]⟩)
  r3 : wr.cell? ⟨w.heap.size + 1, 3, none⟩ = some (.slice none 0 0)
  row : RowP wr (w.heap.size + 2) 27 z ps
  all : ∀ p ∈ ps, TmV (hide D w) p.1 (pVal p)
  items : itemsT x = (ps.map (·.1) ++ (itemsT y).1, (itemsT y).2)
  size : sizeN y + ps.length ≤ sizeN x
  bel : Below w.heap.size w wr
  big : w.heap.size + 2 ≤ wr.heap.size
theorem ItemsAt.start {D : Nat → Bool} {w w1 : World} {x : Tm} {u : Value} (ho : Old D w) (hv : TmV (hide D w) x (pVal (x, u))) (hf : formedT x = true) (hb : Below ((w.alloc (box4 x.k x.n x.s u 27)).alloc (box4 0 0 ⟨#[]⟩ (.slice none 0 0) 27)).heap.size ((w.alloc (box4 x.k x.n x.s u 27)).alloc (box4 0 0 ⟨#[]⟩ (.slice none 0 0) 27)) w1) : ItemsAt D w w1 x x u (.slice none 0 0) [] :=
  { tm := hv, old := ho, fm := hf, b0 := cell_later hb (by simp), b1 := cell_later hb (by simp), b2 := cell_later hb (by simp), b3 := cell_later hb (by simp)
    fz := fun j => by rw [World.frozen?_of_block (hb.block w.heap.size (by simp <;> omega))]; simp
    fz1 := fun j => by rw [World.frozen?_of_block (hb.block (w.heap.size + 1) (by simp <;> omega))]; simp
    r0 := cell_later hb (by simp), r1 := cell_later hb (by simp), r2 := cell_later hb (by simp), r3 := cell_later hb (by simp)
    row := World.ownsRow_nil _ _ _ _, all := fun p hp => by simp at hp, items := by simp, size := by simp
    bel := Ext.trans' ((bel1' _ _).alloc (by simp) _) hb
    big := by have := hb.size; simp at this; omega }
theorem pair_form {t a b : Tm} (hs : t.s.data.toList = [46]) (hp : t.args = [a, b]) (hf : formedT t = true) : pairT t = some (a, b) := by
  cases t with
  | mk k n s ts =>
    cases (show ts = [a, b] from hp)
    rw [formedT, Bool.and_eq_true] at hf
    have h := hf.1
    unfold plainT at h
    by_cases h0 : k = 0
    · rw [if_pos h0] at h; simp at h
    · by_cases h1 : k = 1
      · rw [if_neg h0, if_pos h1] at h; simp at h
      · by_cases h2 : k = 2
        · rw [pairT, h2, (show s.data.toList = [46] from hs)]; rfl
        · rw [if_neg h0, if_neg h1, if_neg h2] at h; cases h
theorem pair_not {t : Tm} (h : pairT t = none) (hf : formedT t = true) : ¬ t.s.data.toList = [46] ∨ ¬ t.args.length = 2 := by
  by_cases hs : t.s.data.toList = [46]
  · right
    intro h2
    match hp : t.args, h2 with
    | [a, b], _ => rw [pair_form hs hp hf] at h; cases h
  · exact Or.inl hs
theorem ItemsAt.grown {D : Nat → Bool} {w wr w4 : World} {x y : Tm} {uy z : Value} {ps : List TmP} {o : Obj} (h : ItemsAt D w wr x y uy z ps) (hg : (wr.alloc o).grownBy w4 z.ownBlock) :
    w4.cell? ⟨w.heap.size, 0, none⟩ = some (.int .i64 y.k) ∧ w4.cell? ⟨w.heap.size, 1, none⟩ = some (.int .i64 y.n) ∧ w4.cell? ⟨w.heap.size, 2, none⟩ = some (.string y.s) ∧ w4.cell? ⟨w.heap.size, 3, none⟩ = some uy ∧ (∀ j, w4.frozen? ⟨w.heap.size, j, none⟩ = false) ∧ Below w.heap.size w w4 := by
  have hz : ∀ k, z.ownBlock = some k → w.heap.size + 2 ≤ k := fun k hk => (h.row.lt k hk).1
  have hbig := h.big
  have hB4 : Below w.heap.size w w4 := (h.bel.alloc (by omega) o).grown hg (by simp; omega) (fun k hk => by have := hz k hk; omega)
  have k0 : w4.heap[w.heap.size]? = wr.heap[w.heap.size]? := by
    rw [hg.block w.heap.size (by simp; omega) (fun e => by have := hz _ e.symm; omega)]
    exact (bel1' wr o).block w.heap.size (by omega)
  exact ⟨(World.cell?_of_block (a := ⟨w.heap.size, 0, none⟩) k0).trans h.b0, (World.cell?_of_block (a := ⟨w.heap.size, 1, none⟩) k0).trans h.b1, (World.cell?_of_block (a := ⟨w.heap.size, 2, none⟩) k0).trans h.b2, (World.cell?_of_block (a := ⟨w.heap.size, 3, none⟩) k0).trans h.b3,
    fun j => by rw [World.frozen?_of_block k0]; exact h.fz j, hB4⟩
/-- Behind a round: the item appended, the box turned. -/
theorem ItemsAt.next {D : Nat → Bool} {w wr w4 : World} {x y p q : Tm} {uy up uq z z' : Value} {ps : List TmP} {o : Obj} (h : ItemsAt D w wr x y uy z ps) (hp : pairT y = some (p, q)) (hvp : TmV (hide D w) p (pVal (p, up))) (hvq : TmV (hide D w) q (pVal (q, uq)))
    (hown : w4.ownsRow (w.heap.size + 2) 27 4 z' (ps.length + 1) (ps.flatMap pCells ++ pCells (p, up))) (hg : (wr.alloc o).grownBy w4 z.ownBlock) :
    ItemsAt D w (setFour w4 w.heap.size (.int .i64 q.k) (.int .i64 q.n) (.string q.s) uq) x q uq z' (ps ++ [(p, up)]) := by
  have hz : ∀ k, z.ownBlock = some k → w.heap.size + 2 ≤ k := fun k hk => (h.row.lt k hk).1
  have hbig := h.big
  have hB4 : Below w.heap.size w w4 := (h.bel.alloc (by omega) o).grown hg (by simp; omega) (fun k hk => by have := hz k hk; omega)
  have hF := four_below (.int .i64 q.k) (.int .i64 q.n) (.string q.s) uq hB4 (Nat.le_refl w.heap.size)
  have k0 : w4.heap[w.heap.size]? = wr.heap[w.heap.size]? := by
    rw [hg.block w.heap.size (by simp; omega) (fun e => by have := hz _ e.symm; omega)]
    exact (bel1' wr o).block w.heap.size (by omega)
  have k1 : w4.heap[w.heap.size + 1]? = wr.heap[w.heap.size + 1]? := by
    rw [hg.block (w.heap.size + 1) (by simp; omega) (fun e => by have := hz _ e.symm; omega)]
    exact (bel1' wr o).block (w.heap.size + 1) (by omega)
  have c0 := (World.cell?_of_block (a := ⟨w.heap.size, 0, none⟩) k0).trans h.b0
  have c1 := (World.cell?_of_block (a := ⟨w.heap.size, 1, none⟩) k0).trans h.b1
  have c2 := (World.cell?_of_block (a := ⟨w.heap.size, 2, none⟩) k0).trans h.b2
  have c3 := (World.cell?_of_block (a := ⟨w.heap.size, 3, none⟩) k0).trans h.b3
  obtain ⟨d0, d1, d2, d3⟩ := four_cells (.int .i64 q.k) (.int .i64 q.n) (.string q.s) uq c0 c1 c2 c3
  have hit := items_some hp
  obtain ⟨hsz, hargs, hk, hs⟩ := pair_size hp
  have far := fun j => four_far w4 w.heap.size (.int .i64 q.k) (.int .i64 q.n) (.string q.s) uq (w.heap.size + 1) j (by omega)
  have fr : ∀ b j, (setFour w4 w.heap.size (.int .i64 q.k) (.int .i64 q.n) (.string q.s) uq).frozen? ⟨b, j, none⟩ = w4.frozen? ⟨b, j, none⟩ := fun b j => by
    unfold setFour
    rw [World.frozen?_setCell, World.frozen?_setCell, World.frozen?_setCell, World.frozen?_setCell]
  exact
    { tm := hvq
      old := h.old
      fm := by
        have hf := h.fm
        cases y with
        | mk ky ny sy ty =>
          rw [formedT, Bool.and_eq_true] at hf
          exact formed_mem hf.2 (by rw [(show ty = [p, q] from hargs)]; simp)
      b0 := d0, b1 := d1, b2 := d2, b3 := d3
      fz := fun j => by rw [fr, World.frozen?_of_block k0]; exact h.fz j
      fz1 := fun j => by rw [fr, World.frozen?_of_block k1]; exact h.fz1 j
      r0 := by rw [far, World.cell?_of_block k1]; exact h.r0
      r1 := by rw [far, World.cell?_of_block k1]; exact h.r1
      r2 := by rw [far, World.cell?_of_block k1]; exact h.r2
      r3 := by rw [far, World.cell?_of_block k1]; exact h.r3
      row := by
        unfold RowP
        rw [List.length_append, List.flatMap_append]
        have := four_row (.int .i64 q.k) (.int .i64 q.n) (.string q.s) uq hown (show w.heap.size < w.heap.size + 2 by omega)
        simpa using this
      all := fun r hr => by
        rcases List.mem_append.1 hr with hr | hr
        · exact h.all r hr
        · simp at hr; subst hr; exact hvp
      items := by rw [h.items, hit]; simp
      size := by have := h.size; rw [List.length_append, List.length_singleton]; omega
      bel := hF
      big := by
        have := hg.size
        unfold setFour
        simp at this ⊢
        omega }
theorem ItemsAt.finish {D : Nat → Bool} {w wr : World} {x y : Tm} {uy z : Value} {ps : List TmP} (h : ItemsAt D w wr x y uy z ps) (hp : pairT y = none) (hx : sizeN x ≤ 2000) (v0 v1 v2 v3 : Value) :
    Tms (hide D (setFour wr (w.heap.size + 1) v0 v1 v2 v3).drew) z (itemsT x).1 ∧ TmV (hide D (setFour wr (w.heap.size + 1) v0 v1 v2 v3).drew) (itemsT x).2 (pVal (y, uy)) ∧ Below w.heap.size w (setFour wr (w.heap.size + 1) v0 v1 v2 v3).drew := by
  have hB : Below w.heap.size w (setFour wr (w.heap.size + 1) v0 v1 v2 v3).drew := (four_below v0 v1 v2 v3 h.bel (by omega)).drew
  have hi := h.items
  rw [items_none hp] at hi
  simp only [List.append_nil] at hi
  rw [hi]
  have hsz := h.size
  refine ⟨?_, TmV.later hB h.tm, hB⟩
  have hR : RowP (setFour wr (w.heap.size + 1) v0 v1 v2 v3).drew (w.heap.size + 2) 27 z ps := four_row v0 v1 v2 v3 h.row (by omega)
  exact (hR.hide (fun k hk _ => h.old k (by omega))).terms (fun p hp => TmV.later hB (h.all p hp)) (by unfold BIG; omega)
end Go.Proofs.YtljgkfdnmikpfaaGreatDoor
/- Package term: Items, walked. -/
namespace Go.Proofs.YtljgkfdnmikpfaaGreatDoor
open Go.RowKit
set_option linter.unusedVariables false

set_option maxHeartbeats 4000000 in
set_option maxRecDepth 100000 in
theorem items_hide {D : Nat → Bool} (x : Tm) (w : World) (v : Value) (ho : Old D w) (hv : TmV (hide D w) x v) (hg : goodT x = true) : Calls Tryz.prog 40 #[v] w fun e w' => ∃ lv tv, e = .returned (.tuple #[lv, tv]) ∧ Tms (hide D w') lv (itemsT x).1 ∧ TmV (hide D w') (itemsT x).2 tv ∧ Below w.heap.size w w' := by
  obtain ⟨hsz, _, hfx⟩ := good_parts hg
  have G := fun w (h : TmV w x v) => Good_at x w v h
  rw [hg] at G
  obtain ⟨u, rfl⟩ := hv.pair
  obtain ⟨i0, hi0, hz0, hs0, hb0⟩ := info_parts infoTerm
  have ST := fun w1 (hb : Below ((w.alloc (box4 x.k x.n x.s u 27)).alloc (box4 0 0 ⟨#[]⟩ (.slice none 0 0) 27)).heap.size ((w.alloc (box4 x.k x.n x.s u 27)).alloc (box4 0 0 ⟨#[]⟩ (.slice none 0 0) 27)) w1) => ItemsAt.start ho hv hfx hb
  have hv0 : TmV ((w.alloc (box4 x.k x.n x.s u 27)).alloc (box4 0 0 ⟨#[]⟩ (.slice none 0 0) 27)) x (pVal (x, u)) := TmV.ext ((bel1' w _).alloc (by simp) _) _ _ hv.bare
  have G0 := G _ hv0
  unfold pVal at G0
  show Calls Tryz.prog 40 #[.agg #[.int .i64 x.k, .int .i64 x.n, .string x.s, u]] w _
  have HSZ := Lib.hid hsz
  obtain ⟨kx, hkx⟩ : ∃ k, x.k = k := ⟨_, rfl⟩
  obtain ⟨nx, hnx⟩ : ∃ k, x.n = k := ⟨_, rfl⟩
  obtain ⟨sx, hsx⟩ : ∃ k, x.s = k := ⟨_, rfl⟩
  simp only [hkx, hnx, hsx] at G0 ST ⊢
  have HST := Lib.hid ST
  clear hkx hnx hsx G hv0 hv hg hfx ST hsz ho
  go_enter Tryz.func40, Tryz.ntmps40
  (go_wp2_with fail; go_fit (G0); rintro e w1 ⟨rfl, b1⟩)
  have HS := Lib.hid (HST.out w1 b1)
  clear b1 HST
  go_wp2_with fail
  go_loopw [2] (fun z wr => ∃ (y : Tm) (uy : Value) (ps : List TmP) (a : Option Addr) (c : Nat), z = .slice a ps.length c ∧ Hid (ItemsAt D w wr x y uy z ps)) (fun z _ => sizeN x - sliceLen z)
  case atStart => exact ⟨x, u, [], none, 0, rfl, HS⟩
  case round =>
    obtain ⟨y, uy, ps, a, c, rfl, HI⟩ := hrel
    have e0 := HI.out.b0
    have e1 := HI.out.b1
    have e2 := HI.out.b2
    have e3 := HI.out.b3
    have g0 := HI.out.fz
    cases hp : pairT y with
    | none =>
      have hnot := pair_not hp HI.out.fm
      have hit := items_none hp
      obtain ⟨ky, hky⟩ : ∃ k, y.k = k := ⟨_, rfl⟩
      obtain ⟨ny, hny⟩ : ∃ k, y.n = k := ⟨_, rfl⟩
      obtain ⟨sy, hsy⟩ : ∃ k, y.s = k := ⟨_, rfl⟩
      obtain ⟨my, hmy⟩ : ∃ k, y.args.length = k := ⟨_, rfl⟩
      rw [hky] at e0
      rw [hny] at e1
      rw [hsy] at e2 hnot
      rw [hmy] at hnot
      have hu := HI.out.tm
      have hU : ∃ au cu, uy = .slice au my cu := by
        cases y with
        | mk ky ny sy ty =>
          obtain ⟨u', hu', _, _, _, hq⟩ := tmV_iff.1 hu
          simp only [pVal, Value.agg.injEq] at hu'
          have h2 := congrArg Array.toList hu'
          simp only [List.cons.injEq, and_true] at h2
          obtain ⟨au, cu, e, _⟩ := hq.len
          exact ⟨au, cu, by rw [h2.2.2.2, e, ← hmy]; rfl⟩
      obtain ⟨au, cu, rfl⟩ := hU
      have g1 := HI.out.fz1
      have r0 := HI.out.r0
      have r1 := HI.out.r1
      have r2 := HI.out.r2
      have r3 := HI.out.r3
      have HFI := Lib.hid (fun v0 v1 v2 v3 => HI.out.finish hp HSZ.out v0 v1 v2 v3)
      simp only [pVal, hky, hny, hsy] at HFI
      clear hky hny hmy hu hit hp
      obtain ⟨m, hm⟩ : ∃ m, ps.length = m := ⟨_, rfl⟩
      rw [hm] at HFI ⊢
      clear hm HI
      by_cases hs : sy.data.toList = [46]
      · have hm2 : ¬ my = 2 := hnot.resolve_left (fun h => h hs)
        have hs' : (sy.toList == [46]) = true := by rw [Lib.toList_data, hs]; rfl
        have hs'' : sy.toList = [46] := by rw [Lib.toList_data, hs]
        have hm2' : ((my : Int) == 2) = false := by apply beq_false_of_ne; omega
        clear hnot hsy
        go_wp2_with fail
        go_region
        go_wp2
        refine bodyPost_ret (v := .tuple #[.slice a m c, .agg #[.int .i64 ky, .int .i64 ny, .string sy, .slice au my cu]]) (by rw [results_tmp_cell' rfl]; go_simp) rfl ⟨_, _, rfl, ?_⟩
        exact HFI.out (.int .i64 ky) (.int .i64 ny) (.string sy) (.slice au my cu)
      · have hs' : (sy.toList == [46]) = false := by rw [Lib.toList_data]; exact beq_false_of_ne hs
        have hs'' : ¬ sy.toList = [46] := by rw [Lib.toList_data]; exact hs
        clear hnot hsy
        go_wp2_with fail
        go_region
        go_wp2
        refine bodyPost_ret (v := .tuple #[.slice a m c, .agg #[.int .i64 ky, .int .i64 ny, .string sy, .slice au my cu]]) (by rw [results_tmp_cell' rfl]; go_simp) rfl ⟨_, _, rfl, ?_⟩
        exact HFI.out (.int .i64 ky) (.int .i64 ny) (.string sy) (.slice au my cu)
    | some pq =>
      obtain ⟨p, q⟩ := pq
      obtain ⟨hk2, hs2, hpq⟩ := pair_kind hp
      have HP := Lib.hid hp
      have hps := pair_size hp
      have hu := HI.out.tm
      have hU : Tms (hide D w) uy [p, q] := by
        cases y with
        | mk ky ny sy ty =>
          obtain ⟨u', hu', _, _, _, hq⟩ := tmV_iff.1 hu
          simp only [pVal, Value.agg.injEq] at hu'
          have h2 := congrArg Array.toList hu'
          simp only [List.cons.injEq, and_true] at h2
          rw [h2.2.2.2, ← (show ty = [p, q] from hpq)]
          exact hq
      rw [hs2] at e2
      unfold dotS at e2
      obtain ⟨au, cu, rfl, hu1, hu2, _⟩ := hU.len
      obtain ⟨b, off, kp, np, sp, up, rfl, hbb, rfl, rfl, rfl, c0, c1, c2, c3, htup, htp⟩ := hU.get (i := 0) (x := p) rfl
      obtain ⟨b', off', kq, nq, sq, uq, hbe, hbb', rfl, rfl, rfl, d0, d1, d2, d3, htuq, htq⟩ := hU.get (i := 1) (x := q) rfl
      cases hbe
      simp only [Nat.zero_mul, Nat.add_zero, Nat.one_mul] at c0 c1 c2 c3 d0 d1 d2 d3
      have HBL := Lib.hid HI.out.bel
      have UN := (Stays.unhide D w).2
      have c0 := cell_later HBL.out (UN _ _ c0)
      have d0 := UN _ _ d0
      have c1 := cell_later HBL.out (UN _ _ c1)
      have d1 := UN _ _ d1
      have c2 := cell_later HBL.out (UN _ _ c2)
      have d2 := UN _ _ d2
      have c3 := cell_later HBL.out (UN _ _ c3)
      have d3 := UN _ _ d3
      clear UN
      obtain ⟨apu, cpu, rfl, _⟩ := htup.len
      obtain ⟨aqu, cqu, rfl, _⟩ := htuq.len
      have HTP := Lib.hid htp
      have HTQ := Lib.hid htq
      have HD := Lib.hid (show w.cell? ⟨b, off + 4, none⟩ = some (.int .i64 q.k) ∧ w.cell? ⟨b, off + 4 + 1, none⟩ = some (.int .i64 q.n) ∧ w.cell? ⟨b, off + 4 + 2, none⟩ = some (.string q.s) ∧ w.cell? ⟨b, off + 4 + 3, none⟩ = some (.slice aqu q.args.length cqu) from ⟨d0, d1, d2, d3⟩)
      have hlen := HI.out.size
      have hbig := HI.out.big
      have hqp := size_pos y
      have hsz := HSZ.out
      obtain ⟨m, hm⟩ : ∃ m, ps.length = m := ⟨_, rfl⟩
      have HROW : Hid (wr.ownsRow (w.heap.size + 2) 27 4 (.slice a m c) m (ps.flatMap pCells)) := Lib.hid (by have := HI.out.row; unfold RowP at this; rw [hm] at this; exact this)
      have HM := Lib.hid hm
      have hone : ∀ v ∈ pCells (p, .slice apu p.args.length cpu), v.oneCell' = true := fun v hv => by
        simp [pCells] at hv
        rcases hv with rfl | rfl | rfl | rfl <;> rfl
      rw [hm] at hlen ⊢
      have hm2 : m ≤ 2000 := by omega
      have hmx : m < sizeN x := by omega
      clear hk2 hs2 hpq hps hu hU htp htq hp hm hqp d0 d1 d2 d3 htup htuq
      go_wp2_with (at_builtin; refine wpList_append_k rfl _ _ 25 rfl (w.heap.size + 2) 27 i0 (.agg #[.int .i64 0, .int .i64 0, .string ⟨#[]⟩, .slice none 0 0]) 4 56 Tryz.underlying25 hi0 hz0 hs0 (by decide) hb0 rfl (.slice a m c) m (ps.flatMap pCells) rfl (HROW.out.alloc _) (some ⟨wr.heap.size, 0, none⟩) 1 1 (pCells (p, .slice apu p.args.length cpu)) rfl rfl (Or.inr ⟨_, rfl, fun j u hu => cell_new _ _ _ j u hu⟩) hone (by unfold maxLen; omega) (by omega) (by simp; omega) (m + 1) _ rfl rfl ?_; intro a4 c4 w4 hown4 hgrow4 hat4; obtain ⟨f0, f1, f2, f3, g4, hB4⟩ := HI.out.grown (by rw [HM.out]; exact hgrow4); have q0 := cell_later hB4 HD.out.1; have q1 := cell_later hB4 HD.out.2.1; have q2 := cell_later hB4 HD.out.2.2.1; have q3 := cell_later hB4 HD.out.2.2.2)
      have hnext := ItemsAt.next (o := .cells #[.int .i64 p.k, .int .i64 p.n, .string p.s, .slice apu p.args.length cpu] 27) HI.out HP.out HTP.out HTQ.out (by rw [HM.out]; exact hown4) (by rw [HM.out]; exact hgrow4)
      unfold setFour at hnext
      go_roundw
      case rel => exact ⟨q, .slice aqu q.args.length cqu, ps ++ [(p, .slice apu p.args.length cpu)], a4, c4, by rw [List.length_append, HM.out]; rfl, Lib.hid hnext⟩
      case measure => simp only [sliceLen]; omega
end Go.Proofs.YtljgkfdnmikpfaaGreatDoor
/- Letter by letter: a whole text; two texts with a line's end between; a quoted name. Nothing here is walked. -/
namespace Go.Proofs.YtljgkfdnmikpfaaGreatDoor

def NextB.len : NextB → Nat
  | .skip k => k
  | .tok t => t.len
  | .bad _ => 0
theorem tok_len (kind : Nat) (text : List UInt8) (n k : Nat) (s : List UInt8) : (tokB kind text n k s).len = k := rfl
theorem name_len (k : Nat) (s : List UInt8) : (nameB k s).len ≤ k := by
  unfold nameB
  split
  · exact Nat.le_refl _
  · exact Nat.zero_le _
theorem quo_len : ∀ (n : Nat) (r : List UInt8), r.length ≤ n → ∀ p, quoB r = some p → p.2 ≤ r.length := fun n r hn p h => (quo_nl [] n r hn p h).2
theorem next_len (c : UInt8) (r : List UInt8) : (nextC c r).len ≤ r.length + 1 := by
  have hw := tw_le wordB r
  have hg := tw_le digitB r
  have hn := tw_le (fun x => x != 10) r
  have hsy : symRun (c :: r) ≤ r.length + 1 := sym_le (c :: r)
  unfold nextC
  by_cases h1 : blankB c = true
  · rw [if_pos h1]; exact Nat.le_add_left _ _
  rw [if_neg h1]
  by_cases h2 : (c == 37) = true
  · rw [if_pos h2]; exact Nat.succ_le_succ hn
  rw [if_neg h2]
  by_cases h3 : smallB c = true
  · rw [if_pos h3]; exact Nat.le_trans (name_len _ _) (by omega)
  rw [if_neg h3]
  by_cases h4 : greatB c = true
  · rw [if_pos h4, tok_len]; omega
  rw [if_neg h4]
  by_cases h5 : digitB c = true
  · rw [if_pos h5]
    split
    · rw [tok_len]; omega
    · exact Nat.zero_le _
  rw [if_neg h5]
  by_cases h6 : (c == 39) = true
  · rw [if_pos h6]
    cases hq : quoB r with
    | none => exact Nat.zero_le _
    | some p =>
      have := quo_len r.length r (Nat.le_refl _) p hq
      simp only
      split
      · rw [tok_len]; omega
      · exact Nat.zero_le _
  rw [if_neg h6]
  by_cases h7 : (c == 46 && endB r) = true
  · rw [if_pos h7, tok_len]; omega
  rw [if_neg h7]
  by_cases h8 : symB c = true
  · rw [if_pos h8]; exact Nat.le_trans (name_len _ _) hsy
  rw [if_neg h8]
  by_cases h9 : (c == 59 || c == 33) = true
  · rw [if_pos h9]; exact Nat.le_trans (name_len _ _) (by omega)
  rw [if_neg h9]
  by_cases h10 : ((c == 91 && r.head? == some 93) || (c == 123 && r.head? == some 125)) = true
  · rw [if_pos h10]
    refine Nat.le_trans (name_len _ _) ?_
    cases r with
    | nil => simp at h10
    | cons d r => simp
  rw [if_neg h10]
  by_cases h11 : [40, 41, 91, 93, 123, 125, 44, 124].contains c = true
  · rw [if_pos h11, tok_len]; omega
  rw [if_neg h11]
  exact Nat.zero_le _

/-- The tokens of a text, each with its first byte's place (the text begins at place p); nothing where one is refused. n: more than enough. -/
def lexL : Nat → Nat → List UInt8 → Option (List (TokB × Nat))
  | _, _, [] => some []
  | 0, _, _ :: _ => none
  | n + 1, p, c :: r =>
    match nextC c r with
    | .skip k => lexL n (p + k) ((c :: r).drop k)
    | .tok t => (lexL n (p + t.len) ((c :: r).drop t.len)).map fun l => (t, p) :: l
    | .bad _ => none
theorem lex_nil (n p : Nat) : lexL n p [] = some [] := by cases n <;> rfl
/-- How a byte stands between quotes. -/
def escQ (c : UInt8) : List UInt8 := if c == 10 then [92, 110] else if c == 9 then [92, 116] else if c == 92 then [92, 92] else if c == 39 then [92, 39] else [c]
def mayQ (c : UInt8) : Bool := c == 10 || c == 9 || (decide (32 ≤ c) && decide (c ≤ 126))
end Go.Proofs.YtljgkfdnmikpfaaGreatDoor
/- Letter by letter: plain names, quoted names. Nothing here is walked. -/
namespace Go.Proofs.YtljgkfdnmikpfaaGreatDoor

theorem name_kind {k : Nat} {s : List UInt8} {t : TokB} (h : nameB k s = .tok t) : t.kind = 1 ∧ t.text = s.take t.len ∧ t.n = 0 ∧ t.len = k ∧ k ≤ 64 := by
  unfold nameB at h
  split at h
  · rename_i hk
    unfold tokB at h
    cases h
    exact ⟨rfl, rfl, rfl, rfl, by simpa using hk⟩
  · cases h
/-- A name of Kind 1 is its letters. -/
theorem next_kind (c : UInt8) (r : List UInt8) (t : TokB) (h : nextC c r = .tok t) (hk : t.kind = 1) : t.text = (c :: r).take t.len := by
  unfold nextC at h
  have other : ∀ (kind : Nat) (text : List UInt8) (n k : Nat) (s : List UInt8), kind ≠ 1 → tokB kind text n k s = .tok t → t.text = (c :: r).take t.len := fun kind text n k s hne he => by
    unfold tokB at he
    cases he
    exact absurd hk hne
  by_cases h1 : blankB c = true
  · rw [if_pos h1] at h; cases h
  rw [if_neg h1] at h
  by_cases h2 : (c == 37) = true
  · rw [if_pos h2] at h; cases h
  rw [if_neg h2] at h
  by_cases h3 : smallB c = true
  · rw [if_pos h3] at h; exact (name_kind h).2.1
  rw [if_neg h3] at h
  by_cases h4 : greatB c = true
  · rw [if_pos h4] at h; exact other _ _ _ _ _ (by decide) h
  rw [if_neg h4] at h
  by_cases h5 : digitB c = true
  · rw [if_pos h5] at h
    split at h
    · exact other _ _ _ _ _ (by decide) h
    · cases h
  rw [if_neg h5] at h
  by_cases h6 : (c == 39) = true
  · rw [if_pos h6] at h
    cases hq : quoB r with
    | none => rw [hq] at h; cases h
    | some p =>
      rw [hq] at h
      simp only at h
      split at h
      · exact other _ _ _ _ _ (by decide) h
      · cases h
  rw [if_neg h6] at h
  by_cases h7 : (c == 46 && endB r) = true
  · rw [if_pos h7] at h; exact other _ _ _ _ _ (by decide) h
  rw [if_neg h7] at h
  by_cases h8 : symB c = true
  · rw [if_pos h8] at h; exact (name_kind h).2.1
  rw [if_neg h8] at h
  by_cases h9 : (c == 59 || c == 33) = true
  · rw [if_pos h9] at h; exact (name_kind h).2.1
  rw [if_neg h9] at h
  by_cases h10 : ((c == 91 && r.head? == some 93) || (c == 123 && r.head? == some 125)) = true
  · rw [if_pos h10] at h; exact (name_kind h).2.1
  rw [if_neg h10] at h
  by_cases h11 : [40, 41, 91, 93, 123, 125, 44, 124].contains c = true
  · rw [if_pos h11] at h; exact other _ _ _ _ _ (by decide) h
  rw [if_neg h11] at h
  cases h

/-- One name of Kind 1, and nothing else. -/
def plainB (name : List UInt8) : Bool :=
  match name with
  | [] => false
  | c :: r => match nextC c r with
    | .tok t => t.kind == 1 && t.len == (c :: r).length
    | _ => false
def quoteB (name : List UInt8) : List UInt8 :=
  if plainB name then name else if decide (name.length ≤ 64) && name.all mayQ then 39 :: (name.flatMap escQ ++ [39]) else []
theorem plain_lex {name : List UInt8} (h : plainB name = true) (n p : Nat) : ∃ t, lexL (n + 1) p name = some [(t, p)] ∧ t.kind = 1 ∧ t.text = name := by
  unfold plainB at h
  split at h
  · cases h
  · rename_i c r
    split at h
    · rename_i t ht
      simp only [Bool.and_eq_true, beq_iff_eq] at h
      refine ⟨t, ?_, h.1, by rw [next_kind c r t ht h.1, h.2, List.take_length]⟩
      rw [lexL, ht]
      simp only
      rw [h.2, List.drop_length, lex_nil]
      rfl
    · cases h
end Go.Proofs.YtljgkfdnmikpfaaGreatDoor
/- Letter by letter: a whole text, its tokens or where it is refused; what is passed over ahead of a token. Nothing here is walked. -/
namespace Go.Proofs.YtljgkfdnmikpfaaGreatDoor

inductive CutR where
  | ok (l : List (TokB × Nat))
  | bad (pl : Nat) (over : Bool)

def cutW : Nat → List (TokB × Nat) → Nat → List UInt8 → CutR
  | _, acc, _, [] => .ok acc
  | 0, _, p, _ :: _ => .bad p true
  | n + 1, acc, p, c :: r =>
    match nextC c r with
    | .skip k => cutW n acc (p + k) ((c :: r).drop k)
    | .tok t => if acc.length = 1024 then .bad p true else cutW n (acc ++ [(t, p)]) (p + t.len) ((c :: r).drop t.len)
    | .bad o => .bad p o
def cutF (acc : List (TokB × Nat)) (p : Nat) (s : List UInt8) : CutR := cutW s.length acc p s
def cutB (s : List UInt8) : CutR := if 4096 < s.length then .bad 4096 true else cutF [] 0 s

def passL : Nat → List UInt8 → Nat
  | _, [] => 0
  | 0, _ :: _ => 0
  | n + 1, c :: r => match nextC c r with
    | .skip k => k + passL n ((c :: r).drop k)
    | _ => 0
def passF (s : List UInt8) : Nat := passL s.length s

theorem sym_pos {c : UInt8} {r : List UInt8} (h : symB c = true) (he : ¬ (c == 46 && endB r) = true) : 1 ≤ symRun (c :: r) := by
  rw [symRun, h]
  simp only [Bool.not_eq_true] at he
  rw [he]
  simp
theorem name_pos {k : Nat} {s : List UInt8} (hk : 1 ≤ k) : (∃ t, nameB k s = .tok t ∧ 1 ≤ t.len) ∨ nameB k s = .bad true := by
  unfold nameB
  split
  · exact Or.inl ⟨_, rfl, hk⟩
  · exact Or.inr rfl
/-- What stands next takes at least one byte. -/
theorem next_pos (c : UInt8) (r : List UInt8) : (∃ k, nextC c r = .skip k ∧ 1 ≤ k) ∨ (∃ t, nextC c r = .tok t ∧ 1 ≤ t.len) ∨ ∃ o, nextC c r = .bad o := by
  have nm : ∀ (k : Nat), 1 ≤ k → (∃ j, nameB k (c :: r) = .skip j ∧ 1 ≤ j) ∨ (∃ t, nameB k (c :: r) = .tok t ∧ 1 ≤ t.len) ∨ ∃ o, nameB k (c :: r) = .bad o := fun k hk => by
    rcases name_pos (s := c :: r) hk with h | h
    · exact Or.inr (Or.inl h)
    · exact Or.inr (Or.inr ⟨_, h⟩)
  unfold nextC
  by_cases h1 : blankB c = true
  · rw [if_pos h1]; exact Or.inl ⟨_, rfl, Nat.le_refl _⟩
  rw [if_neg h1]
  by_cases h2 : (c == 37) = true
  · rw [if_pos h2]; exact Or.inl ⟨_, rfl, Nat.le_add_left _ _⟩
  rw [if_neg h2]
  by_cases h3 : smallB c = true
  · rw [if_pos h3]; exact nm _ (Nat.le_add_left _ _)
  rw [if_neg h3]
  by_cases h4 : greatB c = true
  · rw [if_pos h4]; exact Or.inr (Or.inl ⟨_, rfl, Nat.le_add_left _ _⟩)
  rw [if_neg h4]
  by_cases h5 : digitB c = true
  · rw [if_pos h5]
    split
    · exact Or.inr (Or.inl ⟨_, rfl, Nat.le_add_left _ _⟩)
    · exact Or.inr (Or.inr ⟨_, rfl⟩)
  rw [if_neg h5]
  by_cases h6 : (c == 39) = true
  · rw [if_pos h6]
    cases hq : quoB r with
    | none => exact Or.inr (Or.inr ⟨_, rfl⟩)
    | some p =>
      simp only
      split
      · exact Or.inr (Or.inl ⟨_, rfl, Nat.le_add_left _ _⟩)
      · exact Or.inr (Or.inr ⟨_, rfl⟩)
  rw [if_neg h6]
  by_cases h7 : (c == 46 && endB r) = true
  · rw [if_pos h7]; exact Or.inr (Or.inl ⟨_, rfl, Nat.le_refl _⟩)
  rw [if_neg h7]
  by_cases h8 : symB c = true
  · rw [if_pos h8]; exact nm _ (sym_pos h8 h7)
  rw [if_neg h8]
  by_cases h9 : (c == 59 || c == 33) = true
  · rw [if_pos h9]; exact nm _ (Nat.le_refl _)
  rw [if_neg h9]
  by_cases h10 : ((c == 91 && r.head? == some 93) || (c == 123 && r.head? == some 125)) = true
  · rw [if_pos h10]; exact nm _ (by omega)
  rw [if_neg h10]
  by_cases h11 : [40, 41, 91, 93, 123, 125, 44, 124].contains c = true
  · rw [if_pos h11]; exact Or.inr (Or.inl ⟨_, rfl, Nat.le_refl _⟩)
  rw [if_neg h11]
  exact Or.inr (Or.inr ⟨_, rfl⟩)
theorem drop_lt {c : UInt8} {r : List UInt8} {k n : Nat} (hk : 1 ≤ k) (hn : (c :: r).length ≤ n + 1) : ((c :: r).drop k).length ≤ n := by
  rw [List.length_drop]; omega
theorem cut_fuel : ∀ (n m : Nat) (acc : List (TokB × Nat)) (p : Nat) (s : List UInt8), s.length ≤ n → s.length ≤ m → cutW n acc p s = cutW m acc p s
  | n, m, acc, p, [], _, _ => by cases n <;> cases m <;> rfl
  | 0, m, acc, p, c :: r, hn, _ => by simp at hn
  | n + 1, 0, acc, p, c :: r, _, hm => by simp at hm
  | n + 1, m + 1, acc, p, c :: r, hn, hm => by
    rw [cutW, cutW]
    rcases next_pos c r with ⟨k, h, hk⟩ | ⟨t, h, hk⟩ | ⟨o, h⟩
    · rw [h]; exact cut_fuel n m _ _ _ (drop_lt hk hn) (drop_lt hk hm)
    · rw [h]; simp only; rw [cut_fuel n m _ _ _ (drop_lt hk hn) (drop_lt hk hm)]
    · rw [h]
theorem pass_fuel : ∀ (n m : Nat) (s : List UInt8), s.length ≤ n → s.length ≤ m → passL n s = passL m s
  | n, m, [], _, _ => by cases n <;> cases m <;> rfl
  | 0, m, c :: r, hn, _ => by simp at hn
  | n + 1, 0, c :: r, _, hm => by simp at hm
  | n + 1, m + 1, c :: r, hn, hm => by
    rw [passL, passL]
    rcases next_pos c r with ⟨k, h, hk⟩ | ⟨t, h, hk⟩ | ⟨o, h⟩
    · rw [h]; simp only; rw [pass_fuel n m _ (drop_lt hk hn) (drop_lt hk hm)]
    · rw [h]
    · rw [h]
theorem cutF_nil (acc : List (TokB × Nat)) (p : Nat) : cutF acc p [] = .ok acc := rfl
theorem cutF_skip {acc : List (TokB × Nat)} {p k : Nat} {c : UInt8} {r : List UInt8} (h : nextC c r = .skip k) (hk : 1 ≤ k) : cutF acc p (c :: r) = cutF acc (p + k) ((c :: r).drop k) := by
  unfold cutF
  rw [List.length_cons, cutW, h]
  exact cut_fuel _ _ _ _ _ (drop_lt hk (Nat.le_refl _)) (Nat.le_refl _)
theorem cutF_tok {acc : List (TokB × Nat)} {p : Nat} {c : UInt8} {r : List UInt8} {t : TokB} (h : nextC c r = .tok t) (hk : 1 ≤ t.len) (ha : acc.length ≠ 1024) : cutF acc p (c :: r) = cutF (acc ++ [(t, p)]) (p + t.len) ((c :: r).drop t.len) := by
  unfold cutF
  rw [List.length_cons, cutW, h]
  simp only
  rw [if_neg ha]
  exact cut_fuel _ _ _ _ _ (drop_lt hk (Nat.le_refl _)) (Nat.le_refl _)
theorem cutF_full {acc : List (TokB × Nat)} {p : Nat} {c : UInt8} {r : List UInt8} {t : TokB} (h : nextC c r = .tok t) (ha : acc.length = 1024) : cutF acc p (c :: r) = .bad p true := by
  unfold cutF
  rw [List.length_cons, cutW, h]
  simp only
  rw [if_pos ha]
theorem cutF_bad {acc : List (TokB × Nat)} {p : Nat} {c : UInt8} {r : List UInt8} {o : Bool} (h : nextC c r = .bad o) : cutF acc p (c :: r) = .bad p o := by
  unfold cutF
  rw [List.length_cons, cutW, h]
theorem passF_skip {k : Nat} {c : UInt8} {r : List UInt8} (h : nextC c r = .skip k) (hk : 1 ≤ k) : passF (c :: r) = k + passF ((c :: r).drop k) := by
  unfold passF
  rw [List.length_cons, passL, h]
  simp only
  rw [pass_fuel _ _ _ (drop_lt hk (Nat.le_refl _)) (Nat.le_refl _)]
theorem passF_stop {c : UInt8} {r : List UInt8} (h : ∀ k, nextC c r ≠ .skip k) : passF (c :: r) = 0 := by
  unfold passF
  rw [List.length_cons, passL]
  split
  · rename_i k hk; exact absurd hk (h k)
  · rfl
/-- What is passed over, no text is behind or a token: and nothing of the answer changes. -/
theorem pass_cut : ∀ (n : Nat) (s : List UInt8), s.length ≤ n → passF s ≤ s.length ∧ (∀ acc p, cutF acc p s = cutF acc (p + passF s) (s.drop (passF s))) ∧ ∀ c r, s.drop (passF s) = c :: r → ∀ k, nextC c r ≠ .skip k
  | _, [], _ => ⟨Nat.le_refl _, fun _ _ => rfl, fun c r h => by simp at h⟩
  | 0, c :: r, h => by simp at h
  | n + 1, c :: r, hn => by
    have hlen := next_len c r
    rcases next_pos c r with ⟨k, h, hk⟩ | ⟨t, h, hk⟩ | ⟨o, h⟩
    · rw [h] at hlen
      have hk2 : k ≤ (c :: r).length := hlen
      obtain ⟨i1, i2, i3⟩ := pass_cut n ((c :: r).drop k) (drop_lt hk hn)
      rw [passF_skip h hk]
      refine ⟨?_, fun acc p => ?_, fun c' r' h' => ?_⟩
      · rw [List.length_drop] at i1; omega
      · rw [cutF_skip h hk, i2, List.drop_drop, Nat.add_assoc]
      · rw [← List.drop_drop] at h'; exact i3 c' r' h'
    · have e : passF (c :: r) = 0 := passF_stop (fun k' => by rw [h]; intro e; cases e)
      rw [e]
      refine ⟨Nat.zero_le _, fun _ _ => rfl, fun c' r' h' => ?_⟩
      rw [List.drop_zero] at h'; cases h'
      rw [h]; intro k e; cases e
    · have e : passF (c :: r) = 0 := passF_stop (fun k' => by rw [h]; intro e; cases e)
      rw [e]
      refine ⟨Nat.zero_le _, fun _ _ => rfl, fun c' r' h' => ?_⟩
      rw [List.drop_zero] at h'; cases h'
      rw [h]; intro k e; cases e
/-- All is well just where there are tokens, and not too many. -/
theorem cut_lex : ∀ (n : Nat) (acc : List (TokB × Nat)) (p : Nat) (s : List UInt8) (l : List (TokB × Nat)), acc.length ≤ 1024 →
    (cutW n acc p s = .ok l ↔ ∃ x, lexL n p s = some x ∧ l = acc ++ x ∧ acc.length + x.length ≤ 1024)
  | n, acc, p, [], l, ha => by
    rw [lex_nil]
    have e : cutW n acc p [] = .ok acc := by cases n <;> rfl
    rw [e]
    constructor
    · intro h; cases h; exact ⟨[], rfl, by simp, by simpa using ha⟩
    · rintro ⟨x, hx, rfl, _⟩; cases hx; simp
  | 0, acc, p, c :: r, l, ha => by
    constructor
    · intro h; cases h
    · rintro ⟨x, hx, _⟩; cases hx
  | n + 1, acc, p, c :: r, l, ha => by
    rw [cutW, lexL]
    cases h : nextC c r with
    | skip k => exact cut_lex n acc _ _ l ha
    | bad o => simp
    | tok t =>
      simp only
      by_cases hf : acc.length = 1024
      · rw [if_pos hf]
        constructor
        · intro h; cases h
        · rintro ⟨x, hx, rfl, hl⟩
          obtain ⟨y, _, rfl⟩ := Option.map_eq_some_iff.1 hx
          simp at hl
          omega
      · rw [if_neg hf, cut_lex n (acc ++ [(t, p)]) _ _ l (by simp; omega)]
        constructor
        · rintro ⟨x, hx, rfl, hl⟩
          exact ⟨(t, p) :: x, by rw [hx]; rfl, by simp, by simp at hl ⊢; omega⟩
        · rintro ⟨x, hx, rfl, hl⟩
          obtain ⟨y, hy, rfl⟩ := Option.map_eq_some_iff.1 hx
          exact ⟨y, hy, by simp, by simp at hl ⊢; omega⟩
theorem cutB_ok {s : List UInt8} {l : List (TokB × Nat)} : cutB s = .ok l ↔ s.length ≤ 4096 ∧ lexL s.length 0 s = some l ∧ l.length ≤ 1024 := by
  unfold cutB
  by_cases h : 4096 < s.length
  · rw [if_pos h]
    constructor
    · intro h; cases h
    · rintro ⟨h1, _⟩; omega
  · rw [if_neg h]
    unfold cutF
    rw [cut_lex _ _ _ _ _ (Nat.zero_le _)]
    constructor
    · rintro ⟨x, hx, rfl, hl⟩
      exact ⟨by omega, by simpa using hx, by simpa using hl⟩
    · rintro ⟨_, hx, hl⟩
      exact ⟨l, hx, by simp, by simpa using hl⟩
end Go.Proofs.YtljgkfdnmikpfaaGreatDoor
/- The shelf's contracts at this program, laid by the kit's tool. -/
namespace Go.Proofs
open Go.Shelf
def Tryz.lays137_ren : Go.Shelf.Ren := ⟨fun | 137 => 120 | 217 => 164 | 266 => 181 | n => n, fun | 9 => 9 | 5 => 5 | 3 => 3 | n => n, fun | n => n⟩
theorem Tryz.lays137 : Go.Proofs.Lays.n137 Tryz.prog Tryz.lays137_ren := {
  mixed := by kernel_rfl
  f137 := Tryz.func120.trans (congrArg some (by kernel_rfl))
  f217 := Tryz.func164.trans (congrArg some (by kernel_rfl))
  f266 := Tryz.func181.trans (congrArg some (by kernel_rfl))
  t3 := Tryz.underlying3
  a3 := Tryz.isAgg3
  z3 := Tryz.sizeOf3
  v3 := Tryz.zeroValue3
  t5 := Tryz.underlying5
  a5 := Tryz.isAgg5
  z5 := Tryz.sizeOf5
  v5 := Tryz.zeroValue5
  t9 := Tryz.underlying9
  a9 := Tryz.isAgg9
  z9 := Tryz.sizeOf9
  v9 := Tryz.zeroValue9 }
open Go.RowKit in
/-- strings.IndexByte: "IndexByte returns the index of the first instance of c in s, or -1 if c is not present in s.": IT RETURNS 'Lib.indexByte s c'; the world is as it was. (LAID: no walk: one application.) -/
theorem Tryz.strings_IndexByte (s : ByteArray) (c : Int) (w : World) :
    Calls Tryz.prog 120 #[.string s, .int .u8 c] w fun e w' => e = .returned (.int .i64 (Lib.indexByte s.data.toList c.toNat.toUInt8)) ∧ w' = w := Any.strings_IndexByte Tryz.lays137 s c w
def Tryz.laysM171_ren : Go.Shelf.Ren := ⟨fun | 171 => 137 | 243 => 169 | 246 => 170 | 283 => 187 | 284 => 188 | 285 => 189 | 286 => 190 | 129 => 200 | 317 => 199 | 318 => 201 | 319 => 202 | 320 => 203 | 337 => 204 | 338 => 205 | n => n, fun | 3 => 3 | 9 => 9 | 2 => 2 | 4 => 4 | 171 => 214 | 0 => 0 | 53 => 207 | 37 => 97 | 5 => 5 | 173 => 217 | 212 => 227 | 51 => 228 | 20 => 20 | 213 => 229 | 46 => 210 | 232 => 237 | 233 => 238 | n => n, fun | 17 => 3 | 18 => 4 | 19 => 5 | n => n⟩
theorem Tryz.laysM171 : Go.Proofs.LaysM.n171 Tryz.prog Tryz.laysM171_ren := {
  mixed := by kernel_rfl
  f129 := Tryz.func200.trans (congrArg some (by kernel_rfl))
  f171 := Tryz.func137.trans (congrArg some (by kernel_rfl))
  f243 := Tryz.func169.trans (congrArg some (by kernel_rfl))
  f246 := Tryz.func170.trans (congrArg some (by kernel_rfl))
  f283 := Tryz.func187.trans (congrArg some (by kernel_rfl))
  f284 := Tryz.func188.trans (congrArg some (by kernel_rfl))
  f285 := Tryz.func189.trans (congrArg some (by kernel_rfl))
  f286 := Tryz.func190.trans (congrArg some (by kernel_rfl))
  f317 := Tryz.func199.trans (congrArg some (by kernel_rfl))
  f318 := Tryz.func201.trans (congrArg some (by kernel_rfl))
  f319 := Tryz.func202.trans (congrArg some (by kernel_rfl))
  f320 := Tryz.func203.trans (congrArg some (by kernel_rfl))
  f337 := Tryz.func204.trans (congrArg some (by kernel_rfl))
  f338 := Tryz.func205.trans (congrArg some (by kernel_rfl))
  t0 := Tryz.underlying0
  a0 := Tryz.isAgg0
  z0 := Tryz.sizeOf0
  v0 := Tryz.zeroValue0
  t2 := Tryz.underlying2
  a2 := Tryz.isAgg2
  z2 := Tryz.sizeOf2
  v2 := Tryz.zeroValue2
  t3 := Tryz.underlying3
  a3 := Tryz.isAgg3
  z3 := Tryz.sizeOf3
  v3 := Tryz.zeroValue3
  t4 := Tryz.underlying4
  a4 := Tryz.isAgg4
  z4 := Tryz.sizeOf4
  v4 := Tryz.zeroValue4
  t5 := Tryz.underlying5
  a5 := Tryz.isAgg5
  z5 := Tryz.sizeOf5
  v5 := Tryz.zeroValue5
  t9 := Tryz.underlying9
  a9 := Tryz.isAgg9
  z9 := Tryz.sizeOf9
  v9 := Tryz.zeroValue9
  t20 := Tryz.underlying20
  a20 := Tryz.isAgg20
  z20 := Tryz.sizeOf20
  v20 := Tryz.zeroValue20
  t37 := Tryz.underlying97
  a37 := Tryz.isAgg97
  z37 := Tryz.sizeOf97
  v37 := Tryz.zeroValue97
  t46 := Tryz.underlying210
  a46 := Tryz.isAgg210
  z46 := Tryz.sizeOf210
  v46 := Tryz.zeroValue210
  t51 := Tryz.underlying228
  a51 := Tryz.isAgg228
  z51 := Tryz.sizeOf228
  v51 := Tryz.zeroValue228
  t53 := Tryz.underlying207
  a53 := Tryz.isAgg207
  z53 := Tryz.sizeOf207
  v53 := Tryz.zeroValue207
  t171 := Tryz.underlying214
  a171 := Tryz.isAgg214
  z171 := Tryz.sizeOf214
  v171 := Tryz.zeroValue214
  t173 := Tryz.underlying217
  a173 := Tryz.isAgg217
  z173 := Tryz.sizeOf217
  v173 := Tryz.zeroValue217
  t212 := Tryz.underlying227
  a212 := Tryz.isAgg227
  z212 := Tryz.sizeOf227
  v212 := Tryz.zeroValue227
  t213 := Tryz.underlying229
  a213 := Tryz.isAgg229
  z213 := Tryz.sizeOf229
  t232 := Tryz.underlying237
  a232 := Tryz.isAgg237
  z232 := Tryz.sizeOf237
  v232 := Tryz.zeroValue237
  t233 := Tryz.underlying238
  a233 := Tryz.isAgg238
  z233 := Tryz.sizeOf238
  v233 := Tryz.zeroValue238
  g17 := by kernel_rfl
  g18 := by kernel_rfl
  g19 := by kernel_rfl
  i0 := by kernel_rfl
  i2 := by kernel_rfl
  i3 := by kernel_rfl
  i4 := by kernel_rfl
  i5 := by kernel_rfl
  i9 := by kernel_rfl
  i20 := by kernel_rfl
  i37 := by kernel_rfl
  i46 := by kernel_rfl
  i51 := by kernel_rfl
  i53 := by kernel_rfl
  i171 := by kernel_rfl
  i173 := by kernel_rfl
  i212 := by kernel_rfl
  i232 := by kernel_rfl
  i233 := by kernel_rfl
  m17 := by kernel_rfl
  m18 := by kernel_rfl
  m19 := by kernel_rfl }
open Go.RowKit Go.Sort Go.Lib in
/-- strconv.Itoa: "Itoa is equivalent to FormatInt(int64(i), 10).": i's DECIMAL NUMERAL ('Lib.itoa': a '-' where i is negative, then the digits), FOR EVERY int. The world behind the call: the world before it, new blocks behind the heap (the library's 'var a [24]byte'), draws. (LAID: no walk: one application.) -/
theorem Tryz.strconv_Itoa (n : Int) (h0 : -9223372036854775808 ≤ n) (h1 : n ≤ 9223372036854775807) (w : World) (htab : Lib.TabIs Tryz.prog w "internal/strconv.uint64pow10" .u64 Lib.pow10Tab) :
    Calls Tryz.prog 137 #[.int .i64 n] w fun e w' => e = .returned (.string ⟨(Lib.itoa n).toArray⟩) ∧ ∃ k os, w' = grow (w.drewN k) os := Any.strconv_Itoa Tryz.laysM171 n h0 h1 w htab
def Tryz.laysM173_ren : Go.Shelf.Ren := ⟨fun | 173 => 138 | 246 => 170 | 283 => 187 | 284 => 188 | 285 => 189 | 286 => 190 | 129 => 200 | 317 => 199 | 318 => 201 | 319 => 202 | 320 => 203 | 337 => 204 | 338 => 205 | n => n, fun | 2 => 2 | 3 => 3 | 9 => 9 | 4 => 4 | 171 => 214 | 0 => 0 | 53 => 207 | 37 => 97 | 5 => 5 | 173 => 217 | 212 => 227 | 51 => 228 | 20 => 20 | 213 => 229 | 46 => 210 | 232 => 237 | 233 => 238 | n => n, fun | 17 => 3 | 18 => 4 | 19 => 5 | n => n⟩
theorem Tryz.laysM173 : Go.Proofs.LaysM.n173 Tryz.prog Tryz.laysM173_ren := {
  mixed := by kernel_rfl
  f129 := Tryz.func200.trans (congrArg some (by kernel_rfl))
  f173 := Tryz.func138.trans (congrArg some (by kernel_rfl))
  f246 := Tryz.func170.trans (congrArg some (by kernel_rfl))
  f283 := Tryz.func187.trans (congrArg some (by kernel_rfl))
  f284 := Tryz.func188.trans (congrArg some (by kernel_rfl))
  f285 := Tryz.func189.trans (congrArg some (by kernel_rfl))
  f286 := Tryz.func190.trans (congrArg some (by kernel_rfl))
  f317 := Tryz.func199.trans (congrArg some (by kernel_rfl))
  f318 := Tryz.func201.trans (congrArg some (by kernel_rfl))
  f319 := Tryz.func202.trans (congrArg some (by kernel_rfl))
  f320 := Tryz.func203.trans (congrArg some (by kernel_rfl))
  f337 := Tryz.func204.trans (congrArg some (by kernel_rfl))
  f338 := Tryz.func205.trans (congrArg some (by kernel_rfl))
  t0 := Tryz.underlying0
  a0 := Tryz.isAgg0
  z0 := Tryz.sizeOf0
  v0 := Tryz.zeroValue0
  t2 := Tryz.underlying2
  a2 := Tryz.isAgg2
  z2 := Tryz.sizeOf2
  v2 := Tryz.zeroValue2
  t3 := Tryz.underlying3
  a3 := Tryz.isAgg3
  z3 := Tryz.sizeOf3
  v3 := Tryz.zeroValue3
  t4 := Tryz.underlying4
  a4 := Tryz.isAgg4
  z4 := Tryz.sizeOf4
  v4 := Tryz.zeroValue4
  t5 := Tryz.underlying5
  a5 := Tryz.isAgg5
  z5 := Tryz.sizeOf5
  v5 := Tryz.zeroValue5
  t9 := Tryz.underlying9
  a9 := Tryz.isAgg9
  z9 := Tryz.sizeOf9
  v9 := Tryz.zeroValue9
  t20 := Tryz.underlying20
  a20 := Tryz.isAgg20
  z20 := Tryz.sizeOf20
  v20 := Tryz.zeroValue20
  t37 := Tryz.underlying97
  a37 := Tryz.isAgg97
  z37 := Tryz.sizeOf97
  v37 := Tryz.zeroValue97
  t46 := Tryz.underlying210
  a46 := Tryz.isAgg210
  z46 := Tryz.sizeOf210
  v46 := Tryz.zeroValue210
  t51 := Tryz.underlying228
  a51 := Tryz.isAgg228
  z51 := Tryz.sizeOf228
  v51 := Tryz.zeroValue228
  t53 := Tryz.underlying207
  a53 := Tryz.isAgg207
  z53 := Tryz.sizeOf207
  v53 := Tryz.zeroValue207
  t171 := Tryz.underlying214
  a171 := Tryz.isAgg214
  z171 := Tryz.sizeOf214
  v171 := Tryz.zeroValue214
  t173 := Tryz.underlying217
  a173 := Tryz.isAgg217
  z173 := Tryz.sizeOf217
  v173 := Tryz.zeroValue217
  t212 := Tryz.underlying227
  a212 := Tryz.isAgg227
  z212 := Tryz.sizeOf227
  v212 := Tryz.zeroValue227
  t213 := Tryz.underlying229
  a213 := Tryz.isAgg229
  z213 := Tryz.sizeOf229
  t232 := Tryz.underlying237
  a232 := Tryz.isAgg237
  z232 := Tryz.sizeOf237
  v232 := Tryz.zeroValue237
  t233 := Tryz.underlying238
  a233 := Tryz.isAgg238
  z233 := Tryz.sizeOf238
  v233 := Tryz.zeroValue238
  g17 := by kernel_rfl
  g18 := by kernel_rfl
  g19 := by kernel_rfl
  i0 := by kernel_rfl
  i2 := by kernel_rfl
  i3 := by kernel_rfl
  i4 := by kernel_rfl
  i5 := by kernel_rfl
  i9 := by kernel_rfl
  i20 := by kernel_rfl
  i37 := by kernel_rfl
  i46 := by kernel_rfl
  i51 := by kernel_rfl
  i53 := by kernel_rfl
  i171 := by kernel_rfl
  i173 := by kernel_rfl
  i212 := by kernel_rfl
  i232 := by kernel_rfl
  i233 := by kernel_rfl
  m17 := by kernel_rfl
  m18 := by kernel_rfl
  m19 := by kernel_rfl }
open Go.RowKit Go.Sort Go.Lib in
/-- strconv.FormatInt: "FormatInt returns the string representation of i in the given base": AT BASE 10: i's decimal numeral, for every int64. (LAID: no walk: one application.) -/
theorem Tryz.strconv_FormatInt_10 (n : Int) (h0 : -9223372036854775808 ≤ n) (h1 : n ≤ 9223372036854775807) (w : World) (htab : Lib.TabIs Tryz.prog w "internal/strconv.uint64pow10" .u64 Lib.pow10Tab) :
    Calls Tryz.prog 138 #[.int .i64 n, .int .i64 10] w fun e w' => e = .returned (.string ⟨(Lib.itoa n).toArray⟩) ∧ ∃ k os, w' = grow (w.drewN k) os := Any.strconv_FormatInt_10 Tryz.laysM173 n h0 h1 w htab
def Tryz.laysC174_ren : Go.Shelf.Ren := ⟨fun | 174 => 129 | 247 => 166 | 245 => 167 | 287 => 182 | 279 => 183 | 280 => 184 | 281 => 185 | 282 => 186 | 321 => 195 | 322 => 196 | 316 => 197 | 171 => 137 | 205 => 198 | 243 => 169 | 246 => 170 | 283 => 187 | 284 => 188 | 285 => 189 | 286 => 190 | 129 => 200 | 317 => 199 | 318 => 201 | 319 => 202 | 320 => 203 | 337 => 204 | 338 => 205 | n => n, fun | 9 => 9 | 3 => 3 | 2 => 2 | 75 => 178 | 85 => 179 | 4 => 4 | 167 => 206 | 5 => 5 | 53 => 207 | 175 => 208 | 46 => 210 | 168 => 211 | 37 => 97 | 0 => 0 | 210 => 223 | 21 => 21 | 127 => 232 | 145 => 235 | 143 => 233 | 171 => 214 | 173 => 217 | 212 => 227 | 51 => 228 | 20 => 20 | 213 => 229 | 232 => 237 | 233 => 238 | 80 => 239 | n => n, fun | 15 => 1 | 16 => 2 | 17 => 3 | 18 => 4 | 19 => 5 | n => n⟩
theorem Tryz.laysC174 : Go.Proofs.LaysC.n174 Tryz.prog Tryz.laysC174_ren := {
  mixed := by kernel_rfl
  f129 := Tryz.func200.trans (congrArg some (by kernel_rfl))
  f171 := Tryz.func137.trans (congrArg some (by kernel_rfl))
  f174 := Tryz.func129.trans (congrArg some (by kernel_rfl))
  f205 := Tryz.func198.trans (congrArg some (by kernel_rfl))
  f243 := Tryz.func169.trans (congrArg some (by kernel_rfl))
  f245 := Tryz.func167.trans (congrArg some (by kernel_rfl))
  f246 := Tryz.func170.trans (congrArg some (by kernel_rfl))
  f247 := Tryz.func166.trans (congrArg some (by kernel_rfl))
  f279 := Tryz.func183.trans (congrArg some (by kernel_rfl))
  f280 := Tryz.func184.trans (congrArg some (by kernel_rfl))
  f281 := Tryz.func185.trans (congrArg some (by kernel_rfl))
  f282 := Tryz.func186.trans (congrArg some (by kernel_rfl))
  f283 := Tryz.func187.trans (congrArg some (by kernel_rfl))
  f284 := Tryz.func188.trans (congrArg some (by kernel_rfl))
  f285 := Tryz.func189.trans (congrArg some (by kernel_rfl))
  f286 := Tryz.func190.trans (congrArg some (by kernel_rfl))
  f287 := Tryz.func182.trans (congrArg some (by kernel_rfl))
  f316 := Tryz.func197.trans (congrArg some (by kernel_rfl))
  f317 := Tryz.func199.trans (congrArg some (by kernel_rfl))
  f318 := Tryz.func201.trans (congrArg some (by kernel_rfl))
  f319 := Tryz.func202.trans (congrArg some (by kernel_rfl))
  f320 := Tryz.func203.trans (congrArg some (by kernel_rfl))
  f321 := Tryz.func195.trans (congrArg some (by kernel_rfl))
  f322 := Tryz.func196.trans (congrArg some (by kernel_rfl))
  f337 := Tryz.func204.trans (congrArg some (by kernel_rfl))
  f338 := Tryz.func205.trans (congrArg some (by kernel_rfl))
  t0 := Tryz.underlying0
  a0 := Tryz.isAgg0
  z0 := Tryz.sizeOf0
  v0 := Tryz.zeroValue0
  t2 := Tryz.underlying2
  a2 := Tryz.isAgg2
  z2 := Tryz.sizeOf2
  v2 := Tryz.zeroValue2
  t3 := Tryz.underlying3
  a3 := Tryz.isAgg3
  z3 := Tryz.sizeOf3
  v3 := Tryz.zeroValue3
  t4 := Tryz.underlying4
  a4 := Tryz.isAgg4
  z4 := Tryz.sizeOf4
  v4 := Tryz.zeroValue4
  t5 := Tryz.underlying5
  a5 := Tryz.isAgg5
  z5 := Tryz.sizeOf5
  v5 := Tryz.zeroValue5
  t9 := Tryz.underlying9
  a9 := Tryz.isAgg9
  z9 := Tryz.sizeOf9
  v9 := Tryz.zeroValue9
  t20 := Tryz.underlying20
  a20 := Tryz.isAgg20
  z20 := Tryz.sizeOf20
  v20 := Tryz.zeroValue20
  t21 := Tryz.underlying21
  a21 := Tryz.isAgg21
  z21 := Tryz.sizeOf21
  v21 := Tryz.zeroValue21
  t37 := Tryz.underlying97
  a37 := Tryz.isAgg97
  z37 := Tryz.sizeOf97
  v37 := Tryz.zeroValue97
  t46 := Tryz.underlying210
  a46 := Tryz.isAgg210
  z46 := Tryz.sizeOf210
  v46 := Tryz.zeroValue210
  t51 := Tryz.underlying228
  a51 := Tryz.isAgg228
  z51 := Tryz.sizeOf228
  v51 := Tryz.zeroValue228
  t53 := Tryz.underlying207
  a53 := Tryz.isAgg207
  z53 := Tryz.sizeOf207
  v53 := Tryz.zeroValue207
  t75 := Tryz.underlying178
  a75 := Tryz.isAgg178
  z75 := Tryz.sizeOf178
  v75 := Tryz.zeroValue178
  t85 := Tryz.underlying179
  a85 := Tryz.isAgg179
  z85 := Tryz.sizeOf179
  v85 := Tryz.zeroValue179
  t127 := Tryz.underlying232
  a127 := Tryz.isAgg232
  z127 := Tryz.sizeOf232
  v127 := Tryz.zeroValue232
  t143 := Tryz.underlying233
  a143 := Tryz.isAgg233
  z143 := Tryz.sizeOf233
  v143 := Tryz.zeroValue233
  t145 := Tryz.underlying235
  a145 := Tryz.isAgg235
  z145 := Tryz.sizeOf235
  v145 := Tryz.zeroValue235
  t167 := Tryz.underlying206
  a167 := Tryz.isAgg206
  z167 := Tryz.sizeOf206
  v167 := Tryz.zeroValue206
  t168 := Tryz.underlying211
  a168 := Tryz.isAgg211
  z168 := Tryz.sizeOf211
  v168 := Tryz.zeroValue211
  t171 := Tryz.underlying214
  a171 := Tryz.isAgg214
  z171 := Tryz.sizeOf214
  v171 := Tryz.zeroValue214
  t173 := Tryz.underlying217
  a173 := Tryz.isAgg217
  z173 := Tryz.sizeOf217
  v173 := Tryz.zeroValue217
  t175 := Tryz.underlying208
  a175 := Tryz.isAgg208
  z175 := Tryz.sizeOf208
  v175 := Tryz.zeroValue208
  t210 := Tryz.underlying223
  a210 := Tryz.isAgg223
  z210 := Tryz.sizeOf223
  v210 := Tryz.zeroValue223
  t212 := Tryz.underlying227
  a212 := Tryz.isAgg227
  z212 := Tryz.sizeOf227
  v212 := Tryz.zeroValue227
  t213 := Tryz.underlying229
  a213 := Tryz.isAgg229
  z213 := Tryz.sizeOf229
  t232 := Tryz.underlying237
  a232 := Tryz.isAgg237
  z232 := Tryz.sizeOf237
  v232 := Tryz.zeroValue237
  t233 := Tryz.underlying238
  a233 := Tryz.isAgg238
  z233 := Tryz.sizeOf238
  v233 := Tryz.zeroValue238
  g15 := by kernel_rfl
  g16 := by kernel_rfl
  g17 := by kernel_rfl
  g18 := by kernel_rfl
  g19 := by kernel_rfl
  t80 := Tryz.underlying239
  a80 := Tryz.isAgg239
  z80 := Tryz.sizeOf239
  v80 := Tryz.zeroValue239
  i0 := by kernel_rfl
  i2 := by kernel_rfl
  i3 := by kernel_rfl
  i4 := by kernel_rfl
  i5 := by kernel_rfl
  i9 := by kernel_rfl
  i20 := by kernel_rfl
  i21 := by kernel_rfl
  i37 := by kernel_rfl
  i46 := by kernel_rfl
  i51 := by kernel_rfl
  i53 := by kernel_rfl
  i75 := by kernel_rfl
  i80 := by kernel_rfl
  i85 := by kernel_rfl
  i127 := by kernel_rfl
  i143 := by kernel_rfl
  i145 := by kernel_rfl
  i167 := by kernel_rfl
  i168 := by kernel_rfl
  i171 := by kernel_rfl
  i173 := by kernel_rfl
  i175 := by kernel_rfl
  i210 := by kernel_rfl
  i212 := by kernel_rfl
  i232 := by kernel_rfl
  i233 := by kernel_rfl
  m15 := by kernel_rfl
  m16 := by kernel_rfl
  m17 := by kernel_rfl
  m18 := by kernel_rfl
  m19 := by kernel_rfl
  c0 := by kernel_rfl
  c2 := by kernel_rfl
  c3 := by kernel_rfl
  c4 := by kernel_rfl
  c5 := by kernel_rfl
  c9 := by kernel_rfl
  c20 := by kernel_rfl
  c21 := by kernel_rfl
  c37 := by kernel_rfl
  c46 := by kernel_rfl
  c51 := by kernel_rfl
  c53 := by kernel_rfl
  c75 := by kernel_rfl
  c80 := by kernel_rfl
  c85 := by kernel_rfl
  c127 := by kernel_rfl
  c143 := by kernel_rfl
  c145 := by kernel_rfl
  c167 := by kernel_rfl
  c168 := by kernel_rfl
  c171 := by kernel_rfl
  c173 := by kernel_rfl
  c175 := by kernel_rfl
  c210 := by kernel_rfl
  c212 := by kernel_rfl
  c213 := by kernel_rfl
  c232 := by kernel_rfl
  c233 := by kernel_rfl }
open Go.RowKit in
/-- strconv.ParseInt(s, 10, 64), AT EVERY STRING THAT SPELLS AN int64 ('Lib.parseIntB 64 s.data.toList = .ok v'): v, AND NO ERROR. (LAID: no walk: one application.) -/
theorem Tryz.strconv_ParseInt_10_at64_ok (s : ByteArray) (hmax : s.size ≤ 9223372036854775806) (v : Int) (h : Lib.parseIntB 64 s.data.toList = .ok v) (w : World) :
    Calls Tryz.prog 129 #[.string s, .int .i64 10, .int .i64 64] w fun e w' => e = .returned (.tuple #[.int .i64 v, .nilIface]) ∧ (w' = w ∨ ∃ t, w' = Lib.bytesWorld w 5 t) := Any.strconv_ParseInt_10_at64_ok Tryz.laysC174 s hmax v h w
open Go.RowKit in
open Go.RowKit in
theorem Tryz.strconv_ParseInt_10_at64_range_var (s : ByteArray) (hlim : s.size ≤ 281474976710656) (h : Lib.parseIntB 64 s.data.toList = .range) (tp : TypeId) (p : Value) (w : World) (hvar : w.var? Tryz.prog "strconv.ErrRange" = some #[.iface tp p]) :
    Calls Tryz.prog 129 #[.string s, .int .i64 10, .int .i64 64] w fun e w' => ∃ N, e = .returned (.tuple #[.int .i64 (Lib.intSat 64 s.data.toList), .iface 211 (.pointer (some ⟨N, 0, none⟩))]) ∧ w.heap.size ≤ N ∧ w'.heap[N]? = some (.cells #[.string ⟨#[80, 97, 114, 115, 101, 73, 110, 116]⟩, .string s, .iface tp p] 223 (0, 0)) ∧ Below w.heap.size w w' := Any.strconv_ParseInt_10_at64_range_var Tryz.laysC174 s hlim h tp p w hvar
def Tryz.lays99_ren : Go.Shelf.Ren := ⟨fun | 99 => 127 | 206 => 165 | n => n, fun | 9 => 9 | 4 => 4 | 3 => 3 | n => n, fun | n => n⟩
theorem Tryz.lays99 : Go.Proofs.Lays.n99 Tryz.prog Tryz.lays99_ren := {
  mixed := by kernel_rfl
  f99 := Tryz.func127.trans (congrArg some (by kernel_rfl))
  f206 := Tryz.func165.trans (congrArg some (by kernel_rfl))
  t3 := Tryz.underlying3
  a3 := Tryz.isAgg3
  z3 := Tryz.sizeOf3
  v3 := Tryz.zeroValue3
  t4 := Tryz.underlying4
  a4 := Tryz.isAgg4
  z4 := Tryz.sizeOf4
  v4 := Tryz.zeroValue4
  t9 := Tryz.underlying9
  a9 := Tryz.isAgg9
  z9 := Tryz.sizeOf9
  v9 := Tryz.zeroValue9 }
open Go.RowKit Go.Lib in
/-- strings.HasPrefix: "HasPrefix reports whether the string s begins with prefix.": IT RETURNS 'Lib.hasPrefix s prefix'; the world is as it was. (LAID: no walk: one application.) -/
theorem Tryz.strings_HasPrefix (s p : ByteArray) (w : World) :
    Calls Tryz.prog 127 #[.string s, .string p] w fun e w' => e = .returned (.bool (Lib.hasPrefix s.data.toList p.data.toList)) ∧ w' = w := Any.strings_HasPrefix Tryz.lays99 s p w
end Go.Proofs
