import Derived.Test.YtljgkfdnmikpfaaGreatDoorHgfae
import Derived.Test.YtljgkfdnmikpfaaGreatDoorHgfao
import Derived.Test.YtljgkfdnmikpfaaGreatDoorHgfac
import Derived.Test.YtljgkfdnmikpfaaGreatDoorHgfas
import Derived.Test.YtljgkfdnmikpfaaGreatDoorHgfaj
import Derived.Test.YtljgkfdnmikpfaaGreatDoorHgfan
import Derived.Test.YtljgkfdnmikpfaaGreatDoorHgfak
set_option linter.unusedVariables false
set_option linter.unusedSimpArgs false
/- The document's own Items: what its loop keeps. -/
namespace Go.Proofs.YtljgkfdnmikpfaaGreatDoor
open Go.RowKit
set_option linter.unusedVariables false
/-- The term at hand in its box, the items so far. -/
structure RItemsAt (D : Nat → Bool) (w wr : World) (x y : Tm) (u z : Value) (ps : List TmP) : Prop where
  tm : TmV (hide D w) y (pVal (y, u))
  old : Old D w
  fm : formedT y = true
  b0 : wr.cell? ⟨w.heap.size, 0, none⟩ = some (.int .i64 y.k)
  b1 : wr.cell? ⟨w.heap.size, 1, none⟩ = some (.int .i64 y.n)
  b2 : wr.cell? ⟨w.heap.size, 2, none⟩ = some (.string y.s)
  b3 : wr.cell? ⟨w.heap.size, 3, none⟩ = some u
  fz : ∀ j, wr.frozen? ⟨w.heap.size, j, none⟩ = false
  fz1 : ∀ j, wr.frozen? ⟨w.heap.size + 1, j, none⟩ = false
  r0 : wr.cell? ⟨w.heap.size + 1, 0, none⟩ = some (.int .i64 0)
  r1 : wr.cell? ⟨w.heap.size + 1, 1, none⟩ = some (.int .i64 0)
  r2 : wr.cell? ⟨w.heap.size + 1, 2, none⟩ = some (.string ⟨#[]⟩)
  r3 : wr.cell? ⟨w.heap.size + 1, 3, none⟩ = some (.slice none 0 0)
  row : RowP wr (w.heap.size + 2) 66 z ps
  all : ∀ p ∈ ps, TmV (hide D w) p.1 (pVal p)
  items : itemsT x = (ps.map (·.1) ++ (itemsT y).1, (itemsT y).2)
  size : sizeN y + ps.length ≤ sizeN x
  bel : Below w.heap.size w wr
  big : w.heap.size + 2 ≤ wr.heap.size
theorem RItemsAt.start {D : Nat → Bool} {w w1 : World} {x : Tm} {u : Value} (ho : Old D w) (hv : TmV (hide D w) x (pVal (x, u))) (hf : formedT x = true) (hb : Below ((w.alloc (box4 x.k x.n x.s u 66)).alloc (box4 0 0 ⟨#[]⟩ (.slice none 0 0) 66)).heap.size ((w.alloc (box4 x.k x.n x.s u 66)).alloc (box4 0 0 ⟨#[]⟩ (.slice none 0 0) 66)) w1) : RItemsAt D w w1 x x u (.slice none 0 0) [] :=
  { tm := hv, old := ho, fm := hf, b0 := cell_later hb (by simp), b1 := cell_later hb (by simp), b2 := cell_later hb (by simp), b3 := cell_later hb (by simp)
    fz := fun j => by rw [World.frozen?_of_block (hb.block w.heap.size (by simp <;> omega))]; simp
    fz1 := fun j => by rw [World.frozen?_of_block (hb.block (w.heap.size + 1) (by simp <;> omega))]; simp
    r0 := cell_later hb (by simp), r1 := cell_later hb (by simp), r2 := cell_later hb (by simp), r3 := cell_later hb (by simp)
    row := World.ownsRow_nil _ _ _ _, all := fun p hp => by simp at hp, items := by simp, size := by simp
    bel := Ext.trans' ((bel1' _ _).alloc (by simp) _) hb
    big := by have := hb.size; simp at this; omega }
theorem RItemsAt.grown {D : Nat → Bool} {w wr w4 : World} {x y : Tm} {uy z : Value} {ps : List TmP} {o : Obj} (h : RItemsAt D w wr x y uy z ps) (hg : (wr.alloc o).grownBy w4 z.ownBlock) :
    w4.cell? ⟨w.heap.size, 0, none⟩ = some (.int .i64 y.k) ∧ w4.cell? ⟨w.heap.size, 1, none⟩ = some (.int .i64 y.n) ∧ w4.cell? ⟨w.heap.size, 2, none⟩ = some (.string y.s) ∧ w4.cell? ⟨w.heap.size, 3, none⟩ = some uy ∧ (∀ j, w4.frozen? ⟨w.heap.size, j, none⟩ = false) ∧ Below w.heap.size w w4 := by
  have hz : ∀ k, z.ownBlock = some k → w.heap.size + 2 ≤ k := fun k hk => (h.row.lt k hk).1
  have hbig := h.big
  have hB4 : Below w.heap.size w w4 := (h.bel.alloc (by omega) o).grown hg (by simp; omega) (fun k hk => by have := hz k hk; omega)
  have k0 : w4.heap[w.heap.size]? = wr.heap[w.heap.size]? := by
    rw [hg.block w.heap.size (by simp; omega) (fun e => by have := hz _ e.symm; omega)]
    exact (bel1' wr o).block w.heap.size (by omega)
  exact ⟨(World.cell?_of_block (a := ⟨w.heap.size, 0, none⟩) k0).trans h.b0, (World.cell?_of_block (a := ⟨w.heap.size, 1, none⟩) k0).trans h.b1, (World.cell?_of_block (a := ⟨w.heap.size, 2, none⟩) k0).trans h.b2, (World.cell?_of_block (a := ⟨w.heap.size, 3, none⟩) k0).trans h.b3,
    fun j => by rw [World.frozen?_of_block k0]; exact h.fz j, hB4⟩
/-- Behind a round: the item appended, the box turned. -/
theorem RItemsAt.next {D : Nat → Bool} {w wr w4 : World} {x y p q : Tm} {uy up uq z z' : Value} {ps : List TmP} {o : Obj} (h : RItemsAt D w wr x y uy z ps) (hp : pairT y = some (p, q)) (hvp : TmV (hide D w) p (pVal (p, up))) (hvq : TmV (hide D w) q (pVal (q, uq)))
    (hown : w4.ownsRow (w.heap.size + 2) 66 4 z' (ps.length + 1) (ps.flatMap pCells ++ pCells (p, up))) (hg : (wr.alloc o).grownBy w4 z.ownBlock) :
    RItemsAt D w (setFour w4 w.heap.size (.int .i64 q.k) (.int .i64 q.n) (.string q.s) uq) x q uq z' (ps ++ [(p, up)]) := by
  have hz : ∀ k, z.ownBlock = some k → w.heap.size + 2 ≤ k := fun k hk => (h.row.lt k hk).1
  have hbig := h.big
  have hB4 : Below w.heap.size w w4 := (h.bel.alloc (by omega) o).grown hg (by simp; omega) (fun k hk => by have := hz k hk; omega)
  have hF := four_below (.int .i64 q.k) (.int .i64 q.n) (.string q.s) uq hB4 (Nat.le_refl w.heap.size)
  have k0 : w4.heap[w.heap.size]? = wr.heap[w.heap.size]? := by
    rw [hg.block w.heap.size (by simp; omega) (fun e => by have := hz _ e.symm; omega)]
    exact (bel1' wr o).block w.heap.size (by omega)
  have k1 : w4.heap[w.heap.size + 1]? = wr.heap[w.heap.size + 1]? := by
    rw [hg.block (w.heap.size + 1) (by simp; omega) (fun e => by have := hz _ e.symm; omega)]
    exact (bel1' wr o).block (w.heap.size + 1) (by omega)
  have c0 := (World.cell?_of_block (a := ⟨w.heap.size, 0, none⟩) k0).trans h.b0
  have c1 := (World.cell?_of_block (a := ⟨w.heap.size, 1, none⟩) k0).trans h.b1
  have c2 := (World.cell?_of_block (a := ⟨w.heap.size, 2, none⟩) k0).trans h.b2
  have c3 := (World.cell?_of_block (a := ⟨w.heap.size, 3, none⟩) k0).trans h.b3
  obtain ⟨d0, d1, d2, d3⟩ := four_cells (.int .i64 q.k) (.int .i64 q.n) (.string q.s) uq c0 c1 c2 c3
  have hit := items_some hp
  obtain ⟨hsz, hargs, hk, hs⟩ := pair_size hp
  have far := fun j => four_far w4 w.heap.size (.int .i64 q.k) (.int .i64 q.n) (.string q.s) uq (w.heap.size + 1) j (by omega)
  have fr : ∀ b j, (setFour w4 w.heap.size (.int .i64 q.k) (.int .i64 q.n) (.string q.s) uq).frozen? ⟨b, j, none⟩ = w4.frozen? ⟨b, j, none⟩ := fun b j => by
    unfold setFour
    rw [World.frozen?_setCell, World.frozen?_setCell, World.frozen?_setCell, World.frozen?_setCell]
  exact
    { tm := hvq
      old := h.old
      fm := by
        have hf := h.fm
        cases y with
        | mk ky ny sy ty =>
          rw [formedT, Bool.and_eq_true] at hf
          exact formed_mem hf.2 (by rw [(show ty = [p, q] from hargs)]; simp)
      b0 := d0, b1 := d1, b2 := d2, b3 := d3
      fz := fun j => by rw [fr, World.frozen?_of_block k0]; exact h.fz j
      fz1 := fun j => by rw [fr, World.frozen?_of_block k1]; exact h.fz1 j
      r0 := by rw [far, World.cell?_of_block k1]; exact h.r0
      r1 := by rw [far, World.cell?_of_block k1]; exact h.r1
      r2 := by rw [far, World.cell?_of_block k1]; exact h.r2
      r3 := by rw [far, World.cell?_of_block k1]; exact h.r3
      row := by
        unfold RowP
        rw [List.length_append, List.flatMap_append]
        have := four_row (.int .i64 q.k) (.int .i64 q.n) (.string q.s) uq hown (show w.heap.size < w.heap.size + 2 by omega)
        simpa using this
      all := fun r hr => by
        rcases List.mem_append.1 hr with hr | hr
        · exact h.all r hr
        · simp at hr; subst hr; exact hvp
      items := by rw [h.items, hit]; simp
      size := by have := h.size; rw [List.length_append, List.length_singleton]; omega
      bel := hF
      big := by
        have := hg.size
        unfold setFour
        simp at this ⊢
        omega }
theorem RItemsAt.finish {D : Nat → Bool} {w wr : World} {x y : Tm} {uy z : Value} {ps : List TmP} (h : RItemsAt D w wr x y uy z ps) (hp : pairT y = none) (hx : sizeN x ≤ 2000) (v0 v1 v2 v3 : Value) :
    Tms (hide D (setFour wr (w.heap.size + 1) v0 v1 v2 v3).drew) z (itemsT x).1 ∧ TmV (hide D (setFour wr (w.heap.size + 1) v0 v1 v2 v3).drew) (itemsT x).2 (pVal (y, uy)) ∧ Below w.heap.size w (setFour wr (w.heap.size + 1) v0 v1 v2 v3).drew := by
  have hB : Below w.heap.size w (setFour wr (w.heap.size + 1) v0 v1 v2 v3).drew := (four_below v0 v1 v2 v3 h.bel (by omega)).drew
  have hi := h.items
  rw [items_none hp] at hi
  simp only [List.append_nil] at hi
  rw [hi]
  have hsz := h.size
  refine ⟨?_, TmV.later hB h.tm, hB⟩
  have hR : RowP (setFour wr (w.heap.size + 1) v0 v1 v2 v3).drew (w.heap.size + 2) 66 z ps := four_row v0 v1 v2 v3 h.row (by omega)
  exact (hR.hide (fun k hk _ => h.old k (by omega))).terms (fun p hp => TmV.later hB (h.all p hp)) (by unfold BIG; omega)
end Go.Proofs.YtljgkfdnmikpfaaGreatDoor
/- The document's own Items, walked. -/
namespace Go.Proofs.YtljgkfdnmikpfaaGreatDoor
open Go.RowKit
set_option linter.unusedVariables false

set_option maxHeartbeats 4000000 in
set_option maxRecDepth 100000 in
theorem ritems_hide {D : Nat → Bool} (x : Tm) (w : World) (v : Value) (ho : Old D w) (hv : TmV (hide D w) x v) (hg : goodT x = true) : Calls Tryz.prog 142 #[v] w fun e w' => ∃ lv tv, e = .returned (.tuple #[lv, tv]) ∧ Tms (hide D w') lv (itemsT x).1 ∧ TmV (hide D w') (itemsT x).2 tv ∧ Below w.heap.size w w' := by
  obtain ⟨hsz, _, hfx⟩ := good_parts hg
  obtain ⟨u, rfl⟩ := hv.pair
  obtain ⟨i0, hi0, hz0, hs0, hb0⟩ := info_parts infoTermR
  have ST := fun w1 (hb : Below ((w.alloc (box4 x.k x.n x.s u 66)).alloc (box4 0 0 ⟨#[]⟩ (.slice none 0 0) 66)).heap.size ((w.alloc (box4 x.k x.n x.s u 66)).alloc (box4 0 0 ⟨#[]⟩ (.slice none 0 0) 66)) w1) => RItemsAt.start ho hv hfx hb
  have hv0 : TmV ((w.alloc (box4 x.k x.n x.s u 66)).alloc (box4 0 0 ⟨#[]⟩ (.slice none 0 0) 66)) x (pVal (x, u)) := TmV.ext ((bel1' w _).alloc (by simp) _) _ _ hv.bare
  show Calls Tryz.prog 142 #[.agg #[.int .i64 x.k, .int .i64 x.n, .string x.s, u]] w _
  have HSZ := Lib.hid hsz
  obtain ⟨kx, hkx⟩ : ∃ k, x.k = k := ⟨_, rfl⟩
  obtain ⟨nx, hnx⟩ : ∃ k, x.n = k := ⟨_, rfl⟩
  obtain ⟨sx, hsx⟩ : ∃ k, x.s = k := ⟨_, rfl⟩
  simp only [hkx, hnx, hsx] at ST ⊢
  have HST := Lib.hid ST
  clear hkx hnx hsx hv0 hv hg hfx ST hsz ho
  go_enter Tryz.func142, Tryz.ntmps142
  have HS := Lib.hid (HST.out _ (Below.refl _ _))
  clear HST
  go_wp2_with fail
  go_loopw [4] (fun z wr => ∃ (y : Tm) (uy : Value) (ps : List TmP) (a : Option Addr) (c : Nat), z = .slice a ps.length c ∧ Hid (RItemsAt D w wr x y uy z ps)) (fun z _ => sizeN x - sliceLen z)
  case atStart => exact ⟨x, u, [], none, 0, rfl, HS⟩
  case round =>
    obtain ⟨y, uy, ps, a, c, rfl, HI⟩ := hrel
    have e0 := HI.out.b0
    have e1 := HI.out.b1
    have e2 := HI.out.b2
    have e3 := HI.out.b3
    have g0 := HI.out.fz
    cases hp : pairT y with
    | none =>
      have hnot := pair_not hp HI.out.fm
      have hit := items_none hp
      obtain ⟨ky, hky⟩ : ∃ k, y.k = k := ⟨_, rfl⟩
      obtain ⟨ny, hny⟩ : ∃ k, y.n = k := ⟨_, rfl⟩
      obtain ⟨sy, hsy⟩ : ∃ k, y.s = k := ⟨_, rfl⟩
      obtain ⟨my, hmy⟩ : ∃ k, y.args.length = k := ⟨_, rfl⟩
      rw [hky] at e0
      rw [hny] at e1
      rw [hsy] at e2 hnot
      rw [hmy] at hnot
      have hu := HI.out.tm
      have hU : ∃ au cu, uy = .slice au my cu := by
        cases y with
        | mk ky ny sy ty =>
          obtain ⟨u', hu', _, _, _, hq⟩ := tmV_iff.1 hu
          simp only [pVal, Value.agg.injEq] at hu'
          have h2 := congrArg Array.toList hu'
          simp only [List.cons.injEq, and_true] at h2
          obtain ⟨au, cu, e, _⟩ := hq.len
          exact ⟨au, cu, by rw [h2.2.2.2, e, ← hmy]; rfl⟩
      obtain ⟨au, cu, rfl⟩ := hU
      have g1 := HI.out.fz1
      have r0 := HI.out.r0
      have r1 := HI.out.r1
      have r2 := HI.out.r2
      have r3 := HI.out.r3
      have HFI := Lib.hid (fun v0 v1 v2 v3 => HI.out.finish hp HSZ.out v0 v1 v2 v3)
      simp only [pVal, hky, hny, hsy] at HFI
      clear hky hny hmy hu hit hp
      obtain ⟨m, hm⟩ : ∃ m, ps.length = m := ⟨_, rfl⟩
      rw [hm] at HFI ⊢
      clear hm HI
      by_cases hk : ky = 2
      · subst hk
        by_cases hs : sy.data.toList = [46]
        · have hm2 : ¬ my = 2 := hnot.resolve_left (fun h => h hs)
          have hs' : (sy.toList == [46]) = true := by rw [Lib.toList_data, hs]; rfl
          have hs'' : sy.toList = [46] := by rw [Lib.toList_data, hs]
          have hm2' : ((my : Int) == 2) = false := by apply beq_false_of_ne; omega
          clear hnot hsy
          go_wp2_with fail
          go_region
          go_wp2
          refine bodyPost_ret (v := .tuple #[.slice a m c, .agg #[.int .i64 2, .int .i64 ny, .string sy, .slice au my cu]]) (by rw [results_tmp_cell' rfl]; go_simp) rfl ⟨_, _, rfl, ?_⟩
          exact HFI.out (.int .i64 2) (.int .i64 ny) (.string sy) (.slice au my cu)
        · have hs' : (sy.toList == [46]) = false := by rw [Lib.toList_data]; exact beq_false_of_ne hs
          have hs'' : ¬ sy.toList = [46] := by rw [Lib.toList_data]; exact hs
          clear hnot hsy
          go_wp2_with fail
          go_region
          go_wp2
          refine bodyPost_ret (v := .tuple #[.slice a m c, .agg #[.int .i64 2, .int .i64 ny, .string sy, .slice au my cu]]) (by rw [results_tmp_cell' rfl]; go_simp) rfl ⟨_, _, rfl, ?_⟩
          exact HFI.out (.int .i64 2) (.int .i64 ny) (.string sy) (.slice au my cu)
      · have hkf : ((ky : Int) == 2) = false := beq_false_of_ne hk
        clear hnot hsy
        go_wp2_with fail
        go_region
        go_wp2
        refine bodyPost_ret (v := .tuple #[.slice a m c, .agg #[.int .i64 ky, .int .i64 ny, .string sy, .slice au my cu]]) (by rw [results_tmp_cell' rfl]; go_simp) rfl ⟨_, _, rfl, ?_⟩
        exact HFI.out (.int .i64 ky) (.int .i64 ny) (.string sy) (.slice au my cu)
    | some pq =>
      obtain ⟨p, q⟩ := pq
      obtain ⟨hk2, hs2, hpq⟩ := pair_kind hp
      have HP := Lib.hid hp
      have hps := pair_size hp
      have hu := HI.out.tm
      have hU : Tms (hide D w) uy [p, q] := by
        cases y with
        | mk ky ny sy ty =>
          obtain ⟨u', hu', _, _, _, hq⟩ := tmV_iff.1 hu
          simp only [pVal, Value.agg.injEq] at hu'
          have h2 := congrArg Array.toList hu'
          simp only [List.cons.injEq, and_true] at h2
          rw [h2.2.2.2, ← (show ty = [p, q] from hpq)]
          exact hq
      rw [hs2] at e2
      rw [hk2] at e0
      unfold dotS at e2
      obtain ⟨au, cu, rfl, hu1, hu2, _⟩ := hU.len
      obtain ⟨b, off, kp, np, sp, up, rfl, hbb, rfl, rfl, rfl, c0, c1, c2, c3, htup, htp⟩ := hU.get (i := 0) (x := p) rfl
      obtain ⟨b', off', kq, nq, sq, uq, hbe, hbb', rfl, rfl, rfl, d0, d1, d2, d3, htuq, htq⟩ := hU.get (i := 1) (x := q) rfl
      cases hbe
      simp only [Nat.zero_mul, Nat.add_zero, Nat.one_mul] at c0 c1 c2 c3 d0 d1 d2 d3
      have HBL := Lib.hid HI.out.bel
      have UN := (Stays.unhide D w).2
      have c0 := cell_later HBL.out (UN _ _ c0)
      have d0 := UN _ _ d0
      have c1 := cell_later HBL.out (UN _ _ c1)
      have d1 := UN _ _ d1
      have c2 := cell_later HBL.out (UN _ _ c2)
      have d2 := UN _ _ d2
      have c3 := cell_later HBL.out (UN _ _ c3)
      have d3 := UN _ _ d3
      clear UN
      obtain ⟨apu, cpu, rfl, _⟩ := htup.len
      obtain ⟨aqu, cqu, rfl, _⟩ := htuq.len
      have HTP := Lib.hid htp
      have HTQ := Lib.hid htq
      have HD := Lib.hid (show w.cell? ⟨b, off + 4, none⟩ = some (.int .i64 q.k) ∧ w.cell? ⟨b, off + 4 + 1, none⟩ = some (.int .i64 q.n) ∧ w.cell? ⟨b, off + 4 + 2, none⟩ = some (.string q.s) ∧ w.cell? ⟨b, off + 4 + 3, none⟩ = some (.slice aqu q.args.length cqu) from ⟨d0, d1, d2, d3⟩)
      have hlen := HI.out.size
      have hbig := HI.out.big
      have hqp := size_pos y
      have hsz := HSZ.out
      obtain ⟨m, hm⟩ : ∃ m, ps.length = m := ⟨_, rfl⟩
      have HROW : Hid (wr.ownsRow (w.heap.size + 2) 66 4 (.slice a m c) m (ps.flatMap pCells)) := Lib.hid (by have := HI.out.row; unfold RowP at this; rw [hm] at this; exact this)
      have HM := Lib.hid hm
      have hone : ∀ v ∈ pCells (p, .slice apu p.args.length cpu), v.oneCell' = true := fun v hv => by
        simp [pCells] at hv
        rcases hv with rfl | rfl | rfl | rfl <;> rfl
      rw [hm] at hlen ⊢
      have hm2 : m ≤ 2000 := by omega
      have hmx : m < sizeN x := by omega
      clear hk2 hs2 hpq hps hu hU htp htq hp hm hqp d0 d1 d2 d3 htup htuq
      go_wp2_with (at_builtin; refine wpList_append_k rfl _ _ 64 rfl (w.heap.size + 2) 66 i0 (.agg #[.int .i64 0, .int .i64 0, .string ⟨#[]⟩, .slice none 0 0]) 4 56 Tryz.underlying64 hi0 hz0 hs0 (by decide) hb0 rfl (.slice a m c) m (ps.flatMap pCells) rfl (HROW.out.alloc _) (some ⟨wr.heap.size, 0, none⟩) 1 1 (pCells (p, .slice apu p.args.length cpu)) rfl rfl (Or.inr ⟨_, rfl, fun j u hu => cell_new _ _ _ j u hu⟩) hone (by unfold maxLen; omega) (by omega) (by simp; omega) (m + 1) _ rfl rfl ?_; intro a4 c4 w4 hown4 hgrow4 hat4; obtain ⟨f0, f1, f2, f3, g4, hB4⟩ := HI.out.grown (by rw [HM.out]; exact hgrow4); have q0 := cell_later hB4 HD.out.1; have q1 := cell_later hB4 HD.out.2.1; have q2 := cell_later hB4 HD.out.2.2.1; have q3 := cell_later hB4 HD.out.2.2.2)
      have hnext := RItemsAt.next (o := .cells #[.int .i64 p.k, .int .i64 p.n, .string p.s, .slice apu p.args.length cpu] 66) HI.out HP.out HTP.out HTQ.out (by rw [HM.out]; exact hown4) (by rw [HM.out]; exact hgrow4)
      unfold setFour at hnext
      go_roundw
      case rel => exact ⟨q, .slice aqu q.args.length cqu, ps ++ [(p, .slice apu p.args.length cpu)], a4, c4, by rw [List.length_append, HM.out]; rfl, Lib.hid hnext⟩
      case measure => simp only [sliceLen]; omega
theorem ritems1_at (x : Tm) (w : World) (v : Value) (hv : TmV w x v) (hg : goodT x = true) : Calls Tryz.prog 142 #[v] w fun e w' => ∃ lv tv, e = .returned (.tuple #[lv, tv]) ∧ Tms w' lv (itemsT x).1 ∧ TmV w' (itemsT x).2 tv ∧ Below w.heap.size w w' := by
  refine (ritems_hide (D := fun _ => false) x w v (fun _ _ => rfl) (by rw [hide_none]; exact hv) hg).mono ?_
  rintro e w' ⟨lv, tv, h1, h2, h3, h4⟩
  exact ⟨lv, tv, h1, h2.bare, h3.bare, h4⟩
end Go.Proofs.YtljgkfdnmikpfaaGreatDoor
/- The document's own writer (sizarref8): levels of names; what a writer needs. -/
namespace Go.Proofs.YtljgkfdnmikpfaaGreatDoor
open Go.Shelf Go.RowKit
set_option linter.unusedVariables false
set_option maxRecDepth 100000

/-- The greatest level of a name so far. -/
def lvF (xs : List O) (n : List UInt8) : Int := xs.foldl (fun m o => if bl o.n == n && decide (m < o.l) then o.l else m) 0
theorem lvF_next {xs : List O} {n : List UInt8} {k : Nat} {x : O} (h : xs[k]? = some x) : lvF (xs.take (k + 1)) n = if bl x.n == n && decide (lvF (xs.take k) n < x.l) then x.l else lvF (xs.take k) n := by
  unfold lvF
  rw [List.take_add_one, h, List.foldl_append]
  rfl
theorem oplevel_walk {w : World} {v : Value} {xs : List O} (h : Ops w v xs) (n : ByteArray) : Calls Tryz.prog 100 #[v, .string n] w fun e w' => e = .returned (.int .i64 (lvF xs (bl n))) ∧ w = w' := by
  obtain ⟨a, c, rfl, hl1, hl2⟩ := h.form
  unfold maxLen at hl2
  have H := Lib.hid h
  obtain ⟨T, hT⟩ : ∃ T, lvF xs (bl n) = T := ⟨_, rfl⟩
  rw [hT]
  have HT := Lib.hid hT
  clear h hT
  obtain ⟨m, hm⟩ : ∃ m, xs.length = m := ⟨_, rfl⟩
  have HM := Lib.hid hm
  rw [hm] at hl1 ⊢
  clear hm
  go_enter Tryz.func100, Tryz.ntmps100
  go_wp2_with fail
  go_loop [5, 6] (fun z i => ∃ (k : Nat) (q : Int), k ≤ m ∧ i = .int .i64 k ∧ z = .int .i64 q ∧ Hid (lvF (xs.take k) (bl n) = q)) (fun _ i => m - (intOf i).toNat)
  case atStart => exact ⟨0, 0, by omega, rfl, rfl, Lib.hid rfl⟩
  case round =>
    obtain ⟨k, q, hk, rfl, rfl, HQ⟩ := hrel
    by_cases hlt : k < m
    · obtain ⟨x, hx⟩ : ∃ x, xs[k]? = some x := ⟨_, List.getElem?_eq_getElem (by rw [HM.out]; exact hlt)⟩
      have H' := H.out
      rw [HM.out] at H'
      obtain ⟨b, off, rfl, hbs, d0, d1, d2⟩ := H'.cells hx
      have hnx := lvF_next (n := bl n) hx
      rw [HQ.out] at hnx
      rcases x with ⟨xn, xk, xl⟩
      simp only at d0 d1 d2 hnx
      clear H' hx
      have htt : (xn.toList == n.toList) = (bl xn == bl n) := by rw [Lib.toList_data, Lib.toList_data]
      cases hn : (bl xn == bl n)
      · rw [hn] at htt
        rw [hn, Bool.false_and, if_neg (by decide)] at hnx
        have HNX := Lib.hid hnx
        clear hnx hn
        go_wp2
        go_round
        case rel => exact ⟨k + 1, q, by omega, by go_num, rfl, HNX⟩
        case measure => simp [intOf]; omega
      · rw [hn] at htt
        rw [hn, Bool.true_and] at hnx
        by_cases hql : q < xl
        · have hqd : decide (q < xl) = true := decide_eq_true hql
          rw [hqd, if_pos rfl] at hnx
          have HNX := Lib.hid hnx
          clear hnx hn
          go_wp2
          go_round
          case rel => exact ⟨k + 1, xl, by omega, by go_num, rfl, HNX⟩
          case measure => simp [intOf]; omega
        · have hqd : decide (q < xl) = false := decide_eq_false hql
          rw [hqd, if_neg (by decide)] at hnx
          have HNX := Lib.hid hnx
          clear hnx hn
          go_wp2
          go_round
          case rel => exact ⟨k + 1, q, by omega, by go_num, rfl, HNX⟩
          case measure => simp [intOf]; omega
    · obtain rfl : k = m := by omega
      have ht : xs.take k = xs := List.take_of_length_le (by rw [HM.out]; exact Nat.le_refl _)
      have hq := HQ.out
      rw [ht, HT.out] at hq
      subst hq
      clear ht HQ HT
      go_wp2
      go_ret
      exact ⟨rfl, rfl⟩
/-- A writer in a block of its own. -/
structure WdAt (w : World) (wb : Nat) (vo vv : Value) (xs : List O) (vs : List Int) : Prop where
  o : w.cell? ⟨wb, 0, none⟩ = some vo
  c : w.cell? ⟨wb, 1, none⟩ = some vv
  n : Nums w vv vs
  p : Ops w vo xs
theorem WdAt.ext {w w' : World} {wb : Nat} {vo vv : Value} {xs : List O} {vs : List Int} (h : WdAt w wb vo vv xs vs) (hb : Below w.heap.size w w') : WdAt w' wb vo vv xs vs := ⟨cell_later hb h.o, cell_later hb h.c, h.n.ext hb, h.p.ext hb⟩
theorem WdAt.wr {w : World} {wb : Nat} {vo vv : Value} {xs : List O} {vs : List Int} (h : WdAt w wb vo vv xs vs) : WrAt w wb vv vs := ⟨h.c, h.n⟩
end Go.Proofs.YtljgkfdnmikpfaaGreatDoor
/- The document's own writer: what its Find and OpLevel say of a good table; yfx. -/
namespace Go.Proofs.YtljgkfdnmikpfaaGreatDoor
open Go.Shelf Go.RowKit
set_option linter.unusedVariables false
set_option maxRecDepth 100000

theorem find_bet {xs : List O} (hg : goodB xs = true) (n : List UInt8) : (∃ (k : Nat) (o : O), findB xs n true = (k : Int) ∧ xs[k]? = some o ∧ betO xs n = (o, true)) ∨ (findB xs n true = -1 ∧ betO xs n = zO) := by
  have hall := ((good_iff xs).1 hg).2.1
  rcases find_cases xs n true with ⟨h1, h2⟩ | ⟨k, x, h1, h2, h3, _⟩
  · refine Or.inr ⟨h1, one_not ?_⟩
    rw [one_none (xs := xs) (n := n) (s := 2) (fun x hx e => by
      obtain ⟨j, hj, rfl⟩ := List.getElem_of_mem hx
      have h := h2 j _ (List.getElem?_eq_getElem hj)
      unfold isR at h
      unfold key at e
      injection e with e1 e2
      rw [bet_side, e1, e2] at h
      simp at h)]
  · refine Or.inl ⟨k, x, h1, h2, one_mem hg (List.mem_of_getElem? h2) ?_⟩
    unfold isR at h3
    rw [Bool.and_eq_true] at h3
    unfold key
    have h4 := eq_of_beq h3.2
    rw [bet_side] at h4
    rw [eq_of_beq h3.1, eq_of_beq h4]
theorem find_pre {xs : List O} (hg : goodB xs = true) (n : List UInt8) : (∃ (k : Nat) (o : O), findB xs n false = (k : Int) ∧ xs[k]? = some o ∧ preO xs n = (o, true)) ∨ (findB xs n false = -1 ∧ preO xs n = zO) := by
  have hall := ((good_iff xs).1 hg).2.1
  rcases find_cases xs n false with ⟨h1, h2⟩ | ⟨k, x, h1, h2, h3, _⟩
  · refine Or.inr ⟨h1, one_not ?_⟩
    rw [one_none (xs := xs) (n := n) (s := 1) (fun x hx e => by
      obtain ⟨j, hj, rfl⟩ := List.getElem_of_mem hx
      have h := h2 j _ (List.getElem?_eq_getElem hj)
      unfold isR at h
      unfold key at e
      injection e with e1 e2
      rw [bet_side, e1, e2] at h
      simp at h)]
  · refine Or.inl ⟨k, x, h1, h2, one_mem hg (List.mem_of_getElem? h2) ?_⟩
    unfold isR at h3
    rw [Bool.and_eq_true] at h3
    have h5 := (may_level' (hall x (List.mem_of_getElem? h2))).2
    unfold key
    have h4 := eq_of_beq h3.2
    rw [bet_side] at h4
    rcases side_two' _ h5 with h6 | h6
    · rw [eq_of_beq h3.1, h6]
    · rw [h6] at h4; exact absurd h4 (by decide)
theorem lv_spec (n : List UInt8) : ∀ (xs : List O) (m : Int), m ≤ xs.foldl (fun m o => if bl o.n == n && decide (m < o.l) then o.l else m) m ∧ (∀ o ∈ xs, bl o.n = n → o.l ≤ xs.foldl (fun m o => if bl o.n == n && decide (m < o.l) then o.l else m) m) ∧
    (xs.foldl (fun m o => if bl o.n == n && decide (m < o.l) then o.l else m) m = m ∨ ∃ o ∈ xs, bl o.n = n ∧ o.l = xs.foldl (fun m o => if bl o.n == n && decide (m < o.l) then o.l else m) m)
  | [], m => ⟨Int.le_refl _, fun o ho _ => absurd ho List.not_mem_nil, Or.inl rfl⟩
  | x :: r, m => by
    rw [List.foldl_cons]
    by_cases hc : (bl x.n == n && decide (m < x.l)) = true
    · rw [if_pos hc]
      rw [Bool.and_eq_true, decide_eq_true_eq] at hc
      obtain ⟨h1, h2, h3⟩ := lv_spec n r x.l
      refine ⟨by omega, fun o ho hn => ?_, Or.inr ?_⟩
      · rcases List.mem_cons.1 ho with rfl | ho
        · exact h1
        · exact h2 o ho hn
      · rcases h3 with h3 | ⟨o, ho, hn, he⟩
        · exact ⟨x, List.mem_cons_self, eq_of_beq hc.1, h3.symm⟩
        · exact ⟨o, List.mem_cons_of_mem _ ho, hn, he⟩
    · rw [if_neg hc]
      obtain ⟨h1, h2, h3⟩ := lv_spec n r m
      refine ⟨h1, fun o ho hn => ?_, ?_⟩
      · rcases List.mem_cons.1 ho with rfl | ho
        · have : ¬ m < o.l := fun h => hc (by rw [Bool.and_eq_true, decide_eq_true_eq]; exact ⟨beq_iff_eq.2 hn, h⟩)
          omega
        · exact h2 o ho hn
      · rcases h3 with h3 | ⟨o, ho, hn, he⟩
        · exact Or.inl h3
        · exact Or.inr ⟨o, List.mem_cons_of_mem _ ho, hn, he⟩
theorem lv_max {xs : List O} (hg : goodB xs = true) (n : List UInt8) : lvF xs n = max (preO xs n).1.l (betO xs n).1.l := by
  have hall := ((good_iff xs).1 hg).2.1
  obtain ⟨h1, h2, h3⟩ := lv_spec n xs 0
  have hT := tab_of xs
  have a1 : (preO xs n).1.l ≤ lvF xs n ∧ 0 ≤ (preO xs n).1.l := by
    cases hp : (preO xs n).2 with
    | true =>
      obtain ⟨q1, q2, _⟩ := one_find (s := 1) hp
      have := hT.pre1 n hp
      exact ⟨h2 _ q1 this.1, by omega⟩
    | false => rw [hT.pre0 n hp]; exact ⟨h1, Int.le_refl _⟩
  have a2 : (betO xs n).1.l ≤ lvF xs n ∧ 0 ≤ (betO xs n).1.l := by
    cases hp : (betO xs n).2 with
    | true =>
      obtain ⟨q1, q2, _⟩ := one_find (s := 2) hp
      have := hT.bet1 n hp
      exact ⟨h2 _ q1 this.1, by omega⟩
    | false => rw [hT.bet0 n hp]; exact ⟨h1, Int.le_refl _⟩
  have a3 : lvF xs n ≤ max (preO xs n).1.l (betO xs n).1.l := by
    rcases h3 with h3 | ⟨o, ho, hn, he⟩
    · have : lvF xs n = 0 := h3
      omega
    · have hs := (may_level' (hall o ho)).2
      have he' : o.l = lvF xs n := he
      rcases side_two' _ hs with h6 | h6
      · have hk : preO xs n = (o, true) := one_mem hg ho (by unfold key; rw [hn, h6])
        rw [hk]
        show _ ≤ max o.l _
        omega
      · have hk : betO xs n = (o, true) := one_mem hg ho (by unfold key; rw [hn, h6])
        rw [hk]
        show _ ≤ max _ o.l
        omega
  omega
set_option maxHeartbeats 2000000 in
theorem yfx_at {w : World} {wb : Nat} {vo vv : Value} {xs : List O} {vs : List Int} (hg : goodB xs = true) (h : WdAt w wb vo vv xs vs) {x : Tm} {v : Value} (hv : TmV w x v) :
    Calls Tryz.prog 146 #[.pointer (some ⟨wb, 0, none⟩), v] w fun e w' => e = .returned (.bool (x.args.length == 2 && bl (betO xs (bl x.s)).1.k == yfxL)) ∧ Below w.heap.size w w' := by
  cases x with
  | mk k n s ts =>
  obtain ⟨u, rfl, _, _, _, hu⟩ := tmV_iff.1 hv
  obtain ⟨a, c, rfl, hl1, hl2, _⟩ := hu.len
  obtain ⟨ao, co, hvo, ho1, ho2⟩ := h.p.form
  show Calls Tryz.prog 146 _ _ (fun e w' => e = .returned (.bool (ts.length == 2 && bl (betO xs (bl s)).1.k == yfxL)) ∧ Below w.heap.size w w')
  obtain ⟨R, hR⟩ : ∃ R, (ts.length == 2 && bl (betO xs (bl s)).1.k == yfxL) = R := ⟨_, rfl⟩
  rw [hR]
  obtain ⟨w1, hw1, hb1, hz1, hx1⟩ := box_new w #[.int .i64 k, .int .i64 n, .string s, .slice a ts.length c] 66
  have hW1 := h.ext hb1
  have o0 := hW1.o
  obtain ⟨b0, b1, b2, b3, bf⟩ := hx1.four
  have HP := Lib.hid hW1.p
  have HB1 := Lib.hid hb1
  obtain ⟨m, hm⟩ : ∃ m, ts.length = m := ⟨_, rfl⟩
  obtain ⟨mo, hmo⟩ : ∃ m, xs.length = m := ⟨_, rfl⟩
  have HMO := Lib.hid hmo
  rw [hm] at b3 hw1 hR ⊢
  have HR := Lib.hid hR
  clear hR
  rw [hmo] at hvo
  subst hvo
  unfold maxLen at ho2
  have HG := Lib.hid hg
  clear h hv hu hb1 hx1 hz1 hW1 hm hmo hg hl1
  go_enter Tryz.func146, Tryz.ntmps146
  go_wp2_with fail
  (try rw [hw1])
  clear hw1
  refine wp_region_held_drew (S := fun w' => (w'.cell? ⟨wb, 0, none⟩ = some (.slice ao mo co) ∧ w'.cell? ⟨w.heap.size, 2, none⟩ = some (.string s) ∧ w'.cell? ⟨w.heap.size, 3, none⟩ = some (.slice a m c)) ∧ Below w1.heap.size w1 w') (by kernel_rfl) ⟨⟨o0, b2, b3⟩, (Below.refl _ _).drew⟩ (fun hHeld => ?_)
  first | (refine held_t (i := 0) hHeld ?_; apply Exists.intro; refine ⟨fun wq hq => ?_, ?_⟩; (focus ((try dsimp only at hq); go_simp; (first | done | with_reducible rfl | fail)))) | refine held_s (i := 0) hHeld ?_ | fail
  first | (refine held_t (i := 1) hHeld ?_; apply Exists.intro; refine ⟨fun wq hq => ?_, ?_⟩; (focus ((try dsimp only at hq); go_simp; (first | done | with_reducible rfl | fail)))) | refine held_s (i := 1) hHeld ?_ | fail
  try simp only [Act.put, List.setIfInBounds_toArray, List.set_cons_zero, List.set_cons_succ]
  first | (refine held_t (i := 2) hHeld ?_; apply Exists.intro; refine ⟨fun wq hq => ?_, ?_⟩; (focus ((try dsimp only at hq); go_simp; (first | done | with_reducible rfl | fail)))) | refine held_s (i := 2) hHeld ?_ | fail
  first | (refine held_t (i := 3) hHeld ?_; apply Exists.intro; refine ⟨fun wq hq => ?_, ?_⟩; (focus ((try dsimp only at hq); go_simp; (first | done | with_reducible rfl | fail)))) | refine held_s (i := 3) hHeld ?_ | fail
  try simp only [Act.put, List.setIfInBounds_toArray, List.set_cons_zero, List.set_cons_succ]
  first | (refine held_t (i := 4) hHeld ?_; apply Exists.intro; refine ⟨fun wq hq => ?_, ?_⟩; (focus ((try dsimp only at hq); go_simp; (first | done | with_reducible rfl | fail)))) | refine held_s (i := 4) hHeld ?_ | fail
  first | (refine held_t (i := 5) hHeld ?_; apply Exists.intro; refine ⟨fun wq hq => ?_, ?_⟩; (focus ((try dsimp only at hq); go_simp; (first | done | with_reducible rfl | fail)))) | refine held_s (i := 5) hHeld ?_ | fail
  try simp only [Act.put, List.setIfInBounds_toArray, List.set_cons_zero, List.set_cons_succ]
  refine held_c 6 fun K hK => ?_
  go_simp
  (go_at_call 144; refine (find_walk (HP.out.ext hHeld.2) s true).mono ?_; rintro e wA ⟨rfl, rfl⟩)
  refine hK.out _ _ (hHeld) (fun hHeld => ?_)
  clear hK K
  try simp only [Act.put, List.setIfInBounds_toArray, List.set_cons_zero, List.set_cons_succ]
  first | (refine held_t (i := 7) hHeld ?_; apply Exists.intro; refine ⟨fun wq hq => ?_, ?_⟩; (focus ((try dsimp only at hq); go_simp; (first | done | with_reducible rfl | fail)))) | refine held_s (i := 7) hHeld ?_ | fail
  try simp only [Act.put, List.setIfInBounds_toArray, List.set_cons_zero, List.set_cons_succ]
  refine wpAnyH_done (by kernel_rfl) ?_ _
  obtain ⟨⟨o0, b2, b3⟩, hBd⟩ := hHeld
  generalize w1.drew = wz at *
  have HF := Lib.hid (Ext.trans' HB1.out hBd)
  have HPZ := HP.out.ext hBd
  clear hBd b0 b1 bf
  rcases find_bet HG.out (bl s) with ⟨k1, o, hf, hx, hb⟩ | ⟨hf, hb⟩
  · have hk1 : k1 < mo := by rw [← HMO.out]; exact (List.getElem?_eq_some_iff.1 hx).1
    obtain ⟨b, off, rfl, hbs, d0, d1, d2⟩ := HPZ.cells hx
    obtain ⟨on, ok, ol⟩ := o
    rw [hf]
    simp only at d0 d1 d2
    have hr := HR.out
    rw [hb] at hr
    have hky : (bl ok == yfxL) = (ok.toList == [121, 102, 120]) := by rw [Lib.toList_data]; rfl
    have hge : (0 : Int) ≤ (k1 : Int) := by omega
    have hlt : (k1 : Int) < (mo : Int) := by omega
    simp only [hky] at hr
    by_cases hm2 : m = 2
    · subst hm2
      cases hk2 : (ok.toList == [121, 102, 120])
      · rw [hk2] at hr
        obtain rfl : R = false := hr.symm
        clear hf hb hx HPZ hky hr HR HG
        go_wp2
        go_ret
        exact ⟨rfl, HF.out⟩
      · rw [hk2] at hr
        obtain rfl : R = true := hr.symm
        clear hf hb hx HPZ hky hr HR HG
        go_wp2
        go_ret
        exact ⟨rfl, HF.out⟩
    · have hmf : ((m : Int) == 2) = false := beq_false_of_ne (by omega)
      rw [beq_false_of_ne hm2] at hr
      obtain rfl : R = false := hr.symm
      clear hf hb hx HPZ hky hr HR HG
      go_wp2
      go_ret
      exact ⟨rfl, HF.out⟩
  · rw [hf]
    have hr := HR.out
    rw [hb] at hr
    obtain rfl : R = false := by rw [← hr]; cases (m == 2) <;> rfl
    clear hf hb HPZ hr HR HG
    by_cases hm2 : m = 2
    · subst hm2
      go_wp2
      go_ret
      exact ⟨rfl, HF.out⟩
    · have hmf : ((m : Int) == 2) = false := beq_false_of_ne (by omega)
      go_wp2
      go_ret
      exact ⟨rfl, HF.out⟩
end Go.Proofs.YtljgkfdnmikpfaaGreatDoor
/- The document's own writer: level. -/
namespace Go.Proofs.YtljgkfdnmikpfaaGreatDoor
open Go.Shelf Go.RowKit
set_option linter.unusedVariables false
set_option maxRecDepth 100000

theorem name_test (s : ByteArray) (l : List UInt8) : (s.toList == l) = (bl s == l) := by rw [Lib.toList_data]
theorem op_three {pre bet : List UInt8 → O × Bool} {k n : Int} {s : ByteArray} {a b c : Tm} {r : List Tm} : opW pre bet (.mk k n s (a :: b :: c :: r)) = zO := rfl
theorem op_none {pre bet : List UInt8 → O × Bool} {k n : Int} {s : ByteArray} : opW pre bet (.mk k n s []) = zO := rfl
theorem formed_kind {k n : Int} {s : ByteArray} {a : Tm} {r : List Tm} (h : formedT (.mk k n s (a :: r)) = true) : k = 2 := by
  rw [formedT, Bool.and_eq_true] at h
  have h1 := h.1
  unfold plainT at h1
  by_cases h0 : k = 0
  · rw [if_pos h0] at h1; simp at h1
  · rw [if_neg h0] at h1
    by_cases h2 : k = 1
    · rw [if_pos h2] at h1; simp at h1
    · rw [if_neg h2] at h1
      by_cases h3 : k = 2
      · exact h3
      · rw [if_neg h3] at h1; cases h1
set_option maxHeartbeats 4000000 in
theorem rlevel_at {w : World} {wb : Nat} {vo vv : Value} {xs : List O} {vs : List Int} (hg : goodB xs = true) (h : WdAt w wb vo vv xs vs) {x : Tm} {v : Value} (hv : TmV w x v) (hf : formedT x = true) :
    Calls Tryz.prog 145 #[.pointer (some ⟨wb, 0, none⟩), v] w fun e w' => e = .returned (.int .i64 (opW (preO xs) (betO xs) x).1.l) ∧ Below w.heap.size w w' := by
  obtain ⟨R, hR⟩ : ∃ R, (opW (preO xs) (betO xs) x).1.l = R := ⟨_, rfl⟩
  rw [hR]
  have HR := Lib.hid hR
  clear hR
  have HV := Lib.hid hv
  cases x with
  | mk k n s ts =>
  have HF := Lib.hid hf
  obtain ⟨u, rfl, hsz, _, _, hu⟩ := tmV_iff.1 hv
  obtain ⟨a, c, rfl, hl1, hl2, _⟩ := hu.len
  obtain ⟨ao, co, hvo, ho1, ho2⟩ := h.p.form
  obtain ⟨w1, hw1, hb1, hz1, hx1⟩ := box_new w #[.int .i64 k, .int .i64 n, .string s, .slice a ts.length c] 66
  have hW1 := h.ext hb1
  have o0 := hW1.o
  obtain ⟨b0, b1, b2, b3, bf⟩ := hx1.four
  have HP := Lib.hid hW1.p
  have HB1 := Lib.hid hb1
  have HU := Lib.hid (hu.ext hb1)
  obtain ⟨mo, hmo⟩ : ∃ m, xs.length = m := ⟨_, rfl⟩
  have HMO := Lib.hid hmo
  rw [hmo] at hvo
  subst hvo
  unfold maxLen at ho2
  have HG := Lib.hid hg
  have hss : s.size ≤ 140737488351232 := hsz
  clear h hv hu hb1 hx1 hz1 hW1 hmo hg hl1 hf hsz
  cases ts with
  | nil =>
    have hr := HR.out
    rw [op_none] at hr
    obtain rfl : R = 0 := hr.symm
    replace b3 : w1.cell? ⟨w.heap.size, 3, none⟩ = some (.slice a 0 c) := b3
    replace hw1 : w.alloc (.cells #[.int .i64 k, .int .i64 n, .string s, .slice a 0 c] 66) = w1 := hw1
    by_cases hk : k = 2
    · subst hk
      go_enter Tryz.func145, Tryz.ntmps145
      go_wp2_with fail
      (try rw [hw1])
      clear hw1
      go_wp2
      go_ret
      exact ⟨rfl, HB1.out⟩
    · have hkf : (k != 2) = true := by simpa using hk
      go_enter Tryz.func145, Tryz.ntmps145
      go_wp2_with fail
      (try rw [hw1])
      clear hw1
      go_wp2
      go_ret
      exact ⟨rfl, HB1.out⟩
  | cons a1 r1 =>
  have hk := formed_kind HF.out
  subst hk
  cases r1 with
  | nil =>
    obtain ⟨b, off, k1, n1, s1, u1, rfl, hab, hka, rfl, rfl, d0, d1, d2, d3, _, _⟩ := HU.out.get (i := 0) (x := a1) rfl
    replace b3 : w1.cell? ⟨w.heap.size, 3, none⟩ = some (.slice (some ⟨b, off, none⟩) 1 c) := b3
    replace hw1 : w.alloc (.cells #[.int .i64 2, .int .i64 n, .string s, .slice (some ⟨b, off, none⟩) 1 c] 66) = w1 := hw1
    simp only [Nat.zero_mul, Nat.add_zero] at d0 d1 d2 d3
    have hr := HR.out
    rw [opW_one] at hr
    have P := fun wq => rplain_any s wq hss
    cases h46 : (s.toList == [46])
    all_goals
      cases h12 : (s.toList == [123, 125])
      case true =>
        have hnil := (tab_of xs).curly
        have e : bl s = [123, 125] := eq_of_beq ((name_test s _).symm.trans h12)
        rw [e, hnil, Bool.false_and, if_neg (by decide)] at hr
        obtain rfl : R = 0 := hr.symm
        clear P hr hnil e
        go_enter Tryz.func145, Tryz.ntmps145
        go_wp2_with fail
        (try rw [hw1])
        clear hw1
        go_wp2
        go_ret
        exact ⟨rfl, HB1.out⟩
      case false =>
        cases hp : plainB (bl s)
        · rw [hp] at P hr
          rw [Bool.false_and, Bool.and_false, if_neg (by decide)] at hr
          obtain rfl : R = 0 := hr.symm
          clear hr
          go_enter Tryz.func145, Tryz.ntmps145
          go_wp2_with fail
          (try rw [hw1])
          clear hw1
          (go_wp2_with fail; go_fit (P _); rintro e w2 ⟨rfl, hb2⟩)
          have HB2 := Lib.hid (Ext.trans' HB1.out hb2)
          clear hb2
          go_wp2
          go_ret
          exact ⟨rfl, HB2.out⟩
        · rw [hp, Bool.true_and] at hr
          rw [hp] at P
          by_cases hno : (bl s == [45] && a1.k == 1) = true
          · rw [hno, show (!true) = false from rfl, Bool.and_false, if_neg (by decide)] at hr
            obtain rfl : R = 0 := hr.symm
            rw [Bool.and_eq_true] at hno
            have h45 : (s.toList == [45]) = true := (name_test s _).trans hno.1
            have hk1 : a1.k = 1 := eq_of_beq hno.2
            obtain rfl : k1 = 1 := by rw [← hka]; exact hk1
            clear hr hno
            go_enter Tryz.func145, Tryz.ntmps145
            go_wp2_with fail
            (try rw [hw1])
            clear hw1
            (go_wp2_with fail; go_fit (P _); rintro e w2 ⟨rfl, hb2⟩)
            have HB2 := Lib.hid (Ext.trans' HB1.out hb2)
            have b2 := cell_later hb2 b2
            have b3 := cell_later hb2 b3
            have d0 := cell_later hb2 d0
            clear hb2
            go_wp2
            go_ret
            exact ⟨rfl, HB2.out⟩
          · have hno' : (bl s == [45] && a1.k == 1) = false := by simpa using hno
            rw [hno', show (!false) = true from rfl, Bool.and_true] at hr
            have htest : (s.toList == [45]) = false ∨ ((s.toList == [45]) = true ∧ (k1 == 1) = false) := by
              rw [name_test]
              cases h45 : (bl s == [45])
              · exact Or.inl rfl
              · rw [h45, Bool.true_and] at hno'
                exact Or.inr ⟨rfl, by rw [← hka]; exact hno'⟩
            clear hno hno' hka
            have HPL := Lib.hid P
            clear P
            rcases htest with h45 | ⟨h45, hk1⟩
            all_goals
              go_enter Tryz.func145, Tryz.ntmps145
              go_wp2_with fail
              (try rw [hw1])
              (try clear hw1)
              (go_wp2_with fail; go_fit (HPL.out _); rintro e w2 ⟨rfl, hb2⟩)
              have HBQ := Lib.hid (Ext.trans' HB1.out hb2)
              have HPQ := Lib.hid (HP.out.ext hb2)
              have b2 := cell_later hb2 b2
              have b3 := cell_later hb2 b3
              have d0 := cell_later hb2 d0
              have o0 := cell_later hb2 o0
              clear hb2
              have hr : (if (preO xs (bl s)).2 = true then preO xs (bl s) else zO).1.l = R := hr
              go_upto_region 9 with fail
              refine wp_region_held_drew (S := fun w' => (w'.cell? ⟨wb, 0, none⟩ = some (.slice ao mo co) ∧ w'.cell? ⟨w.heap.size, 2, none⟩ = some (.string s)) ∧ Below w2.heap.size w2 w') (by kernel_rfl) ⟨⟨o0, b2⟩, (Below.refl _ _).drew⟩ (fun hHeld => ?_)
              first | (refine held_t (i := 0) hHeld ?_; apply Exists.intro; refine ⟨fun wq hq => ?_, ?_⟩; (focus ((try dsimp only at hq); go_simp; (first | done | with_reducible rfl | fail)))) | refine held_s (i := 0) hHeld ?_ | fail
              first | (refine held_t (i := 1) hHeld ?_; apply Exists.intro; refine ⟨fun wq hq => ?_, ?_⟩; (focus ((try dsimp only at hq); go_simp; (first | done | with_reducible rfl | fail)))) | refine held_s (i := 1) hHeld ?_ | fail
              try simp only [Act.put, List.setIfInBounds_toArray, List.set_cons_zero, List.set_cons_succ]
              first | (refine held_t (i := 2) hHeld ?_; apply Exists.intro; refine ⟨fun wq hq => ?_, ?_⟩; (focus ((try dsimp only at hq); go_simp; (first | done | with_reducible rfl | fail)))) | refine held_s (i := 2) hHeld ?_ | fail
              first | (refine held_t (i := 3) hHeld ?_; apply Exists.intro; refine ⟨fun wq hq => ?_, ?_⟩; (focus ((try dsimp only at hq); go_simp; (first | done | with_reducible rfl | fail)))) | refine held_s (i := 3) hHeld ?_ | fail
              try simp only [Act.put, List.setIfInBounds_toArray, List.set_cons_zero, List.set_cons_succ]
              first | (refine held_t (i := 4) hHeld ?_; apply Exists.intro; refine ⟨fun wq hq => ?_, ?_⟩; (focus ((try dsimp only at hq); go_simp; (first | done | with_reducible rfl | fail)))) | refine held_s (i := 4) hHeld ?_ | fail
              first | (refine held_t (i := 5) hHeld ?_; apply Exists.intro; refine ⟨fun wq hq => ?_, ?_⟩; (focus ((try dsimp only at hq); go_simp; (first | done | with_reducible rfl | fail)))) | refine held_s (i := 5) hHeld ?_ | fail
              try simp only [Act.put, List.setIfInBounds_toArray, List.set_cons_zero, List.set_cons_succ]
              refine held_c 6 fun K hK => ?_
              go_simp
              (go_at_call 144; refine (find_walk (HPQ.out.ext hHeld.2) s false).mono ?_; rintro e wA ⟨rfl, rfl⟩)
              refine hK.out _ _ (hHeld) (fun hHeld => ?_)
              clear hK K
              try simp only [Act.put, List.setIfInBounds_toArray, List.set_cons_zero, List.set_cons_succ]
              first | (refine held_t (i := 7) hHeld ?_; apply Exists.intro; refine ⟨fun wq hq => ?_, ?_⟩; (focus ((try dsimp only at hq); go_simp; (first | done | with_reducible rfl | fail)))) | refine held_s (i := 7) hHeld ?_ | fail
              try simp only [Act.put, List.setIfInBounds_toArray, List.set_cons_zero, List.set_cons_succ]
              refine wpAnyH_done (by kernel_rfl) ?_ _
              obtain ⟨⟨o0, b2⟩, hBd⟩ := hHeld
              generalize w2.drew = wz at *
              have HFZ := Lib.hid (Ext.trans' HBQ.out hBd)
              have HPZ := HPQ.out.ext hBd
              clear hBd
              rcases find_pre HG.out (bl s) with ⟨i1, o, hf, hx, hb⟩ | ⟨hf, hb⟩
              · have hi1 : i1 < mo := by rw [← HMO.out]; exact (List.getElem?_eq_some_iff.1 hx).1
                obtain ⟨b', off', rfl, hbs, e0, e1, e2⟩ := HPZ.cells hx
                obtain ⟨on, ok, ol⟩ := o
                rw [hf]
                rw [hb] at hr
                obtain rfl : R = ol := hr.symm
                simp only at e0 e1 e2
                have hge : (0 : Int) ≤ (i1 : Int) := by omega
                have hlt : (i1 : Int) < (mo : Int) := by omega
                clear hf hb hx HPZ hr HR HG
                go_wp2
                go_ret
                exact ⟨rfl, HFZ.out⟩
              · rw [hf]
                rw [hb] at hr
                obtain rfl : R = 0 := hr.symm
                clear hf hb HPZ hr HR HG
                go_wp2
                go_ret
                exact ⟨rfl, HFZ.out⟩
  | cons a2 r2 =>
    cases r2 with
    | nil =>
      replace b3 : w1.cell? ⟨w.heap.size, 3, none⟩ = some (.slice a 2 c) := b3
      replace hw1 : w.alloc (.cells #[.int .i64 2, .int .i64 n, .string s, .slice a 2 c] 66) = w1 := hw1
      have hr := HR.out
      rw [opW_two] at hr
      cases h46 : (s.toList == [46])
      case true =>
        rw [if_pos ((name_test s _).symm.trans h46)] at hr
        obtain rfl : R = 0 := hr.symm
        clear hr
        go_enter Tryz.func145, Tryz.ntmps145
        go_wp2_with fail
        (try rw [hw1])
        clear hw1
        go_wp2
        go_ret
        exact ⟨rfl, HB1.out⟩
      case false =>
        rw [if_neg (by rw [← name_test, h46]; decide)] at hr
        have HPQ := Lib.hid HP.out
        have HBQ := Lib.hid HB1.out
        cases h12 : (s.toList == [123, 125])
        all_goals
          go_enter Tryz.func145, Tryz.ntmps145
          go_wp2_with fail
          (try rw [hw1])
          (try clear hw1)
          go_upto_region 4 with fail
          refine wp_region_held_drew (S := fun w' => (w'.cell? ⟨wb, 0, none⟩ = some (.slice ao mo co) ∧ w'.cell? ⟨w.heap.size, 2, none⟩ = some (.string s)) ∧ Below w1.heap.size w1 w') (by kernel_rfl) ⟨⟨o0, b2⟩, (Below.refl _ _).drew⟩ (fun hHeld => ?_)
          first | (refine held_t (i := 0) hHeld ?_; apply Exists.intro; refine ⟨fun wq hq => ?_, ?_⟩; (focus ((try dsimp only at hq); go_simp; (first | done | with_reducible rfl | fail)))) | refine held_s (i := 0) hHeld ?_ | fail
          first | (refine held_t (i := 1) hHeld ?_; apply Exists.intro; refine ⟨fun wq hq => ?_, ?_⟩; (focus ((try dsimp only at hq); go_simp; (first | done | with_reducible rfl | fail)))) | refine held_s (i := 1) hHeld ?_ | fail
          try simp only [Act.put, List.setIfInBounds_toArray, List.set_cons_zero, List.set_cons_succ]
          first | (refine held_t (i := 2) hHeld ?_; apply Exists.intro; refine ⟨fun wq hq => ?_, ?_⟩; (focus ((try dsimp only at hq); go_simp; (first | done | with_reducible rfl | fail)))) | refine held_s (i := 2) hHeld ?_ | fail
          first | (refine held_t (i := 3) hHeld ?_; apply Exists.intro; refine ⟨fun wq hq => ?_, ?_⟩; (focus ((try dsimp only at hq); go_simp; (first | done | with_reducible rfl | fail)))) | refine held_s (i := 3) hHeld ?_ | fail
          try simp only [Act.put, List.setIfInBounds_toArray, List.set_cons_zero, List.set_cons_succ]
          first | (refine held_t (i := 4) hHeld ?_; apply Exists.intro; refine ⟨fun wq hq => ?_, ?_⟩; (focus ((try dsimp only at hq); go_simp; (first | done | with_reducible rfl | fail)))) | refine held_s (i := 4) hHeld ?_ | fail
          first | (refine held_t (i := 5) hHeld ?_; apply Exists.intro; refine ⟨fun wq hq => ?_, ?_⟩; (focus ((try dsimp only at hq); go_simp; (first | done | with_reducible rfl | fail)))) | refine held_s (i := 5) hHeld ?_ | fail
          try simp only [Act.put, List.setIfInBounds_toArray, List.set_cons_zero, List.set_cons_succ]
          refine held_c 6 fun K hK => ?_
          go_simp
          (go_at_call 144; refine (find_walk (HPQ.out.ext hHeld.2) s true).mono ?_; rintro e wA ⟨rfl, rfl⟩)
          refine hK.out _ _ (hHeld) (fun hHeld => ?_)
          clear hK K
          try simp only [Act.put, List.setIfInBounds_toArray, List.set_cons_zero, List.set_cons_succ]
          first | (refine held_t (i := 7) hHeld ?_; apply Exists.intro; refine ⟨fun wq hq => ?_, ?_⟩; (focus ((try dsimp only at hq); go_simp; (first | done | with_reducible rfl | fail)))) | refine held_s (i := 7) hHeld ?_ | fail
          try simp only [Act.put, List.setIfInBounds_toArray, List.set_cons_zero, List.set_cons_succ]
          refine wpAnyH_done (by kernel_rfl) ?_ _
          obtain ⟨⟨o0, b2⟩, hBd⟩ := hHeld
          generalize w1.drew = wz at *
          have HFZ := Lib.hid (Ext.trans' HBQ.out hBd)
          have HPZ := HPQ.out.ext hBd
          clear hBd
          rcases find_bet HG.out (bl s) with ⟨i1, o, hf, hx, hb⟩ | ⟨hf, hb⟩
          · have hi1 : i1 < mo := by rw [← HMO.out]; exact (List.getElem?_eq_some_iff.1 hx).1
            obtain ⟨b', off', rfl, hbs, e0, e1, e2⟩ := HPZ.cells hx
            obtain ⟨on, ok, ol⟩ := o
            rw [hf]
            rw [hb] at hr
            obtain rfl : R = ol := hr.symm
            simp only at e0 e1 e2
            have hge : (0 : Int) ≤ (i1 : Int) := by omega
            have hlt : (i1 : Int) < (mo : Int) := by omega
            clear hf hb hx HPZ hr HR HG
            go_wp2
            go_ret
            exact ⟨rfl, HFZ.out⟩
          · rw [hf]
            rw [hb] at hr
            obtain rfl : R = 0 := hr.symm
            clear hf hb HPZ hr HR HG
            go_wp2
            go_ret
            exact ⟨rfl, HFZ.out⟩
    | cons a3 r3 =>
      have hr := HR.out
      rw [op_three] at hr
      obtain rfl : R = 0 := hr.symm
      obtain ⟨m, hm⟩ : ∃ m, (a1 :: a2 :: a3 :: r3).length = m := ⟨_, rfl⟩
      have hm3 : 3 ≤ m := by rw [← hm]; simp
      rw [hm] at b3 hw1
      have hm0 : ((m : Int) == 0) = false := beq_false_of_ne (by omega)
      have hm1 : ((m : Int) == 1) = false := beq_false_of_ne (by omega)
      have hm2 : ((m : Int) == 2) = false := beq_false_of_ne (by omega)
      rw [hm]
      clear hr hm
      cases h46 : (s.toList == [46])
      all_goals
        cases h12 : (s.toList == [123, 125])
        all_goals
          go_enter Tryz.func145, Tryz.ntmps145
          go_wp2_with fail
          (try rw [hw1])
          (try clear hw1)
          go_wp2
          go_ret
          exact ⟨rfl, HB1.out⟩
end Go.Proofs.YtljgkfdnmikpfaaGreatDoor
/- A list of atoms, as it is written, and read where the end follows at once: pure. -/
namespace Go.Proofs.YtljgkfdnmikpfaaGreatDoor
open Go.RowKit
set_option linter.unusedVariables false

/-- The text of the row, one by one. -/
theorem row_snoc (W : Tm → List UInt8) (x : Tm) : ∀ l : List Tm, rowW W (l ++ [x]) = (if l = [] then [] else rowW W l ++ [44]) ++ W x
  | [] => rfl
  | [y] => by rw [if_neg (by simp)]; show W y ++ 44 :: W x = _; simp [rowW]
  | y :: z :: r => by
    rw [if_neg (by simp)]
    show W y ++ 44 :: rowW W (z :: r ++ [x]) = (W y ++ 44 :: rowW W (z :: r)) ++ [44] ++ W x
    rw [row_snoc W x (z :: r), if_neg (by simp)]
    simp
theorem lrow_len {W : Tm → List UInt8} {k : Nat} : ∀ {l : List Tm}, (∀ x ∈ l, (W x).length ≤ k) → (rowW W l).length ≤ (k + 1) * l.length
  | [], _ => by simp [rowW]
  | [x], h => by have := h x (by simp); show (W x).length ≤ _; simp only [List.length_cons, List.length_nil]; omega
  | x :: y :: r, h => by
    have h1 := h x (by simp)
    have h2 := lrow_len (W := W) (k := k) (l := y :: r) (fun z hz => h z (List.mem_cons_of_mem _ hz))
    show (W x ++ 44 :: rowW W (y :: r)).length ≤ _
    rw [List.length_append, List.length_cons, List.length_cons (a := x)]
    have : (k + 1) * ((y :: r).length + 1) = (k + 1) * (y :: r).length + (k + 1) := by rw [Nat.mul_add, Nat.mul_one]
    omega
section
variable {xs : List O}
end
end Go.Proofs.YtljgkfdnmikpfaaGreatDoor
