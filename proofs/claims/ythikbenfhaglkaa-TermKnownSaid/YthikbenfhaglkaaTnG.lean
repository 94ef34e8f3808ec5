/- Package term: Items, walked. -/
import Derived.Test.YthikbenfhaglkaaTnF
namespace Go.Proofs.Ythikbenfhaglkaa
open Go.RowKit
set_option linter.unusedVariables false

set_option maxHeartbeats 4000000 in
set_option maxRecDepth 100000 in
theorem items_hide {D : Nat → Bool} (x : Tm) (w : World) (v : Value) (ho : Old D w) (hv : TmV (hide D w) x v) (hg : goodT x = true) : Calls Try.prog 9 #[v] w fun e w' => ∃ lv tv, e = .returned (.tuple #[lv, tv]) ∧ Tms (hide D w') lv (itemsT x).1 ∧ TmV (hide D w') (itemsT x).2 tv ∧ Below w.heap.size w w' := by
  obtain ⟨hsz, _, hfx⟩ := good_parts hg
  have G := fun w (h : TmV w x v) => Good_at x w v h
  rw [hg] at G
  obtain ⟨u, rfl⟩ := hv.pair
  obtain ⟨i0, hi0, hz0, hs0, hb0⟩ := info_parts infoTerm
  have ST := fun w1 (hb : Below ((w.alloc (box4 x.k x.n x.s u 25)).alloc (box4 0 0 ⟨#[]⟩ (.slice none 0 0) 25)).heap.size ((w.alloc (box4 x.k x.n x.s u 25)).alloc (box4 0 0 ⟨#[]⟩ (.slice none 0 0) 25)) w1) => ItemsAt.start ho hv hfx hb
  have hv0 : TmV ((w.alloc (box4 x.k x.n x.s u 25)).alloc (box4 0 0 ⟨#[]⟩ (.slice none 0 0) 25)) x (pVal (x, u)) := TmV.ext ((bel1' w _).alloc (by simp) _) _ _ hv.bare
  have G0 := G _ hv0
  unfold pVal at G0
  show Calls Try.prog 9 #[.agg #[.int .i64 x.k, .int .i64 x.n, .string x.s, u]] w _
  have HSZ := Lib.hid hsz
  obtain ⟨kx, hkx⟩ : ∃ k, x.k = k := ⟨_, rfl⟩
  obtain ⟨nx, hnx⟩ : ∃ k, x.n = k := ⟨_, rfl⟩
  obtain ⟨sx, hsx⟩ : ∃ k, x.s = k := ⟨_, rfl⟩
  simp only [hkx, hnx, hsx] at G0 ST ⊢
  have HST := Lib.hid ST
  clear hkx hnx hsx G hv0 hv hg hfx ST hsz ho
  go_enter Try.func9, Try.ntmps9
  (go_wp2_with fail; go_fit (G0); rintro e w1 ⟨rfl, b1⟩)
  have HS := Lib.hid (HST.out w1 b1)
  clear b1 HST
  go_wp2_with fail
  go_loopw [2] (fun z wr => ∃ (y : Tm) (uy : Value) (ps : List TmP) (a : Option Addr) (c : Nat), z = .slice a ps.length c ∧ Hid (ItemsAt D w wr x y uy z ps)) (fun z _ => sizeN x - sliceLen z)
  case atStart => exact ⟨x, u, [], none, 0, rfl, HS⟩
  case round =>
    obtain ⟨y, uy, ps, a, c, rfl, HI⟩ := hrel
    have e0 := HI.out.b0
    have e1 := HI.out.b1
    have e2 := HI.out.b2
    have e3 := HI.out.b3
    have g0 := HI.out.fz
    cases hp : pairT y with
    | none =>
      have hnot := pair_not hp HI.out.fm
      have hit := items_none hp
      obtain ⟨ky, hky⟩ : ∃ k, y.k = k := ⟨_, rfl⟩
      obtain ⟨ny, hny⟩ : ∃ k, y.n = k := ⟨_, rfl⟩
      obtain ⟨sy, hsy⟩ : ∃ k, y.s = k := ⟨_, rfl⟩
      obtain ⟨my, hmy⟩ : ∃ k, y.args.length = k := ⟨_, rfl⟩
      rw [hky] at e0
      rw [hny] at e1
      rw [hsy] at e2 hnot
      rw [hmy] at hnot
      have hu := HI.out.tm
      have hU : ∃ au cu, uy = .slice au my cu := by
        cases y with
        | mk ky ny sy ty =>
          obtain ⟨u', hu', _, _, _, hq⟩ := tmV_iff.1 hu
          simp only [pVal, Value.agg.injEq] at hu'
          have h2 := congrArg Array.toList hu'
          simp only [List.cons.injEq, and_true] at h2
          obtain ⟨au, cu, e, _⟩ := hq.len
          exact ⟨au, cu, by rw [h2.2.2.2, e, ← hmy]; rfl⟩
      obtain ⟨au, cu, rfl⟩ := hU
      have g1 := HI.out.fz1
      have r0 := HI.out.r0
      have r1 := HI.out.r1
      have r2 := HI.out.r2
      have r3 := HI.out.r3
      have HFI := Lib.hid (fun v0 v1 v2 v3 => HI.out.finish hp HSZ.out v0 v1 v2 v3)
      simp only [pVal, hky, hny, hsy] at HFI
      clear hky hny hmy hu hit hp
      obtain ⟨m, hm⟩ : ∃ m, ps.length = m := ⟨_, rfl⟩
      rw [hm] at HFI ⊢
      clear hm HI
      by_cases hs : sy.data.toList = [46]
      · have hm2 : ¬ my = 2 := hnot.resolve_left (fun h => h hs)
        have hs' : (sy.toList == [46]) = true := by rw [Lib.toList_data, hs]; rfl
        have hs'' : sy.toList = [46] := by rw [Lib.toList_data, hs]
        have hm2' : ((my : Int) == 2) = false := by apply beq_false_of_ne; omega
        clear hnot hsy
        go_wp2_with fail
        go_region
        go_wp2
        refine bodyPost_ret (v := .tuple #[.slice a m c, .agg #[.int .i64 ky, .int .i64 ny, .string sy, .slice au my cu]]) (by rw [results_tmp_cell' rfl]; go_simp) rfl ⟨_, _, rfl, ?_⟩
        exact HFI.out (.int .i64 ky) (.int .i64 ny) (.string sy) (.slice au my cu)
      · have hs' : (sy.toList == [46]) = false := by rw [Lib.toList_data]; exact beq_false_of_ne hs
        have hs'' : ¬ sy.toList = [46] := by rw [Lib.toList_data]; exact hs
        clear hnot hsy
        go_wp2_with fail
        go_region
        go_wp2
        refine bodyPost_ret (v := .tuple #[.slice a m c, .agg #[.int .i64 ky, .int .i64 ny, .string sy, .slice au my cu]]) (by rw [results_tmp_cell' rfl]; go_simp) rfl ⟨_, _, rfl, ?_⟩
        exact HFI.out (.int .i64 ky) (.int .i64 ny) (.string sy) (.slice au my cu)
    | some pq =>
      obtain ⟨p, q⟩ := pq
      obtain ⟨hk2, hs2, hpq⟩ := pair_kind hp
      have HP := Lib.hid hp
      have hps := pair_size hp
      have hu := HI.out.tm
      have hU : Tms (hide D w) uy [p, q] := by
        cases y with
        | mk ky ny sy ty =>
          obtain ⟨u', hu', _, _, _, hq⟩ := tmV_iff.1 hu
          simp only [pVal, Value.agg.injEq] at hu'
          have h2 := congrArg Array.toList hu'
          simp only [List.cons.injEq, and_true] at h2
          rw [h2.2.2.2, ← (show ty = [p, q] from hpq)]
          exact hq
      rw [hs2] at e2
      unfold dotS at e2
      obtain ⟨au, cu, rfl, hu1, hu2, _⟩ := hU.len
      obtain ⟨b, off, kp, np, sp, up, rfl, hbb, rfl, rfl, rfl, c0, c1, c2, c3, htup, htp⟩ := hU.get (i := 0) (x := p) rfl
      obtain ⟨b', off', kq, nq, sq, uq, hbe, hbb', rfl, rfl, rfl, d0, d1, d2, d3, htuq, htq⟩ := hU.get (i := 1) (x := q) rfl
      cases hbe
      simp only [Nat.zero_mul, Nat.add_zero, Nat.one_mul] at c0 c1 c2 c3 d0 d1 d2 d3
      have HBL := Lib.hid HI.out.bel
      have UN := (Stays.unhide D w).2
      have c0 := cell_later HBL.out (UN _ _ c0)
      have d0 := UN _ _ d0
      have c1 := cell_later HBL.out (UN _ _ c1)
      have d1 := UN _ _ d1
      have c2 := cell_later HBL.out (UN _ _ c2)
      have d2 := UN _ _ d2
      have c3 := cell_later HBL.out (UN _ _ c3)
      have d3 := UN _ _ d3
      clear UN
      obtain ⟨apu, cpu, rfl, _⟩ := htup.len
      obtain ⟨aqu, cqu, rfl, _⟩ := htuq.len
      have HTP := Lib.hid htp
      have HTQ := Lib.hid htq
      have HD := Lib.hid (show w.cell? ⟨b, off + 4, none⟩ = some (.int .i64 q.k) ∧ w.cell? ⟨b, off + 4 + 1, none⟩ = some (.int .i64 q.n) ∧ w.cell? ⟨b, off + 4 + 2, none⟩ = some (.string q.s) ∧ w.cell? ⟨b, off + 4 + 3, none⟩ = some (.slice aqu q.args.length cqu) from ⟨d0, d1, d2, d3⟩)
      have hlen := HI.out.size
      have hbig := HI.out.big
      have hqp := size_pos y
      have hsz := HSZ.out
      obtain ⟨m, hm⟩ : ∃ m, ps.length = m := ⟨_, rfl⟩
      have HROW : Hid (wr.ownsRow (w.heap.size + 2) 25 4 (.slice a m c) m (ps.flatMap pCells)) := Lib.hid (by have := HI.out.row; unfold RowP at this; rw [hm] at this; exact this)
      have HM := Lib.hid hm
      have hone : ∀ v ∈ pCells (p, .slice apu p.args.length cpu), v.oneCell' = true := fun v hv => by
        simp [pCells] at hv
        rcases hv with rfl | rfl | rfl | rfl <;> rfl
      rw [hm] at hlen ⊢
      have hm2 : m ≤ 2000 := by omega
      have hmx : m < sizeN x := by omega
      clear hk2 hs2 hpq hps hu hU htp htq hp hm hqp d0 d1 d2 d3 htup htuq
      go_wp2_with (at_builtin; refine wpList_append_k rfl _ _ 23 rfl (w.heap.size + 2) 25 i0 (.agg #[.int .i64 0, .int .i64 0, .string ⟨#[]⟩, .slice none 0 0]) 4 56 Try.underlying23 hi0 hz0 hs0 (by decide) hb0 rfl (.slice a m c) m (ps.flatMap pCells) rfl (HROW.out.alloc _) (some ⟨wr.heap.size, 0, none⟩) 1 1 (pCells (p, .slice apu p.args.length cpu)) rfl rfl (Or.inr ⟨_, rfl, fun j u hu => cell_new _ _ _ j u hu⟩) hone (by unfold maxLen; omega) (by omega) (by simp; omega) (m + 1) _ rfl rfl ?_; intro a4 c4 w4 hown4 hgrow4 hat4; obtain ⟨f0, f1, f2, f3, g4, hB4⟩ := HI.out.grown (by rw [HM.out]; exact hgrow4); have q0 := cell_later hB4 HD.out.1; have q1 := cell_later hB4 HD.out.2.1; have q2 := cell_later hB4 HD.out.2.2.1; have q3 := cell_later hB4 HD.out.2.2.2)
      have hnext := ItemsAt.next (o := .cells #[.int .i64 p.k, .int .i64 p.n, .string p.s, .slice apu p.args.length cpu] 25) HI.out HP.out HTP.out HTQ.out (by rw [HM.out]; exact hown4) (by rw [HM.out]; exact hgrow4)
      unfold setFour at hnext
      go_roundw
      case rel => exact ⟨q, .slice aqu q.args.length cqu, ps ++ [(p, .slice apu p.args.length cpu)], a4, c4, by rw [List.length_append, HM.out]; rfl, Lib.hid hnext⟩
      case measure => simp only [sliceLen]; omega
theorem items_at (x : Tm) (w : World) (v : Value) (hv : TmV w x v) (hg : goodT x = true) : Calls Try.prog 9 #[v] w fun e w' => ∃ lv tv, e = .returned (.tuple #[lv, tv]) ∧ Tms w' lv (itemsT x).1 ∧ TmV w' (itemsT x).2 tv ∧ Below w.heap.size w w' := by
  refine (items_hide (D := fun _ => false) x w v (fun _ _ => rfl) (by rw [hide_none]; exact hv) hg).mono ?_
  rintro e w' ⟨lv, tv, h1, h2, h3, h4⟩
  exact ⟨lv, tv, h1, h2.bare, h3.bare, h4⟩
end Go.Proofs.Ythikbenfhaglkaa
