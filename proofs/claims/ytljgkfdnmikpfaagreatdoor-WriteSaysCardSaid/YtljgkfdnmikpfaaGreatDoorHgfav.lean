import Derived.Test.YtljgkfdnmikpfaaGreatDoorHgfau
set_option linter.unusedVariables false
set_option linter.unusedSimpArgs false
/- The document's own writer: an operator between. -/
namespace Go.Proofs.YtljgkfdnmikpfaaGreatDoor
open Go.Shelf Go.RowKit
set_option linter.unusedVariables false
set_option maxRecDepth 100000

theorem atw_true {xs : List O} {vs : List Int} {n : Int} {x : Tm} : ATW xs vs true n x = besideW (preO xs) (betO xs) (BARE vs (preO xs) (betO xs)) x n := rfl
set_option maxHeartbeats 8000000 in
theorem rop_two {xs : List O} {vs : List Int} {wb : Nat} {vo vv : Value} {N : Nat} (ih : IHd xs vs wb vo vv N) (hg : goodB xs = true) {w : World} (h : WdAt w wb vo vv xs vs) {k n : Int} {s : ByteArray} {a y : Tm} {v : Value} (hv : TmV w (.mk k n s [a, y]) v) (hx : goodT (.mk k n s [a, y]) = true) (hN : sizeN (.mk k n s [a, y]) ≤ N) (hin : inV vs (.mk k n s [a, y])) :
    Calls Tryz.prog 103 #[.pointer (some ⟨wb, 0, none⟩), v] w fun e w' => e = .returned (.tuple #[.string (if (betO xs (bl s)).2 = true then baS (betweenW (preO xs) (betO xs) (BARE vs (preO xs) (betO xs)) (betO xs (bl s)).1 a y) else ⟨#[]⟩), .int .i64 (betO xs (bl s)).1.l]) ∧ Below w.heap.size w w' := by
  obtain ⟨Z, hZ⟩ : ∃ Z, (if (betO xs (bl s)).2 = true then baS (betweenW (preO xs) (betO xs) (BARE vs (preO xs) (betO xs)) (betO xs (bl s)).1 a y) else ⟨#[]⟩) = Z := ⟨_, rfl⟩
  obtain ⟨R, hR⟩ : ∃ R, (betO xs (bl s)).1.l = R := ⟨_, rfl⟩
  rw [hZ, hR]
  have HZ := Lib.hid hZ
  have HR := Lib.hid hR
  clear hZ hR
  have hga : goodT a = true := good_arg hx (by show a ∈ [a, y]; simp)
  have hgy : goodT y = true := good_arg hx (by show y ∈ [a, y]; simp)
  have hsa : sizeN a < N := Nat.lt_of_lt_of_le (arg_size (x := .mk k n s [a, y]) (by show a ∈ [a, y]; simp)) hN
  have hsy : sizeN y < N := Nat.lt_of_lt_of_le (arg_size (x := .mk k n s [a, y]) (by show y ∈ [a, y]; simp)) hN
  have HGD := Lib.hid (And.intro (And.intro hga hsa) (And.intro hgy hsy))
  have HIN := Lib.hid (show inV vs a ∧ inV vs y from ⟨inV_arg hin (by show a ∈ [a, y]; simp), inV_arg hin (by show y ∈ [a, y]; simp)⟩)
  clear hin
  have HIH := Lib.hid ih
  have HG := Lib.hid hg
  obtain ⟨u, rfl, hsz, _, _, hu⟩ := tmV_iff.1 hv
  obtain ⟨aa, c, rfl, hl1, hl2, _⟩ := hu.len
  obtain ⟨ao, co, hvo, ho1, ho2⟩ := h.p.form
  obtain ⟨w1, hw1, hb1, hz1, hx1⟩ := box_new w #[.int .i64 k, .int .i64 n, .string s, .slice aa 2 c] 66
  have HW1 := Lib.hid (h.ext hb1)
  have HB1 := Lib.hid hb1
  have HU := Lib.hid (hu.ext hb1)
  obtain ⟨b, off, ka, na, sa, ua, rfl, hab, rfl, rfl, rfl, d0, d1, d2, d3, hua, hta⟩ := HU.out.get (i := 0) (x := a) rfl
  obtain ⟨b', off', ky, ny, sy, uy, hbe, _, rfl, rfl, rfl, q0, q1, q2, q3, huy, hty⟩ := HU.out.get (i := 1) (x := y) rfl
  cases hbe
  obtain ⟨aua, cua, rfl, _⟩ := hua.len
  obtain ⟨auy, cuy, rfl, _⟩ := huy.len
  simp only [Nat.zero_mul, Nat.add_zero] at d0 d1 d2 d3
  replace q0 : w1.cell? ⟨b, off + 4, none⟩ = some (.int .i64 y.k) := q0
  replace q1 : w1.cell? ⟨b, off + 5, none⟩ = some (.int .i64 y.n) := q1
  replace q2 : w1.cell? ⟨b, off + 6, none⟩ = some (.string y.s) := q2
  replace q3 : w1.cell? ⟨b, off + 7, none⟩ = some (.slice auy y.args.length cuy) := q3
  have HTA := Lib.hid hta
  have HTY := Lib.hid hty
  obtain ⟨b0, b1, b2, b3, bf⟩ := hx1.four
  obtain ⟨mo, hmo⟩ : ∃ m, xs.length = m := ⟨_, rfl⟩
  have HMO := Lib.hid hmo
  rw [hmo] at hvo
  subst hvo
  unfold maxLen at ho2
  have o0 := HW1.out.o
  have hss : s.size ≤ 140737488351232 := hsz
  clear h hv hu hb1 hx1 hz1 hmo hg hl1 hx ih hga hgy hsa hsy hsz hua huy hta hty hN HU
  go_enter Tryz.func103, Tryz.ntmps103
  go_wp2_with fail
  (try rw [hw1])
  clear hw1
  go_upto_region 2 with fail
  refine wp_region_held_drew (S := fun w' => (w'.cell? ⟨wb, 0, none⟩ = some (.slice ao mo co) ∧ w'.cell? ⟨w.heap.size, 2, none⟩ = some (.string s)) ∧ Below w1.heap.size w1 w') (by kernel_rfl) ⟨⟨o0, b2⟩, (Below.refl _ _).drew⟩ (fun hHeld => ?_)
  first | (refine held_t (i := 0) hHeld ?_; apply Exists.intro; refine ⟨fun wq hq => ?_, ?_⟩; (focus ((try dsimp only at hq); go_simp; (first | done | with_reducible rfl | fail)))) | refine held_s (i := 0) hHeld ?_ | fail
  first | (refine held_t (i := 1) hHeld ?_; apply Exists.intro; refine ⟨fun wq hq => ?_, ?_⟩; (focus ((try dsimp only at hq); go_simp; (first | done | with_reducible rfl | fail)))) | refine held_s (i := 1) hHeld ?_ | fail
  try simp only [Act.put, List.setIfInBounds_toArray, List.set_cons_zero, List.set_cons_succ]
  first | (refine held_t (i := 2) hHeld ?_; apply Exists.intro; refine ⟨fun wq hq => ?_, ?_⟩; (focus ((try dsimp only at hq); go_simp; (first | done | with_reducible rfl | fail)))) | refine held_s (i := 2) hHeld ?_ | fail
  first | (refine held_t (i := 3) hHeld ?_; apply Exists.intro; refine ⟨fun wq hq => ?_, ?_⟩; (focus ((try dsimp only at hq); go_simp; (first | done | with_reducible rfl | fail)))) | refine held_s (i := 3) hHeld ?_ | fail
  try simp only [Act.put, List.setIfInBounds_toArray, List.set_cons_zero, List.set_cons_succ]
  first | (refine held_t (i := 4) hHeld ?_; apply Exists.intro; refine ⟨fun wq hq => ?_, ?_⟩; (focus ((try dsimp only at hq); go_simp; (first | done | with_reducible rfl | fail)))) | refine held_s (i := 4) hHeld ?_ | fail
  first | (refine held_t (i := 5) hHeld ?_; apply Exists.intro; refine ⟨fun wq hq => ?_, ?_⟩; (focus ((try dsimp only at hq); go_simp; (first | done | with_reducible rfl | fail)))) | refine held_s (i := 5) hHeld ?_ | fail
  try simp only [Act.put, List.setIfInBounds_toArray, List.set_cons_zero, List.set_cons_succ]
  refine held_c 6 fun K hK => ?_
  go_simp
  (go_at_call 144; refine (find_walk (HW1.out.p.ext hHeld.2) s true).mono ?_; rintro e wA ⟨rfl, rfl⟩)
  refine hK.out _ _ (hHeld) (fun hHeld => ?_)
  clear hK K
  try simp only [Act.put, List.setIfInBounds_toArray, List.set_cons_zero, List.set_cons_succ]
  first | (refine held_t (i := 7) hHeld ?_; apply Exists.intro; refine ⟨fun wq hq => ?_, ?_⟩; (focus ((try dsimp only at hq); go_simp; (first | done | with_reducible rfl | fail)))) | refine held_s (i := 7) hHeld ?_ | fail
  try simp only [Act.put, List.setIfInBounds_toArray, List.set_cons_zero, List.set_cons_succ]
  refine wpAnyH_done (by kernel_rfl) ?_ _
  obtain ⟨⟨o0, b2⟩, hBd⟩ := hHeld
  have b3 := cell_later hBd b3
  have d0 := cell_later hBd d0
  have d1 := cell_later hBd d1
  have d2 := cell_later hBd d2
  have d3 := cell_later hBd d3
  have q0 := cell_later hBd q0
  have q1 := cell_later hBd q1
  have q2 := cell_later hBd q2
  have q3 := cell_later hBd q3
  have HWZ := Lib.hid (HW1.out.ext hBd)
  have HTAZ := Lib.hid (TmV.ext hBd _ _ HTA.out)
  have HTYZ := Lib.hid (TmV.ext hBd _ _ HTY.out)
  have HBZ := Lib.hid (Ext.trans' HB1.out hBd)
  generalize w1.drew = wz at *
  clear hBd HTA HTY HW1 HB1 b0 b1 bf
  rcases find_bet HG.out (bl s) with ⟨i1, o, hf, hx, hb⟩ | ⟨hf, hb⟩
  case inr =>
    rw [hf]
    obtain rfl : R = 0 := by rw [← HR.out, hb]; rfl
    obtain rfl : Z = ⟨#[]⟩ := by rw [← HZ.out, hb]; rfl
    clear hf hb
    go_wp2
    go_ret2
    exact ⟨rfl, HBZ.out⟩
  have hi1 : i1 < mo := by rw [← HMO.out]; exact (List.getElem?_eq_some_iff.1 hx).1
  obtain ⟨b', off', rfl, hbs, e0, e1, e2⟩ := HWZ.out.p.cells hx
  have hob := (tab_of xs).bet1 (bl s) (by rw [hb])
  rw [hb] at hob
  obtain ⟨on, ok, ol⟩ := o
  simp only at e0 e1 e2 hob
  obtain rfl : R = ol := by rw [← HR.out, hb]
  have hZ : Z = baS (betweenW (preO xs) (betO xs) (BARE vs (preO xs) (betO xs)) ⟨on, ok, R⟩ a y) := by rw [← HZ.out, hb]; rfl
  have hsd : 0 ≤ (sidesB (bl ok) R).1 ∧ (sidesB (bl ok) R).1 ≤ 1200 ∧ 0 ≤ (sidesB (bl ok) R).2 ∧ (sidesB (bl ok) R).2 ≤ 1200 := by
    rcases sides_two hob.2.1 hob.2.2.1 hob.2.2.2 with ⟨_, h1, h2, h3⟩ | ⟨_, h1, h2⟩ <;> omega
  have hle := left_eq (xs := xs) (B := BARE vs (preO xs) (betO xs)) (o := ⟨on, ok, R⟩) (a := a) (good_parts HGD.out.1.1).2.2 hob.2.1 hob.2.2.1 hob.2.2.2
  obtain ⟨sl, sr, hsp⟩ : ∃ sl sr, sidesB (bl ok) R = (sl, sr) := ⟨_, _, rfl⟩
  rw [hsp] at hsd
  simp only [hsp] at hle
  unfold betweenW at hZ
  simp only [hsp] at hZ
  rw [hle] at hZ
  have hzs := HBZ.out.size
  have hgel : (0 : Int) ≤ (i1 : Int) := by omega
  have hltl : (i1 : Int) < (mo : Int) := by omega
  have hSR : ∀ wq, Calls Tryz.prog 117 #[.agg #[.string on, .string ok, .int .i64 R]] wq fun e w' => e = .returned (.tuple #[.int .i64 sl, .int .i64 sr]) ∧ Below wq.heap.size wq w' := fun wq => by have := rsides_walk on ok R wq; rw [hsp] at this; exact this
  have HZZ := Lib.hid hZ
  have HSP := Lib.hid hsd
  have hsn : on.size ≤ 140737488351232 := by
    have h1 := ((good_iff xs).1 HG.out).2.1 ⟨on, ok, R⟩ (List.mem_of_getElem? hx)
    have h2 := may_size (show mayB (bl on) (bl ok) R = true from h1)
    have h3 : (bl on).length = on.size := bl_len on
    omega
  rw [hf]
  obtain ⟨w4, hw4, hb4, hz4, hx4⟩ := box_new wz #[.string on, .string ok, .int .i64 R] 114
  obtain ⟨bo, hbo⟩ : ∃ bo, wz.heap.size = bo := ⟨_, rfl⟩
  have HX4 := Lib.hid hx4
  rw [hbo] at HX4
  have HB4 := Lib.hid (Ext.trans' HBZ.out hb4)
  have HW4 := Lib.hid hw4
  have hBZ4 := hb4
  clear hZ hle hsd hob hf hb hx hz4 hx4 HZ HR hw4 hsp HMO hb4
  go_upto_region 6 with fail
  rw [HW4.out]
  have b3 := cell_later hBZ4 b3
  have d0 := cell_later hBZ4 d0
  have d1 := cell_later hBZ4 d1
  have d2 := cell_later hBZ4 d2
  have d3 := cell_later hBZ4 d3
  have q0 := cell_later hBZ4 q0
  have q1 := cell_later hBZ4 q1
  have q2 := cell_later hBZ4 q2
  have q3 := cell_later hBZ4 q3
  have o0 := cell_later hBZ4 o0
  have HWQ := Lib.hid (HWZ.out.ext hBZ4)
  have HTAQ := Lib.hid (TmV.ext hBZ4 _ _ HTAZ.out)
  have HTYQ := Lib.hid (TmV.ext hBZ4 _ _ HTYZ.out)
  obtain ⟨p0, p1, p2, pf⟩ := HX4.out.three
  clear hBZ4 HWZ HTAZ HTYZ HW4 e0 e1 e2 b2
  (go_wp2_with fail; go_fit (hSR w4); rintro e w5 ⟨rfl, hb5⟩)
  have b3 := cell_later hb5 b3
  have d0 := cell_later hb5 d0
  have d1 := cell_later hb5 d1
  have d2 := cell_later hb5 d2
  have d3 := cell_later hb5 d3
  have q0 := cell_later hb5 q0
  have q1 := cell_later hb5 q1
  have q2 := cell_later hb5 q2
  have q3 := cell_later hb5 q3
  have o0 := cell_later hb5 o0
  have p0 := cell_later hb5 p0
  have p1 := cell_later hb5 p1
  have p2 := cell_later hb5 p2
  have HB5 := Lib.hid (Ext.trans' HB4.out hb5)
  have HCA := Lib.hid (fun (wq : World) (hq : Below w5.heap.size w5 wq) => HIH.out a HGD.out.1.2 HGD.out.1.1 HIN.out.1 sl true HSP.out.1 HSP.out.2.1 wq _ (TmV.ext (Ext.trans' hb5 hq) _ _ HTAQ.out) (HWQ.out.ext (Ext.trans' hb5 hq)))
  have HCY := Lib.hid (fun (wq : World) (hq : Below w5.heap.size w5 wq) => HIH.out y HGD.out.2.2 HGD.out.2.1 HIN.out.2 sr true HSP.out.2.2.1 HSP.out.2.2.2 wq _ (TmV.ext (Ext.trans' hb5 hq) _ _ HTYQ.out) (HWQ.out.ext (Ext.trans' hb5 hq)))
  obtain ⟨A, hA⟩ : ∃ A, baS (ATW xs vs true sl a) = A := ⟨_, rfl⟩
  obtain ⟨Y, hY⟩ : ∃ Y, baS (ATW xs vs true sr y) = Y := ⟨_, rfl⟩
  rw [hA] at HCA
  rw [hY] at HCY
  have hAs : A.size ≤ 600000 := by rw [← hA, size_bl, bl_baS]; exact atw_len HGD.out.1.1
  have hYs : Y.size ≤ 600000 := by rw [← hY, size_bl, bl_baS]; exact atw_len HGD.out.2.1
  have hzz := HZZ.out
  rw [← atw_true (vs := vs), ← atw_true (vs := vs), show ATW xs vs true sl a = bl A by rw [← hA, bl_baS], show ATW xs vs true sr y = bl Y by rw [← hY, bl_baS]] at hzz
  have HZA := Lib.hid hzz
  have HTA5 := Lib.hid (TmV.ext hb5 _ _ HTAQ.out)
  have HWQ5 := Lib.hid (HWQ.out.ext hb5)
  clear hzz hA hY hb5 HZZ HSP HIH HTAQ HTYQ HWQ
  go_upto_region 7 with fail
  refine wp_region_held_drew (S := fun w' => (w'.cell? ⟨w.heap.size, 3, none⟩ = some (.slice (some ⟨b, off, none⟩) 2 c) ∧ w'.cell? ⟨b, off, none⟩ = some (.int .i64 a.k) ∧ w'.cell? ⟨b, off + 1, none⟩ = some (.int .i64 a.n) ∧ w'.cell? ⟨b, off + 2, none⟩ = some (.string a.s) ∧ w'.cell? ⟨b, off + 3, none⟩ = some (.slice aua a.args.length cua) ∧ w'.cell? ⟨b, off + 4, none⟩ = some (.int .i64 y.k) ∧ w'.cell? ⟨b, off + 5, none⟩ = some (.int .i64 y.n) ∧ w'.cell? ⟨b, off + 6, none⟩ = some (.string y.s) ∧ w'.cell? ⟨b, off + 7, none⟩ = some (.slice auy y.args.length cuy)) ∧ Below w5.heap.size w5 w') (by kernel_rfl) ⟨⟨b3, d0, d1, d2, d3, q0, q1, q2, q3⟩, (Below.refl _ _).drew⟩ (fun hHeld => ?_)
  first | (refine held_t (i := 0) hHeld ?_; apply Exists.intro; refine ⟨fun wq hq => ?_, ?_⟩; (focus ((try dsimp only at hq); go_simp; (first | done | with_reducible rfl | fail)))) | refine held_s (i := 0) hHeld ?_ | fail
  first | (refine held_t (i := 1) hHeld ?_; apply Exists.intro; refine ⟨fun wq hq => ?_, ?_⟩; (focus ((try dsimp only at hq); go_simp; (first | done | with_reducible rfl | fail)))) | refine held_s (i := 1) hHeld ?_ | fail
  try simp only [Act.put, List.setIfInBounds_toArray, List.set_cons_zero, List.set_cons_succ]
  first | (refine held_t (i := 2) hHeld ?_; apply Exists.intro; refine ⟨fun wq hq => ?_, ?_⟩; (focus ((try dsimp only at hq); go_simp; (first | done | with_reducible rfl | fail)))) | refine held_s (i := 2) hHeld ?_ | fail
  first | (refine held_t (i := 3) hHeld ?_; apply Exists.intro; refine ⟨fun wq hq => ?_, ?_⟩; (focus ((try dsimp only at hq); go_simp; (first | done | with_reducible rfl | fail)))) | refine held_s (i := 3) hHeld ?_ | fail
  try simp only [Act.put, List.setIfInBounds_toArray, List.set_cons_zero, List.set_cons_succ]
  first | (refine held_t (i := 4) hHeld ?_; apply Exists.intro; refine ⟨fun wq hq => ?_, ?_⟩; (focus ((try dsimp only at hq); go_simp; (first | done | with_reducible rfl | fail)))) | refine held_s (i := 4) hHeld ?_ | fail
  first | (refine held_t (i := 5) hHeld ?_; apply Exists.intro; refine ⟨fun wq hq => ?_, ?_⟩; (focus ((try dsimp only at hq); go_simp; (first | done | with_reducible rfl | fail)))) | refine held_s (i := 5) hHeld ?_ | fail
  try simp only [Act.put, List.setIfInBounds_toArray, List.set_cons_zero, List.set_cons_succ]
  first | (refine held_t (i := 7) hHeld ?_; apply Exists.intro; refine ⟨fun wq hq => ?_, ?_⟩; (focus ((try dsimp only at hq); go_simp; (first | done | with_reducible rfl | fail)))) | refine held_s (i := 7) hHeld ?_ | fail
  first | (refine held_t (i := 8) hHeld ?_; apply Exists.intro; refine ⟨fun wq hq => ?_, ?_⟩; (focus ((try dsimp only at hq); go_simp; (first | done | with_reducible rfl | fail)))) | refine held_s (i := 8) hHeld ?_ | fail
  try simp only [Act.put, List.setIfInBounds_toArray, List.set_cons_zero, List.set_cons_succ]
  first | (refine held_t (i := 9) hHeld ?_; apply Exists.intro; refine ⟨fun wq hq => ?_, ?_⟩; (focus ((try dsimp only at hq); go_simp; (first | done | with_reducible rfl | fail)))) | refine held_s (i := 9) hHeld ?_ | fail
  first | (refine held_t (i := 10) hHeld ?_; apply Exists.intro; refine ⟨fun wq hq => ?_, ?_⟩; (focus ((try dsimp only at hq); go_simp; (first | done | with_reducible rfl | fail)))) | refine held_s (i := 10) hHeld ?_ | fail
  try simp only [Act.put, List.setIfInBounds_toArray, List.set_cons_zero, List.set_cons_succ]
  first | (refine held_t (i := 11) hHeld ?_; apply Exists.intro; refine ⟨fun wq hq => ?_, ?_⟩; (focus ((try dsimp only at hq); go_simp; (first | done | with_reducible rfl | fail)))) | refine held_s (i := 11) hHeld ?_ | fail
  first | (refine held_t (i := 12) hHeld ?_; apply Exists.intro; refine ⟨fun wq hq => ?_, ?_⟩; (focus ((try dsimp only at hq); go_simp; (first | done | with_reducible rfl | fail)))) | refine held_s (i := 12) hHeld ?_ | fail
  try simp only [Act.put, List.setIfInBounds_toArray, List.set_cons_zero, List.set_cons_succ]
  refine held_c 6 fun K hK => ?_
  go_simp
  (go_at_call 63; refine (HCA.out _ hHeld.2).mono ?_; rintro e wA ⟨rfl, hbA⟩)
  refine hK.out _ _ (⟨⟨cell_later hbA hHeld.1.1, cell_later hbA hHeld.1.2.1, cell_later hbA hHeld.1.2.2.1, cell_later hbA hHeld.1.2.2.2.1, cell_later hbA hHeld.1.2.2.2.2.1, cell_later hbA hHeld.1.2.2.2.2.2.1, cell_later hbA hHeld.1.2.2.2.2.2.2.1, cell_later hbA hHeld.1.2.2.2.2.2.2.2.1, cell_later hbA hHeld.1.2.2.2.2.2.2.2.2⟩, Ext.trans' hHeld.2 hbA⟩) (fun hHeld => ?_)
  clear hK K
  try simp only [Act.put, List.setIfInBounds_toArray, List.set_cons_zero, List.set_cons_succ]
  refine held_c 13 fun K hK => ?_
  go_simp
  (go_at_call 63; refine (HCY.out _ hHeld.2).mono ?_; rintro e wB ⟨rfl, hbB⟩)
  refine hK.out _ _ (⟨⟨cell_later hbB hHeld.1.1, cell_later hbB hHeld.1.2.1, cell_later hbB hHeld.1.2.2.1, cell_later hbB hHeld.1.2.2.2.1, cell_later hbB hHeld.1.2.2.2.2.1, cell_later hbB hHeld.1.2.2.2.2.2.1, cell_later hbB hHeld.1.2.2.2.2.2.2.1, cell_later hbB hHeld.1.2.2.2.2.2.2.2.1, cell_later hbB hHeld.1.2.2.2.2.2.2.2.2⟩, Ext.trans' hHeld.2 hbB⟩) (fun hHeld => ?_)
  clear hK K
  try simp only [Act.put, List.setIfInBounds_toArray, List.set_cons_zero, List.set_cons_succ]
  first | (refine held_t (i := 14) hHeld ?_; apply Exists.intro; refine ⟨fun wq hq => ?_, ?_⟩; (focus ((try dsimp only at hq); go_simp; (first | done | with_reducible rfl | fail)))) | refine held_s (i := 14) hHeld ?_ | fail
  first | (refine held_t (i := 15) hHeld ?_; apply Exists.intro; refine ⟨fun wq hq => ?_, ?_⟩; (focus ((try dsimp only at hq); go_simp; (first | done | with_reducible rfl | fail)))) | refine held_s (i := 15) hHeld ?_ | fail
  try simp only [Act.put, List.setIfInBounds_toArray, List.set_cons_zero, List.set_cons_succ]
  refine wpAnyH_done (by kernel_rfl) ?_ _
  obtain ⟨⟨b3, d0, d1, d2, d3, q0, q1, q2, q3⟩, hBd⟩ := hHeld
  have p0 := cell_later hBd p0
  have p1 := cell_later hBd p1
  have p2 := cell_later hBd p2
  have o0 := cell_later hBd o0
  have HB6 := Lib.hid (Ext.trans' HB5.out hBd)
  have HTA6 := Lib.hid (TmV.ext hBd _ _ HTA5.out)
  have HW6 := Lib.hid (HWQ5.out.ext hBd)
  clear hBd HCA HCY HTA5 HWQ5 q0 q1 q2 q3
  obtain ⟨cnd, hcnd⟩ : ∃ cnd, (bl ok == yfxL && (decide ((opW (preO xs) (betO xs) a).1.l = R) && !(yfxB xs a))) = cnd := ⟨_, rfl⟩
  obtain ⟨A', hA'⟩ : ∃ A' : ByteArray, (if cnd = true then (⟨#[40]⟩ ++ A) ++ ⟨#[41]⟩ else A) = A' := ⟨_, rfl⟩
  have HCN := Lib.hid hcnd
  have HA' := Lib.hid hA'
  have HOK := Lib.hid (show (bl ok == yfxL) = (ok.toList == [121, 102, 120]) from (name_test ok _).symm)
  have hz40 : ((⟨#[40]⟩ : ByteArray) ++ A).size = 1 + A.size := by rw [ByteArray.size_append]; rfl
  have hA's : A'.size ≤ 600010 := by
    rw [← hA']
    split
    · rw [ByteArray.size_append, hz40]; show 1 + A.size + 1 ≤ _; omega
    · omega
  have hss1 : ¬ 9223372036854775807 < 1 + A.size := by omega
  have hss2 : ¬ 9223372036854775807 < ((⟨#[40]⟩ : ByteArray) ++ A).size + 1 := by rw [hz40]; omega
  have hss3 : ¬ 9223372036854775807 < 1 + A.size + 1 := by omega
  clear hcnd hA' hz40
  go_upto_if 76 with fail
  go_cut [10, 76] from 54 to 79 (fun u10 u76 wx => u10 = .string A ∧ u76 = .bool cnd ∧ Hid (Below wB.heap.size wB wx))
  case first =>
    have hLV := Lib.hid (fun (wq : World) (hq : Below wB.heap.size wB wq) => rlevel_at HG.out (HW6.out.ext hq) (TmV.ext hq _ _ HTA6.out) (good_parts HGD.out.1.1).2.2)
    have hYF := Lib.hid (fun (wq : World) (hq : Below wB.heap.size wB wq) => yfx_at HG.out (HW6.out.ext hq) (TmV.ext hq _ _ HTA6.out))
    obtain ⟨la, hla⟩ : ∃ la, (opW (preO xs) (betO xs) a).1.l = la := ⟨_, rfl⟩
    have hcn := HCN.out
    rw [hla] at hLV hcn
    obtain ⟨yb, hyb⟩ : ∃ yb, yfxB xs a = yb := ⟨_, rfl⟩
    have HYF : Hid (∀ (wq : World) (hq : Below wB.heap.size wB wq), Calls Tryz.prog 146 #[.pointer (some ⟨wb, 0, none⟩), .agg #[.int .i64 a.k, .int .i64 a.n, .string a.s, .slice aua a.args.length cua]] wq fun e w' => e = .returned (.bool yb) ∧ Below wq.heap.size wq w') := Lib.hid (fun wq hq => by rw [← hyb]; exact hYF.out wq hq)
    rw [hyb] at hcn
    clear hla hyb hYF
    cases hk : (ok.toList == [121, 102, 120])
    case false =>
      rw [HOK.out, hk, Bool.false_and] at hcn
      subst hcn
      clear HA'
      refine wp_region_held_drew (S := fun w' => (w'.cell? ⟨w.heap.size, 3, none⟩ = some (.slice (some ⟨b, off, none⟩) 2 c) ∧ w'.cell? ⟨b, off, none⟩ = some (.int .i64 a.k) ∧ w'.cell? ⟨b, off + 1, none⟩ = some (.int .i64 a.n) ∧ w'.cell? ⟨b, off + 2, none⟩ = some (.string a.s) ∧ w'.cell? ⟨b, off + 3, none⟩ = some (.slice aua a.args.length cua) ∧ w'.cell? ⟨bo, 1, none⟩ = some (.string ok) ∧ w'.cell? ⟨bo, 2, none⟩ = some (.int .i64 R)) ∧ Below wB.heap.size wB w') (by kernel_rfl) ⟨⟨b3, d0, d1, d2, d3, p1, p2⟩, (Below.refl _ _).drew⟩ (fun hHeld => ?_)
      first | (refine held_t (i := 0) hHeld ?_; apply Exists.intro; refine ⟨fun wq hq => ?_, ?_⟩; (focus ((try dsimp only at hq); go_simp; (first | done | with_reducible rfl | fail)))) | refine held_s (i := 0) hHeld ?_ | fail
      first | (refine held_t (i := 1) hHeld ?_; apply Exists.intro; refine ⟨fun wq hq => ?_, ?_⟩; (focus ((try dsimp only at hq); go_simp; (first | done | with_reducible rfl | fail)))) | refine held_s (i := 1) hHeld ?_ | fail
      try simp only [Act.put, List.setIfInBounds_toArray, List.set_cons_zero, List.set_cons_succ]
      first | (refine held_t (i := 2) hHeld ?_; apply Exists.intro; refine ⟨fun wq hq => ?_, ?_⟩; (focus ((try dsimp only at hq); go_simp; (first | done | with_reducible rfl | fail)))) | refine held_s (i := 2) hHeld ?_ | fail
      first | (refine held_t (i := 3) hHeld ?_; apply Exists.intro; refine ⟨fun wq hq => ?_, ?_⟩; (focus ((try dsimp only at hq); go_simp; (first | done | with_reducible rfl | fail)))) | refine held_s (i := 3) hHeld ?_ | fail
      try simp only [Act.put, List.setIfInBounds_toArray, List.set_cons_zero, List.set_cons_succ]
      first | (refine held_t (i := 4) hHeld ?_; apply Exists.intro; refine ⟨fun wq hq => ?_, ?_⟩; (focus ((try dsimp only at hq); go_simp; (first | done | with_reducible rfl | fail)))) | refine held_s (i := 4) hHeld ?_ | fail
      first | (refine held_t (i := 5) hHeld ?_; apply Exists.intro; refine ⟨fun wq hq => ?_, ?_⟩; (focus ((try dsimp only at hq); go_simp; (first | done | with_reducible rfl | fail)))) | refine held_s (i := 5) hHeld ?_ | fail
      try simp only [Act.put, List.setIfInBounds_toArray, List.set_cons_zero, List.set_cons_succ]
      first | (refine held_t (i := 6) hHeld ?_; apply Exists.intro; refine ⟨fun wq hq => ?_, ?_⟩; (focus ((try dsimp only at hq); go_simp; (first | done | with_reducible rfl | fail)))) | refine held_s (i := 6) hHeld ?_ | fail
      first | (refine held_t (i := 7) hHeld ?_; apply Exists.intro; refine ⟨fun wq hq => ?_, ?_⟩; (focus ((try dsimp only at hq); go_simp; (first | done | with_reducible rfl | fail)))) | refine held_s (i := 7) hHeld ?_ | fail
      try simp only [Act.put, List.setIfInBounds_toArray, List.set_cons_zero, List.set_cons_succ]
      first | (refine held_t (i := 8) hHeld ?_; apply Exists.intro; refine ⟨fun wq hq => ?_, ?_⟩; (focus ((try dsimp only at hq); go_simp; (first | done | with_reducible rfl | fail)))) | refine held_s (i := 8) hHeld ?_ | fail
      first | (refine held_t (i := 9) hHeld ?_; apply Exists.intro; refine ⟨fun wq hq => ?_, ?_⟩; (focus ((try dsimp only at hq); go_simp; (first | done | with_reducible rfl | fail)))) | refine held_s (i := 9) hHeld ?_ | fail
      try simp only [Act.put, List.setIfInBounds_toArray, List.set_cons_zero, List.set_cons_succ]
      first | (refine held_t (i := 10) hHeld ?_; apply Exists.intro; refine ⟨fun wq hq => ?_, ?_⟩; (focus ((try dsimp only at hq); go_simp; (first | done | with_reducible rfl | fail)))) | refine held_s (i := 10) hHeld ?_ | fail
      first | (refine held_t (i := 11) hHeld ?_; apply Exists.intro; refine ⟨fun wq hq => ?_, ?_⟩; (focus ((try dsimp only at hq); go_simp; (first | done | with_reducible rfl | fail)))) | refine held_s (i := 11) hHeld ?_ | fail
      try simp only [Act.put, List.setIfInBounds_toArray, List.set_cons_zero, List.set_cons_succ]
      first | (refine held_t (i := 12) hHeld ?_; apply Exists.intro; refine ⟨fun wq hq => ?_, ?_⟩; (focus ((try dsimp only at hq); go_simp; (first | done | with_reducible rfl | fail)))) | refine held_s (i := 12) hHeld ?_ | fail
      first | (refine held_t (i := 13) hHeld ?_; apply Exists.intro; refine ⟨fun wq hq => ?_, ?_⟩; (focus ((try dsimp only at hq); go_simp; (first | done | with_reducible rfl | fail)))) | refine held_s (i := 13) hHeld ?_ | fail
      try simp only [Act.put, List.setIfInBounds_toArray, List.set_cons_zero, List.set_cons_succ]
      first | (refine held_t (i := 14) hHeld ?_; apply Exists.intro; refine ⟨fun wq hq => ?_, ?_⟩; (focus ((try dsimp only at hq); go_simp; (first | done | with_reducible rfl | fail)))) | refine held_s (i := 14) hHeld ?_ | fail
      first | (refine held_t (i := 15) hHeld ?_; apply Exists.intro; refine ⟨fun wq hq => ?_, ?_⟩; (focus ((try dsimp only at hq); go_simp; (first | done | with_reducible rfl | fail)))) | refine held_s (i := 15) hHeld ?_ | fail
      try simp only [Act.put, List.setIfInBounds_toArray, List.set_cons_zero, List.set_cons_succ]
      first | (refine held_t (i := 16) hHeld ?_; apply Exists.intro; refine ⟨fun wq hq => ?_, ?_⟩; (focus ((try dsimp only at hq); go_simp; (first | done | with_reducible rfl | fail)))) | refine held_s (i := 16) hHeld ?_ | fail
      first | (refine held_t (i := 17) hHeld ?_; apply Exists.intro; refine ⟨fun wq hq => ?_, ?_⟩; (focus ((try dsimp only at hq); go_simp; (first | done | with_reducible rfl | fail)))) | refine held_s (i := 17) hHeld ?_ | fail
      try simp only [Act.put, List.setIfInBounds_toArray, List.set_cons_zero, List.set_cons_succ]
      first | (refine held_t (i := 18) hHeld ?_; apply Exists.intro; refine ⟨fun wq hq => ?_, ?_⟩; (focus ((try dsimp only at hq); go_simp; (first | done | with_reducible rfl | fail)))) | refine held_s (i := 18) hHeld ?_ | fail
      first | (refine held_t (i := 19) hHeld ?_; apply Exists.intro; refine ⟨fun wq hq => ?_, ?_⟩; (focus ((try dsimp only at hq); go_simp; (first | done | with_reducible rfl | fail)))) | refine held_s (i := 19) hHeld ?_ | fail
      try simp only [Act.put, List.setIfInBounds_toArray, List.set_cons_zero, List.set_cons_succ]
      first | (refine held_t (i := 20) hHeld ?_; apply Exists.intro; refine ⟨fun wq hq => ?_, ?_⟩; (focus ((try dsimp only at hq); go_simp; (first | done | with_reducible rfl | fail)))) | refine held_s (i := 20) hHeld ?_ | fail
      first | (refine held_t (i := 21) hHeld ?_; apply Exists.intro; refine ⟨fun wq hq => ?_, ?_⟩; (focus ((try dsimp only at hq); go_simp; (first | done | with_reducible rfl | fail)))) | refine held_s (i := 21) hHeld ?_ | fail
      try simp only [Act.put, List.setIfInBounds_toArray, List.set_cons_zero, List.set_cons_succ]
      first | (refine held_t (i := 22) hHeld ?_; apply Exists.intro; refine ⟨fun wq hq => ?_, ?_⟩; (focus ((try dsimp only at hq); go_simp; (first | done | with_reducible rfl | fail)))) | refine held_s (i := 22) hHeld ?_ | fail
      try simp only [Act.put, List.setIfInBounds_toArray, List.set_cons_zero, List.set_cons_succ]
      refine wpAnyH_done (by kernel_rfl) ?_ _
      have hBB := hHeld.2
      clear hHeld
      go_wp2
      all_goals go_meet
      exact ⟨rfl, rfl, hBB⟩
    case true =>
      rw [HOK.out, hk, Bool.true_and] at hcn
      by_cases hl : la = R
      · subst hl
        have hll : (la == la) = true := beq_self_eq_true la
        rw [decide_eq_true rfl, Bool.true_and] at hcn
        refine wp_region_held_drew (S := fun w' => (w'.cell? ⟨w.heap.size, 3, none⟩ = some (.slice (some ⟨b, off, none⟩) 2 c) ∧ w'.cell? ⟨b, off, none⟩ = some (.int .i64 a.k) ∧ w'.cell? ⟨b, off + 1, none⟩ = some (.int .i64 a.n) ∧ w'.cell? ⟨b, off + 2, none⟩ = some (.string a.s) ∧ w'.cell? ⟨b, off + 3, none⟩ = some (.slice aua a.args.length cua) ∧ w'.cell? ⟨bo, 1, none⟩ = some (.string ok) ∧ w'.cell? ⟨bo, 2, none⟩ = some (.int .i64 la)) ∧ Below wB.heap.size wB w') (by kernel_rfl) ⟨⟨b3, d0, d1, d2, d3, p1, p2⟩, (Below.refl _ _).drew⟩ (fun hHeld => ?_)
        first | (refine held_t (i := 0) hHeld ?_; apply Exists.intro; refine ⟨fun wq hq => ?_, ?_⟩; (focus ((try dsimp only at hq); go_simp; (first | done | with_reducible rfl | fail)))) | refine held_s (i := 0) hHeld ?_ | fail
        first | (refine held_t (i := 1) hHeld ?_; apply Exists.intro; refine ⟨fun wq hq => ?_, ?_⟩; (focus ((try dsimp only at hq); go_simp; (first | done | with_reducible rfl | fail)))) | refine held_s (i := 1) hHeld ?_ | fail
        try simp only [Act.put, List.setIfInBounds_toArray, List.set_cons_zero, List.set_cons_succ]
        first | (refine held_t (i := 2) hHeld ?_; apply Exists.intro; refine ⟨fun wq hq => ?_, ?_⟩; (focus ((try dsimp only at hq); go_simp; (first | done | with_reducible rfl | fail)))) | refine held_s (i := 2) hHeld ?_ | fail
        first | (refine held_t (i := 3) hHeld ?_; apply Exists.intro; refine ⟨fun wq hq => ?_, ?_⟩; (focus ((try dsimp only at hq); go_simp; (first | done | with_reducible rfl | fail)))) | refine held_s (i := 3) hHeld ?_ | fail
        try simp only [Act.put, List.setIfInBounds_toArray, List.set_cons_zero, List.set_cons_succ]
        first | (refine held_t (i := 4) hHeld ?_; apply Exists.intro; refine ⟨fun wq hq => ?_, ?_⟩; (focus ((try dsimp only at hq); go_simp; (first | done | with_reducible rfl | fail)))) | refine held_s (i := 4) hHeld ?_ | fail
        first | (refine held_t (i := 5) hHeld ?_; apply Exists.intro; refine ⟨fun wq hq => ?_, ?_⟩; (focus ((try dsimp only at hq); go_simp; (first | done | with_reducible rfl | fail)))) | refine held_s (i := 5) hHeld ?_ | fail
        try simp only [Act.put, List.setIfInBounds_toArray, List.set_cons_zero, List.set_cons_succ]
        first | (refine held_t (i := 6) hHeld ?_; apply Exists.intro; refine ⟨fun wq hq => ?_, ?_⟩; (focus ((try dsimp only at hq); go_simp; (first | done | with_reducible rfl | fail)))) | refine held_s (i := 6) hHeld ?_ | fail
        first | (refine held_t (i := 7) hHeld ?_; apply Exists.intro; refine ⟨fun wq hq => ?_, ?_⟩; (focus ((try dsimp only at hq); go_simp; (first | done | with_reducible rfl | fail)))) | refine held_s (i := 7) hHeld ?_ | fail
        try simp only [Act.put, List.setIfInBounds_toArray, List.set_cons_zero, List.set_cons_succ]
        first | (refine held_t (i := 8) hHeld ?_; apply Exists.intro; refine ⟨fun wq hq => ?_, ?_⟩; (focus ((try dsimp only at hq); go_simp; (first | done | with_reducible rfl | fail)))) | refine held_s (i := 8) hHeld ?_ | fail
        first | (refine held_t (i := 10) hHeld ?_; apply Exists.intro; refine ⟨fun wq hq => ?_, ?_⟩; (focus ((try dsimp only at hq); go_simp; (first | done | with_reducible rfl | fail)))) | refine held_s (i := 10) hHeld ?_ | fail
        try simp only [Act.put, List.setIfInBounds_toArray, List.set_cons_zero, List.set_cons_succ]
        first | (refine held_t (i := 11) hHeld ?_; apply Exists.intro; refine ⟨fun wq hq => ?_, ?_⟩; (focus ((try dsimp only at hq); go_simp; (first | done | with_reducible rfl | fail)))) | refine held_s (i := 11) hHeld ?_ | fail
        try simp only [Act.put, List.setIfInBounds_toArray, List.set_cons_zero, List.set_cons_succ]
        refine held_c 9 fun K hK => ?_
        go_simp
        (go_at_call 145; refine (hLV.out _ hHeld.2).mono ?_; rintro e wL ⟨rfl, hbL⟩)
        refine hK.out _ _ (⟨⟨cell_later hbL hHeld.1.1, cell_later hbL hHeld.1.2.1, cell_later hbL hHeld.1.2.2.1, cell_later hbL hHeld.1.2.2.2.1, cell_later hbL hHeld.1.2.2.2.2.1, cell_later hbL hHeld.1.2.2.2.2.2.1, cell_later hbL hHeld.1.2.2.2.2.2.2⟩, Ext.trans' hHeld.2 hbL⟩) (fun hHeld => ?_)
        clear hK K
        try simp only [Act.put, List.setIfInBounds_toArray, List.set_cons_zero, List.set_cons_succ]
        first | (refine held_t (i := 12) hHeld ?_; apply Exists.intro; refine ⟨fun wq hq => ?_, ?_⟩; (focus ((try dsimp only at hq); go_simp; (first | done | with_reducible rfl | fail)))) | refine held_s (i := 12) hHeld ?_ | fail
        first | (refine held_t (i := 13) hHeld ?_; apply Exists.intro; refine ⟨fun wq hq => ?_, ?_⟩; (focus ((try dsimp only at hq); go_simp; (first | done | with_reducible rfl | fail)))) | refine held_s (i := 13) hHeld ?_ | fail
        try simp only [Act.put, List.setIfInBounds_toArray, List.set_cons_zero, List.set_cons_succ]
        first | (refine held_t (i := 14) hHeld ?_; apply Exists.intro; refine ⟨fun wq hq => ?_, ?_⟩; (focus ((try dsimp only at hq); go_simp; (first | done | with_reducible rfl | fail)))) | refine held_s (i := 14) hHeld ?_ | fail
        first | (refine held_t (i := 15) hHeld ?_; apply Exists.intro; refine ⟨fun wq hq => ?_, ?_⟩; (focus ((try dsimp only at hq); go_simp; (first | done | with_reducible rfl | fail)))) | refine held_s (i := 15) hHeld ?_ | fail
        try simp only [Act.put, List.setIfInBounds_toArray, List.set_cons_zero, List.set_cons_succ]
        first | (refine held_t (i := 16) hHeld ?_; apply Exists.intro; refine ⟨fun wq hq => ?_, ?_⟩; (focus ((try dsimp only at hq); go_simp; (first | done | with_reducible rfl | fail)))) | refine held_s (i := 16) hHeld ?_ | fail
        first | (refine held_t (i := 17) hHeld ?_; apply Exists.intro; refine ⟨fun wq hq => ?_, ?_⟩; (focus ((try dsimp only at hq); go_simp; (first | done | with_reducible rfl | fail)))) | refine held_s (i := 17) hHeld ?_ | fail
        try simp only [Act.put, List.setIfInBounds_toArray, List.set_cons_zero, List.set_cons_succ]
        first | (refine held_t (i := 18) hHeld ?_; apply Exists.intro; refine ⟨fun wq hq => ?_, ?_⟩; (focus ((try dsimp only at hq); go_simp; (first | done | with_reducible rfl | fail)))) | refine held_s (i := 18) hHeld ?_ | fail
        first | (refine held_t (i := 19) hHeld ?_; apply Exists.intro; refine ⟨fun wq hq => ?_, ?_⟩; (focus ((try dsimp only at hq); go_simp; (first | done | with_reducible rfl | fail)))) | refine held_s (i := 19) hHeld ?_ | fail
        try simp only [Act.put, List.setIfInBounds_toArray, List.set_cons_zero, List.set_cons_succ]
        refine held_c 20 fun K hK => ?_
        go_simp
        (go_at_call 146; refine (HYF.out _ hHeld.2).mono ?_; rintro e wY ⟨rfl, hbY⟩)
        refine hK.out _ _ (⟨⟨cell_later hbY hHeld.1.1, cell_later hbY hHeld.1.2.1, cell_later hbY hHeld.1.2.2.1, cell_later hbY hHeld.1.2.2.2.1, cell_later hbY hHeld.1.2.2.2.2.1, cell_later hbY hHeld.1.2.2.2.2.2.1, cell_later hbY hHeld.1.2.2.2.2.2.2⟩, Ext.trans' hHeld.2 hbY⟩) (fun hHeld => ?_)
        clear hK K
        try simp only [Act.put, List.setIfInBounds_toArray, List.set_cons_zero, List.set_cons_succ]
        first | (refine held_t (i := 21) hHeld ?_; apply Exists.intro; refine ⟨fun wq hq => ?_, ?_⟩; (focus ((try dsimp only at hq); go_simp; (first | done | with_reducible rfl | fail)))) | refine held_s (i := 21) hHeld ?_ | fail
        first | (refine held_t (i := 22) hHeld ?_; apply Exists.intro; refine ⟨fun wq hq => ?_, ?_⟩; (focus ((try dsimp only at hq); go_simp; (first | done | with_reducible rfl | fail)))) | refine held_s (i := 22) hHeld ?_ | fail
        try simp only [Act.put, List.setIfInBounds_toArray, List.set_cons_zero, List.set_cons_succ]
        refine wpAnyH_done (by kernel_rfl) ?_ _
        have hBB := hHeld.2
        clear hHeld
        subst hcn
        clear HA'
        cases yb
        · go_wp2
          all_goals go_meet
          exact ⟨rfl, rfl, hBB⟩
        · go_wp2
          all_goals go_meet
          exact ⟨rfl, rfl, hBB⟩
      · have hll : (la == R) = false := beq_false_of_ne hl
        rw [decide_eq_false hl, Bool.false_and] at hcn
        subst hcn
        clear HA'
        refine wp_region_held_drew (S := fun w' => (w'.cell? ⟨w.heap.size, 3, none⟩ = some (.slice (some ⟨b, off, none⟩) 2 c) ∧ w'.cell? ⟨b, off, none⟩ = some (.int .i64 a.k) ∧ w'.cell? ⟨b, off + 1, none⟩ = some (.int .i64 a.n) ∧ w'.cell? ⟨b, off + 2, none⟩ = some (.string a.s) ∧ w'.cell? ⟨b, off + 3, none⟩ = some (.slice aua a.args.length cua) ∧ w'.cell? ⟨bo, 1, none⟩ = some (.string ok) ∧ w'.cell? ⟨bo, 2, none⟩ = some (.int .i64 R)) ∧ Below wB.heap.size wB w') (by kernel_rfl) ⟨⟨b3, d0, d1, d2, d3, p1, p2⟩, (Below.refl _ _).drew⟩ (fun hHeld => ?_)
        first | (refine held_t (i := 0) hHeld ?_; apply Exists.intro; refine ⟨fun wq hq => ?_, ?_⟩; (focus ((try dsimp only at hq); go_simp; (first | done | with_reducible rfl | fail)))) | refine held_s (i := 0) hHeld ?_ | fail
        first | (refine held_t (i := 1) hHeld ?_; apply Exists.intro; refine ⟨fun wq hq => ?_, ?_⟩; (focus ((try dsimp only at hq); go_simp; (first | done | with_reducible rfl | fail)))) | refine held_s (i := 1) hHeld ?_ | fail
        try simp only [Act.put, List.setIfInBounds_toArray, List.set_cons_zero, List.set_cons_succ]
        first | (refine held_t (i := 2) hHeld ?_; apply Exists.intro; refine ⟨fun wq hq => ?_, ?_⟩; (focus ((try dsimp only at hq); go_simp; (first | done | with_reducible rfl | fail)))) | refine held_s (i := 2) hHeld ?_ | fail
        first | (refine held_t (i := 3) hHeld ?_; apply Exists.intro; refine ⟨fun wq hq => ?_, ?_⟩; (focus ((try dsimp only at hq); go_simp; (first | done | with_reducible rfl | fail)))) | refine held_s (i := 3) hHeld ?_ | fail
        try simp only [Act.put, List.setIfInBounds_toArray, List.set_cons_zero, List.set_cons_succ]
        first | (refine held_t (i := 4) hHeld ?_; apply Exists.intro; refine ⟨fun wq hq => ?_, ?_⟩; (focus ((try dsimp only at hq); go_simp; (first | done | with_reducible rfl | fail)))) | refine held_s (i := 4) hHeld ?_ | fail
        first | (refine held_t (i := 5) hHeld ?_; apply Exists.intro; refine ⟨fun wq hq => ?_, ?_⟩; (focus ((try dsimp only at hq); go_simp; (first | done | with_reducible rfl | fail)))) | refine held_s (i := 5) hHeld ?_ | fail
        try simp only [Act.put, List.setIfInBounds_toArray, List.set_cons_zero, List.set_cons_succ]
        first | (refine held_t (i := 6) hHeld ?_; apply Exists.intro; refine ⟨fun wq hq => ?_, ?_⟩; (focus ((try dsimp only at hq); go_simp; (first | done | with_reducible rfl | fail)))) | refine held_s (i := 6) hHeld ?_ | fail
        first | (refine held_t (i := 7) hHeld ?_; apply Exists.intro; refine ⟨fun wq hq => ?_, ?_⟩; (focus ((try dsimp only at hq); go_simp; (first | done | with_reducible rfl | fail)))) | refine held_s (i := 7) hHeld ?_ | fail
        try simp only [Act.put, List.setIfInBounds_toArray, List.set_cons_zero, List.set_cons_succ]
        first | (refine held_t (i := 8) hHeld ?_; apply Exists.intro; refine ⟨fun wq hq => ?_, ?_⟩; (focus ((try dsimp only at hq); go_simp; (first | done | with_reducible rfl | fail)))) | refine held_s (i := 8) hHeld ?_ | fail
        first | (refine held_t (i := 10) hHeld ?_; apply Exists.intro; refine ⟨fun wq hq => ?_, ?_⟩; (focus ((try dsimp only at hq); go_simp; (first | done | with_reducible rfl | fail)))) | refine held_s (i := 10) hHeld ?_ | fail
        try simp only [Act.put, List.setIfInBounds_toArray, List.set_cons_zero, List.set_cons_succ]
        first | (refine held_t (i := 11) hHeld ?_; apply Exists.intro; refine ⟨fun wq hq => ?_, ?_⟩; (focus ((try dsimp only at hq); go_simp; (first | done | with_reducible rfl | fail)))) | refine held_s (i := 11) hHeld ?_ | fail
        try simp only [Act.put, List.setIfInBounds_toArray, List.set_cons_zero, List.set_cons_succ]
        refine held_c 9 fun K hK => ?_
        go_simp
        (go_at_call 145; refine (hLV.out _ hHeld.2).mono ?_; rintro e wL ⟨rfl, hbL⟩)
        refine hK.out _ _ (⟨⟨cell_later hbL hHeld.1.1, cell_later hbL hHeld.1.2.1, cell_later hbL hHeld.1.2.2.1, cell_later hbL hHeld.1.2.2.2.1, cell_later hbL hHeld.1.2.2.2.2.1, cell_later hbL hHeld.1.2.2.2.2.2.1, cell_later hbL hHeld.1.2.2.2.2.2.2⟩, Ext.trans' hHeld.2 hbL⟩) (fun hHeld => ?_)
        clear hK K
        try simp only [Act.put, List.setIfInBounds_toArray, List.set_cons_zero, List.set_cons_succ]
        first | (refine held_t (i := 12) hHeld ?_; apply Exists.intro; refine ⟨fun wq hq => ?_, ?_⟩; (focus ((try dsimp only at hq); go_simp; (first | done | with_reducible rfl | fail)))) | refine held_s (i := 12) hHeld ?_ | fail
        first | (refine held_t (i := 13) hHeld ?_; apply Exists.intro; refine ⟨fun wq hq => ?_, ?_⟩; (focus ((try dsimp only at hq); go_simp; (first | done | with_reducible rfl | fail)))) | refine held_s (i := 13) hHeld ?_ | fail
        try simp only [Act.put, List.setIfInBounds_toArray, List.set_cons_zero, List.set_cons_succ]
        first | (refine held_t (i := 14) hHeld ?_; apply Exists.intro; refine ⟨fun wq hq => ?_, ?_⟩; (focus ((try dsimp only at hq); go_simp; (first | done | with_reducible rfl | fail)))) | refine held_s (i := 14) hHeld ?_ | fail
        first | (refine held_t (i := 15) hHeld ?_; apply Exists.intro; refine ⟨fun wq hq => ?_, ?_⟩; (focus ((try dsimp only at hq); go_simp; (first | done | with_reducible rfl | fail)))) | refine held_s (i := 15) hHeld ?_ | fail
        try simp only [Act.put, List.setIfInBounds_toArray, List.set_cons_zero, List.set_cons_succ]
        first | (refine held_t (i := 16) hHeld ?_; apply Exists.intro; refine ⟨fun wq hq => ?_, ?_⟩; (focus ((try dsimp only at hq); go_simp; (first | done | with_reducible rfl | fail)))) | refine held_s (i := 16) hHeld ?_ | fail
        first | (refine held_t (i := 17) hHeld ?_; apply Exists.intro; refine ⟨fun wq hq => ?_, ?_⟩; (focus ((try dsimp only at hq); go_simp; (first | done | with_reducible rfl | fail)))) | refine held_s (i := 17) hHeld ?_ | fail
        try simp only [Act.put, List.setIfInBounds_toArray, List.set_cons_zero, List.set_cons_succ]
        first | (refine held_t (i := 18) hHeld ?_; apply Exists.intro; refine ⟨fun wq hq => ?_, ?_⟩; (focus ((try dsimp only at hq); go_simp; (first | done | with_reducible rfl | fail)))) | refine held_s (i := 18) hHeld ?_ | fail
        first | (refine held_t (i := 19) hHeld ?_; apply Exists.intro; refine ⟨fun wq hq => ?_, ?_⟩; (focus ((try dsimp only at hq); go_simp; (first | done | with_reducible rfl | fail)))) | refine held_s (i := 19) hHeld ?_ | fail
        try simp only [Act.put, List.setIfInBounds_toArray, List.set_cons_zero, List.set_cons_succ]
        first | (refine held_t (i := 20) hHeld ?_; apply Exists.intro; refine ⟨fun wq hq => ?_, ?_⟩; (focus ((try dsimp only at hq); go_simp; (first | done | with_reducible rfl | fail)))) | refine held_s (i := 20) hHeld ?_ | fail
        first | (refine held_t (i := 21) hHeld ?_; apply Exists.intro; refine ⟨fun wq hq => ?_, ?_⟩; (focus ((try dsimp only at hq); go_simp; (first | done | with_reducible rfl | fail)))) | refine held_s (i := 21) hHeld ?_ | fail
        try simp only [Act.put, List.setIfInBounds_toArray, List.set_cons_zero, List.set_cons_succ]
        first | (refine held_t (i := 22) hHeld ?_; apply Exists.intro; refine ⟨fun wq hq => ?_, ?_⟩; (focus ((try dsimp only at hq); go_simp; (first | done | with_reducible rfl | fail)))) | refine held_s (i := 22) hHeld ?_ | fail
        try simp only [Act.put, List.setIfInBounds_toArray, List.set_cons_zero, List.set_cons_succ]
        refine wpAnyH_done (by kernel_rfl) ?_ _
        have hBB := hHeld.2
        clear hHeld
        go_wp2
        all_goals go_meet
        exact ⟨rfl, rfl, hBB⟩
  case rest =>
    obtain ⟨rfl, rfl, hbw⟩ := hcut
    have p0 := cell_later hbw p0
    have p2 := cell_later hbw p2
    have HBC := Lib.hid (Ext.trans' HB6.out hbw)
    have hqs : (quoteB (bl on)).length ≤ 130 := head_len [] (.mk 2 0 on [])
    obtain ⟨Q, hQ⟩ : ∃ Q : ByteArray, (⟨(quoteB (bl on)).toArray⟩ : ByteArray) = Q := ⟨_, rfl⟩
    have hQs : Q.size ≤ 130 := by rw [← hQ]; simpa [ByteArray.size] using hqs
    have hQb : quoteB (bl on) = bl Q := by rw [← hQ]
    have HQ := Lib.hid (fun wq => rquote_any on wq hsn)
    rw [hQ] at HQ
    have hza := HZA.out
    have hcn := HCN.out
    rw [hcn] at hza
    have hAb : bl A' = (if cnd = true then 40 :: (bl A ++ [41]) else bl A) := by
      rw [← HA'.out]
      cases cnd
      · rfl
      · rw [if_pos rfl, if_pos rfl, bl_cat, bl_cat]; rfl
    rw [← hAb] at hza
    have hcm : (bl on == [44]) = (on.toList == [44]) := (name_test on _).symm
    simp only [hcm, hQb] at hza
    have HZF := Lib.hid hza
    have hsp1 : (A' ++ (⟨#[32]⟩ : ByteArray)).size = A'.size + 1 := by rw [ByteArray.size_append]; rfl
    have hsp2 : (A' ++ (⟨#[32]⟩ : ByteArray) ++ Q).size = A'.size + 1 + Q.size := by rw [ByteArray.size_append, hsp1]
    have hsp3 : (A' ++ (⟨#[32]⟩ : ByteArray) ++ Q ++ (⟨#[32]⟩ : ByteArray)).size = A'.size + 1 + Q.size + 1 := by rw [ByteArray.size_append, hsp2]; rfl
    have hsp4 : (A' ++ (⟨#[44]⟩ : ByteArray)).size = A'.size + 1 := by rw [ByteArray.size_append]; rfl
    have hst1 : ¬ 9223372036854775807 < A'.size + 1 := by omega
    have hst2 : ¬ 9223372036854775807 < (A' ++ (⟨#[32]⟩ : ByteArray)).size + Q.size := by rw [hsp1]; omega
    have hst3 : ¬ 9223372036854775807 < (A' ++ (⟨#[32]⟩ : ByteArray) ++ Q).size + 1 := by rw [hsp2]; omega
    have hst4 : ¬ 9223372036854775807 < (A' ++ (⟨#[32]⟩ : ByteArray) ++ Q ++ (⟨#[32]⟩ : ByteArray)).size + Y.size := by rw [hsp3]; omega
    have hst5 : ¬ 9223372036854775807 < (A' ++ (⟨#[44]⟩ : ByteArray)).size + Y.size := by rw [hsp4]; omega
    have hst6 : ¬ 9223372036854775807 < A'.size + 1 + Q.size := by omega
    have hst7 : ¬ 9223372036854775807 < A'.size + 1 + Q.size + 1 := by omega
    have hst8 : ¬ 9223372036854775807 < A'.size + 1 + Q.size + 1 + Y.size := by omega
    have hst9 : ¬ 9223372036854775807 < A'.size + 1 + Y.size := by omega
    clear hbw hqs hQ hQb hza hcn hAb hcm hsp1 hsp2 hsp3 hsp4 HZA HCN b3 d0 d1 d2 d3
    have hgo : (if cnd = true then (⟨#[40]⟩ ++ A) ++ ⟨#[41]⟩ else A) = A' := HA'.out
    cases cnd
    case false =>
      replace hgo : A = A' := hgo
      subst hgo
      clear HA'
      have hzf := HZF.out
      cases hc44 : (on.toList == [44])
      · rw [hc44] at hzf
        simp only [Bool.false_eq_true, ↓reduceIte] at hzf
        obtain rfl : Z = A ++ ⟨#[32]⟩ ++ Q ++ ⟨#[32]⟩ ++ Y := bl_eq (by
          rw [hzf, bl_baS]
          repeat rw [bl_cat]
          simp
          rfl)
        clear hzf HZF
        go_upto_region 12 with fail
        refine wp_region_held_drew (S := fun w' => (w'.cell? ⟨bo, 0, none⟩ = some (.string on) ∧ w'.cell? ⟨bo, 2, none⟩ = some (.int .i64 R)) ∧ Below wc.heap.size wc w') (by kernel_rfl) ⟨⟨p0, p2⟩, (Below.refl _ _).drew⟩ (fun hHeld => ?_)
        first | (refine held_t (i := 0) hHeld ?_; apply Exists.intro; refine ⟨fun wq hq => ?_, ?_⟩; (focus ((try dsimp only at hq); go_simp; (first | done | with_reducible rfl | fail)))) | refine held_s (i := 0) hHeld ?_ | fail
        first | (refine held_t (i := 1) hHeld ?_; apply Exists.intro; refine ⟨fun wq hq => ?_, ?_⟩; (focus ((try dsimp only at hq); go_simp; (first | done | with_reducible rfl | fail)))) | refine held_s (i := 1) hHeld ?_ | fail
        try simp only [Act.put, List.setIfInBounds_toArray, List.set_cons_zero, List.set_cons_succ]
        first | (refine held_t (i := 2) hHeld ?_; apply Exists.intro; refine ⟨fun wq hq => ?_, ?_⟩; (focus ((try dsimp only at hq); go_simp; (first | done | with_reducible rfl | fail)))) | refine held_s (i := 2) hHeld ?_ | fail
        first | (refine held_t (i := 3) hHeld ?_; apply Exists.intro; refine ⟨fun wq hq => ?_, ?_⟩; (focus ((try dsimp only at hq); go_simp; (first | done | with_reducible rfl | fail)))) | refine held_s (i := 3) hHeld ?_ | fail
        try simp only [Act.put, List.setIfInBounds_toArray, List.set_cons_zero, List.set_cons_succ]
        first | (refine held_t (i := 7) hHeld ?_; apply Exists.intro; refine ⟨fun wq hq => ?_, ?_⟩; (focus ((try dsimp only at hq); go_simp; (first | done | with_reducible rfl | fail)))) | refine held_s (i := 7) hHeld ?_ | fail
        first | (refine held_t (i := 9) hHeld ?_; apply Exists.intro; refine ⟨fun wq hq => ?_, ?_⟩; (focus ((try dsimp only at hq); go_simp; (first | done | with_reducible rfl | fail)))) | refine held_s (i := 9) hHeld ?_ | fail
        try simp only [Act.put, List.setIfInBounds_toArray, List.set_cons_zero, List.set_cons_succ]
        first | (refine held_t (i := 10) hHeld ?_; apply Exists.intro; refine ⟨fun wq hq => ?_, ?_⟩; (focus ((try dsimp only at hq); go_simp; (first | done | with_reducible rfl | fail)))) | refine held_s (i := 10) hHeld ?_ | fail
        try simp only [Act.put, List.setIfInBounds_toArray, List.set_cons_zero, List.set_cons_succ]
        refine held_c 4 fun K hK => ?_
        go_simp
        (go_at_call 101; refine (HQ.out _).mono ?_; rintro e wQ ⟨rfl, hbQ⟩)
        refine hK.out _ _ (⟨⟨cell_later hbQ hHeld.1.1, cell_later hbQ hHeld.1.2⟩, Ext.trans' hHeld.2 hbQ⟩) (fun hHeld => ?_)
        clear hK K
        try simp only [Act.put, List.setIfInBounds_toArray, List.set_cons_zero, List.set_cons_succ]
        first | (refine held_t (i := 5) hHeld ?_; apply Exists.intro; refine ⟨fun wq hq => ?_, ?_⟩; (focus ((try dsimp only at hq); go_simp; (first | done | with_reducible rfl | fail)))) | refine held_s (i := 5) hHeld ?_ | fail
        first | (refine held_t (i := 6) hHeld ?_; apply Exists.intro; refine ⟨fun wq hq => ?_, ?_⟩; (focus ((try dsimp only at hq); go_simp; (first | done | with_reducible rfl | fail)))) | refine held_s (i := 6) hHeld ?_ | fail
        try simp only [Act.put, List.setIfInBounds_toArray, List.set_cons_zero, List.set_cons_succ]
        first | (refine held_t (i := 8) hHeld ?_; apply Exists.intro; refine ⟨fun wq hq => ?_, ?_⟩; (focus ((try dsimp only at hq); go_simp; (first | done | with_reducible rfl | fail)))) | refine held_s (i := 8) hHeld ?_ | fail
        try simp only [Act.put, List.setIfInBounds_toArray, List.set_cons_zero, List.set_cons_succ]
        first | (refine held_t (i := 11) hHeld ?_; apply Exists.intro; refine ⟨fun wq hq => ?_, ?_⟩; (focus ((try dsimp only at hq); go_simp; (first | done | with_reducible rfl | fail)))) | refine held_s (i := 11) hHeld ?_ | fail
        first | (refine held_t (i := 12) hHeld ?_; apply Exists.intro; refine ⟨fun wq hq => ?_, ?_⟩; (focus ((try dsimp only at hq); go_simp; (first | done | with_reducible rfl | fail)))) | refine held_s (i := 12) hHeld ?_ | fail
        try simp only [Act.put, List.setIfInBounds_toArray, List.set_cons_zero, List.set_cons_succ]
        refine wpAnyH_done (by kernel_rfl) ?_ _
        have HFF := Lib.hid (Ext.trans' HBC.out hHeld.2)
        clear hHeld
        go_wp2
        go_ret2
        exact ⟨rfl, HFF.out⟩
      · rw [hc44] at hzf
        simp only [↓reduceIte] at hzf
        obtain rfl : Z = A ++ ⟨#[44]⟩ ++ Y := bl_eq (by
          rw [hzf, bl_baS]
          repeat rw [bl_cat]
          simp
          rfl)
        clear hzf HZF
        go_upto_region 11 with fail
        refine wp_region_held_drew (S := fun w' => (w'.cell? ⟨bo, 0, none⟩ = some (.string on) ∧ w'.cell? ⟨bo, 2, none⟩ = some (.int .i64 R)) ∧ Below wc.heap.size wc w') (by kernel_rfl) ⟨⟨p0, p2⟩, (Below.refl _ _).drew⟩ (fun hHeld => ?_)
        first | (refine held_t (i := 0) hHeld ?_; apply Exists.intro; refine ⟨fun wq hq => ?_, ?_⟩; (focus ((try dsimp only at hq); go_simp; (first | done | with_reducible rfl | fail)))) | refine held_s (i := 0) hHeld ?_ | fail
        first | (refine held_t (i := 1) hHeld ?_; apply Exists.intro; refine ⟨fun wq hq => ?_, ?_⟩; (focus ((try dsimp only at hq); go_simp; (first | done | with_reducible rfl | fail)))) | refine held_s (i := 1) hHeld ?_ | fail
        try simp only [Act.put, List.setIfInBounds_toArray, List.set_cons_zero, List.set_cons_succ]
        first | (refine held_t (i := 2) hHeld ?_; apply Exists.intro; refine ⟨fun wq hq => ?_, ?_⟩; (focus ((try dsimp only at hq); go_simp; (first | done | with_reducible rfl | fail)))) | refine held_s (i := 2) hHeld ?_ | fail
        first | (refine held_t (i := 3) hHeld ?_; apply Exists.intro; refine ⟨fun wq hq => ?_, ?_⟩; (focus ((try dsimp only at hq); go_simp; (first | done | with_reducible rfl | fail)))) | refine held_s (i := 3) hHeld ?_ | fail
        try simp only [Act.put, List.setIfInBounds_toArray, List.set_cons_zero, List.set_cons_succ]
        first | (refine held_t (i := 4) hHeld ?_; apply Exists.intro; refine ⟨fun wq hq => ?_, ?_⟩; (focus ((try dsimp only at hq); go_simp; (first | done | with_reducible rfl | fail)))) | refine held_s (i := 4) hHeld ?_ | fail
        first | (refine held_t (i := 5) hHeld ?_; apply Exists.intro; refine ⟨fun wq hq => ?_, ?_⟩; (focus ((try dsimp only at hq); go_simp; (first | done | with_reducible rfl | fail)))) | refine held_s (i := 5) hHeld ?_ | fail
        try simp only [Act.put, List.setIfInBounds_toArray, List.set_cons_zero, List.set_cons_succ]
        first | (refine held_t (i := 6) hHeld ?_; apply Exists.intro; refine ⟨fun wq hq => ?_, ?_⟩; (focus ((try dsimp only at hq); go_simp; (first | done | with_reducible rfl | fail)))) | refine held_s (i := 6) hHeld ?_ | fail
        first | (refine held_t (i := 7) hHeld ?_; apply Exists.intro; refine ⟨fun wq hq => ?_, ?_⟩; (focus ((try dsimp only at hq); go_simp; (first | done | with_reducible rfl | fail)))) | refine held_s (i := 7) hHeld ?_ | fail
        try simp only [Act.put, List.setIfInBounds_toArray, List.set_cons_zero, List.set_cons_succ]
        refine wpAnyH_done (by kernel_rfl) ?_ _
        have HFF := Lib.hid (Ext.trans' HBC.out hHeld.2)
        clear hHeld
        go_wp2
        go_ret2
        exact ⟨rfl, HFF.out⟩
    case true =>
      replace hgo : (⟨#[40]⟩ ++ A) ++ ⟨#[41]⟩ = A' := hgo
      have HGO := Lib.hid hgo
      clear hgo
      go_upto_region 10 with fail
      rw [HGO.out]
      clear HA'
      have hzf := HZF.out
      cases hc44 : (on.toList == [44])
      · rw [hc44] at hzf
        simp only [Bool.false_eq_true, ↓reduceIte] at hzf
        obtain rfl : Z = A' ++ ⟨#[32]⟩ ++ Q ++ ⟨#[32]⟩ ++ Y := bl_eq (by
          rw [hzf, bl_baS]
          repeat rw [bl_cat]
          simp
          rfl)
        clear hzf HZF
        go_upto_region 12 with fail
        refine wp_region_held_drew (S := fun w' => (w'.cell? ⟨bo, 0, none⟩ = some (.string on) ∧ w'.cell? ⟨bo, 2, none⟩ = some (.int .i64 R)) ∧ Below wc.heap.size wc w') (by kernel_rfl) ⟨⟨p0, p2⟩, (Below.refl _ _).drew⟩ (fun hHeld => ?_)
        first | (refine held_t (i := 0) hHeld ?_; apply Exists.intro; refine ⟨fun wq hq => ?_, ?_⟩; (focus ((try dsimp only at hq); go_simp; (first | done | with_reducible rfl | fail)))) | refine held_s (i := 0) hHeld ?_ | fail
        first | (refine held_t (i := 1) hHeld ?_; apply Exists.intro; refine ⟨fun wq hq => ?_, ?_⟩; (focus ((try dsimp only at hq); go_simp; (first | done | with_reducible rfl | fail)))) | refine held_s (i := 1) hHeld ?_ | fail
        try simp only [Act.put, List.setIfInBounds_toArray, List.set_cons_zero, List.set_cons_succ]
        first | (refine held_t (i := 2) hHeld ?_; apply Exists.intro; refine ⟨fun wq hq => ?_, ?_⟩; (focus ((try dsimp only at hq); go_simp; (first | done | with_reducible rfl | fail)))) | refine held_s (i := 2) hHeld ?_ | fail
        first | (refine held_t (i := 3) hHeld ?_; apply Exists.intro; refine ⟨fun wq hq => ?_, ?_⟩; (focus ((try dsimp only at hq); go_simp; (first | done | with_reducible rfl | fail)))) | refine held_s (i := 3) hHeld ?_ | fail
        try simp only [Act.put, List.setIfInBounds_toArray, List.set_cons_zero, List.set_cons_succ]
        first | (refine held_t (i := 7) hHeld ?_; apply Exists.intro; refine ⟨fun wq hq => ?_, ?_⟩; (focus ((try dsimp only at hq); go_simp; (first | done | with_reducible rfl | fail)))) | refine held_s (i := 7) hHeld ?_ | fail
        first | (refine held_t (i := 9) hHeld ?_; apply Exists.intro; refine ⟨fun wq hq => ?_, ?_⟩; (focus ((try dsimp only at hq); go_simp; (first | done | with_reducible rfl | fail)))) | refine held_s (i := 9) hHeld ?_ | fail
        try simp only [Act.put, List.setIfInBounds_toArray, List.set_cons_zero, List.set_cons_succ]
        first | (refine held_t (i := 10) hHeld ?_; apply Exists.intro; refine ⟨fun wq hq => ?_, ?_⟩; (focus ((try dsimp only at hq); go_simp; (first | done | with_reducible rfl | fail)))) | refine held_s (i := 10) hHeld ?_ | fail
        try simp only [Act.put, List.setIfInBounds_toArray, List.set_cons_zero, List.set_cons_succ]
        refine held_c 4 fun K hK => ?_
        go_simp
        (go_at_call 101; refine (HQ.out _).mono ?_; rintro e wQ ⟨rfl, hbQ⟩)
        refine hK.out _ _ (⟨⟨cell_later hbQ hHeld.1.1, cell_later hbQ hHeld.1.2⟩, Ext.trans' hHeld.2 hbQ⟩) (fun hHeld => ?_)
        clear hK K
        try simp only [Act.put, List.setIfInBounds_toArray, List.set_cons_zero, List.set_cons_succ]
        first | (refine held_t (i := 5) hHeld ?_; apply Exists.intro; refine ⟨fun wq hq => ?_, ?_⟩; (focus ((try dsimp only at hq); go_simp; (first | done | with_reducible rfl | fail)))) | refine held_s (i := 5) hHeld ?_ | fail
        first | (refine held_t (i := 6) hHeld ?_; apply Exists.intro; refine ⟨fun wq hq => ?_, ?_⟩; (focus ((try dsimp only at hq); go_simp; (first | done | with_reducible rfl | fail)))) | refine held_s (i := 6) hHeld ?_ | fail
        try simp only [Act.put, List.setIfInBounds_toArray, List.set_cons_zero, List.set_cons_succ]
        first | (refine held_t (i := 8) hHeld ?_; apply Exists.intro; refine ⟨fun wq hq => ?_, ?_⟩; (focus ((try dsimp only at hq); go_simp; (first | done | with_reducible rfl | fail)))) | refine held_s (i := 8) hHeld ?_ | fail
        try simp only [Act.put, List.setIfInBounds_toArray, List.set_cons_zero, List.set_cons_succ]
        first | (refine held_t (i := 11) hHeld ?_; apply Exists.intro; refine ⟨fun wq hq => ?_, ?_⟩; (focus ((try dsimp only at hq); go_simp; (first | done | with_reducible rfl | fail)))) | refine held_s (i := 11) hHeld ?_ | fail
        first | (refine held_t (i := 12) hHeld ?_; apply Exists.intro; refine ⟨fun wq hq => ?_, ?_⟩; (focus ((try dsimp only at hq); go_simp; (first | done | with_reducible rfl | fail)))) | refine held_s (i := 12) hHeld ?_ | fail
        try simp only [Act.put, List.setIfInBounds_toArray, List.set_cons_zero, List.set_cons_succ]
        refine wpAnyH_done (by kernel_rfl) ?_ _
        have HFF := Lib.hid (Ext.trans' HBC.out hHeld.2)
        clear hHeld
        go_wp2
        go_ret2
        exact ⟨rfl, HFF.out⟩
      · rw [hc44] at hzf
        simp only [↓reduceIte] at hzf
        obtain rfl : Z = A' ++ ⟨#[44]⟩ ++ Y := bl_eq (by
          rw [hzf, bl_baS]
          repeat rw [bl_cat]
          simp
          rfl)
        clear hzf HZF
        go_upto_region 11 with fail
        refine wp_region_held_drew (S := fun w' => (w'.cell? ⟨bo, 0, none⟩ = some (.string on) ∧ w'.cell? ⟨bo, 2, none⟩ = some (.int .i64 R)) ∧ Below wc.heap.size wc w') (by kernel_rfl) ⟨⟨p0, p2⟩, (Below.refl _ _).drew⟩ (fun hHeld => ?_)
        first | (refine held_t (i := 0) hHeld ?_; apply Exists.intro; refine ⟨fun wq hq => ?_, ?_⟩; (focus ((try dsimp only at hq); go_simp; (first | done | with_reducible rfl | fail)))) | refine held_s (i := 0) hHeld ?_ | fail
        first | (refine held_t (i := 1) hHeld ?_; apply Exists.intro; refine ⟨fun wq hq => ?_, ?_⟩; (focus ((try dsimp only at hq); go_simp; (first | done | with_reducible rfl | fail)))) | refine held_s (i := 1) hHeld ?_ | fail
        try simp only [Act.put, List.setIfInBounds_toArray, List.set_cons_zero, List.set_cons_succ]
        first | (refine held_t (i := 2) hHeld ?_; apply Exists.intro; refine ⟨fun wq hq => ?_, ?_⟩; (focus ((try dsimp only at hq); go_simp; (first | done | with_reducible rfl | fail)))) | refine held_s (i := 2) hHeld ?_ | fail
        first | (refine held_t (i := 3) hHeld ?_; apply Exists.intro; refine ⟨fun wq hq => ?_, ?_⟩; (focus ((try dsimp only at hq); go_simp; (first | done | with_reducible rfl | fail)))) | refine held_s (i := 3) hHeld ?_ | fail
        try simp only [Act.put, List.setIfInBounds_toArray, List.set_cons_zero, List.set_cons_succ]
        first | (refine held_t (i := 4) hHeld ?_; apply Exists.intro; refine ⟨fun wq hq => ?_, ?_⟩; (focus ((try dsimp only at hq); go_simp; (first | done | with_reducible rfl | fail)))) | refine held_s (i := 4) hHeld ?_ | fail
        first | (refine held_t (i := 5) hHeld ?_; apply Exists.intro; refine ⟨fun wq hq => ?_, ?_⟩; (focus ((try dsimp only at hq); go_simp; (first | done | with_reducible rfl | fail)))) | refine held_s (i := 5) hHeld ?_ | fail
        try simp only [Act.put, List.setIfInBounds_toArray, List.set_cons_zero, List.set_cons_succ]
        first | (refine held_t (i := 6) hHeld ?_; apply Exists.intro; refine ⟨fun wq hq => ?_, ?_⟩; (focus ((try dsimp only at hq); go_simp; (first | done | with_reducible rfl | fail)))) | refine held_s (i := 6) hHeld ?_ | fail
        first | (refine held_t (i := 7) hHeld ?_; apply Exists.intro; refine ⟨fun wq hq => ?_, ?_⟩; (focus ((try dsimp only at hq); go_simp; (first | done | with_reducible rfl | fail)))) | refine held_s (i := 7) hHeld ?_ | fail
        try simp only [Act.put, List.setIfInBounds_toArray, List.set_cons_zero, List.set_cons_succ]
        refine wpAnyH_done (by kernel_rfl) ?_ _
        have HFF := Lib.hid (Ext.trans' HBC.out hHeld.2)
        clear hHeld
        go_wp2
        go_ret2
        exact ⟨rfl, HFF.out⟩
end Go.Proofs.YtljgkfdnmikpfaaGreatDoor
