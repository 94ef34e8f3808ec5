import Derived.Test.YtchbbaehdcmcfaaHsozz
import Derived.Test.YtchbbaehdcmcfaaHsoaj
set_option linter.unusedVariables false
set_option linter.unusedSimpArgs false
/- Package bind: search's look at what is a variable. -/
namespace Go.Proofs.Ytchbbaehdcmcfaa
open Go.RowKit Go.Maps
set_option linter.unusedVariables false
section
variable {V W w : World} {F : List Nat} {N : Nat} {R : List (Int × Tm)} {sb : Nat} {pb : Value} {n : Int} {M c : Nat} {pl : List PlP} {f : Int → Option Nat} {cnt : Nat}
set_option maxHeartbeats 64000000 in
set_option maxRecDepth 100000 in
theorem look_var (h : IsS W w sb pb n M c pl f cnt) (hB : IsB V F W pb N R) {x : Tm} {v : Value} (hv : TmV V x v) (hg : goodT x = true) (ho : ∀ m ∈ occT x, 0 ≤ m ∧ m < N) (hxk : x.k = 0) (hfn : f x.n = none) (hM : M ≤ 100000) (hc : c ≤ M) (hpl : pl.length ≤ 2000000) :
  Calls Try.prog 142 #[.pointer (some ⟨sb, 0, none⟩), v] w fun e w' => ∃ b c' pl', e = .returned (.bool b) ∧ IsS W w' sb pb n M c' pl' f cnt ∧ LookR V N R n M c f x b c' pl pl' := by
 have HF : Hid (x.k = 0 → f x.n = none) := Lib.hid (fun _ => hfn)
 have HBB := Lib.hid hB
 have HV := Lib.hid (And.intro hv (And.intro hg ho))
 obtain ⟨kx, nx, sx, ax, mx, cx, rfl, fk, fn, fs, fv⟩ := four_of hv
 have HFS := Lib.hid (And.intro fk (And.intro fn fs))
 clear fs fv
 obtain ⟨w1, e1, B1, z1, X1⟩ := box_new w #[.int .i64 kx, .int .i64 nx, .string sx, .slice ax mx cx] 31
 have HW0 := Lib.hid (show sb < w.heap.size ∧ ∀ (w2 : World), Below w.heap.size w w2 → ∀ vv, w2.cell? ⟨sb, 4, none⟩ = some vv → vv.ownBlock ≠ some w.heap.size from by
  obtain ⟨a5, c5, b5, hl5, _, _, _, _, q5, _, _, _, _, _, _, hown5, _⟩ := h.open
  refine ⟨hl5, fun w2 hb vv hvv e => ?_⟩
  have hq := cell_later hb q5
  rw [hq] at hvv
  injection hvv with hvv
  rw [← hvv] at e
  have := (hown5 _ e).2.2.2
  omega)
 have h1 := h.ext B1
 have HWN := Lib.hid (fun (w2 : World) (hb : Below w1.heap.size w1 w2) => HW0.out.2 w2 (Ext.trans' B1 hb))
 obtain ⟨ap, cv, bm, hlt, c0, c1, c2, c3, c4, c5, fz, _, _, hkn, _⟩ := h1.open
 obtain ⟨x0, x1, x2, x3, xf⟩ := X1.four
 have HX := Lib.hid X1
 have HI := Lib.hid h1
 have hbW : Below W.heap.size W w1 := h1.bel
 have HWK := Lib.hid (fun (wq : World) (hb : Below w1.heap.size w1 wq) => Walk_at (hB.ext (hbW.trans (hb.mono hbW.size))) hv hg ho)
 have HKN := Lib.hid hkn
 clear h h1 B1 z1 X1 hkn hv hg ho hB hbW
 have hk : kx = 0 := by rw [← fk]; exact hxk
 subst hk
 have HFS : Hid (x.k = 0 ∧ x.n = nx ∧ x.s = sx) := Lib.hid HFS.out
 have hnx : I64 nx := by
  obtain ⟨xk, xn, xs, xt⟩ := x
  obtain ⟨u, hu, _, _, q, _⟩ := tmV_iff.1 HV.out.1
  rw [← fn]; exact q
 have hfn2 : f nx = none := by rw [← fn]; exact hfn
 have HL := Lib.hid (show ∀ (w' : World), w'.heap[bm]? = w1.heap[bm]? → (Instr.lookup 98 (.map (some bm)) (.int .i64 nx) true).run Try.prog w' = .ok (.tuple #[.int .i64 0, .bool false]) w' from fun w' e => by
  have h := HKN.out.look hnx e
  rw [hfn2] at h
  exact h)
 clear hfn hfn2 hxk fk hnx
 go_enter Try.func142, Try.ntmps142
 go_wp2_with fail
 (try rw [e1])
 clear e1
 (refine wp_region_class (fun w' => (w'.cell? ⟨sb, 5, none⟩ = some (.map (some bm)) ∧ w'.cell? ⟨w.heap.size, 1, none⟩ = some (.int .i64 nx)) ∧ w'.heap[bm]? = w1.heap[bm]? ∧ Below w1.heap.size w1 w') (by kernel_rfl) (by kernel_rfl) (⟨⟨c5, x1⟩, rfl, (Below.refl _ _).drew⟩) ?_; (repeat (first | go_big_quiet_skip | (go_big_quiet_want; refine quiet_of ?_; apply Exists.intro; refine ⟨fun wq hq => ?_, ?_⟩; (focus ((try dsimp only at hq); go_simp; (first | done | with_reducible rfl | ((rw [HL.out wq hq.2.1]; exact ⟨rfl, rfl⟩)) | fail))); try simp only [Act.put, lay4]; go_big_quiet_on) | fail)); refine wpQuiet_nil ?_; intro wz hz)
 have bz := hz.2.2
 have HX := Lib.hid (HX.out.ext bz)
 have HI := Lib.hid (HI.out.ext bz)
 have HWK := Lib.hid (fun (wq : World) (hb : Below wz.heap.size wz wq) => HWK.out wq (bz.trans (hb.mono bz.size)))
 have HWN := Lib.hid (fun (w2 : World) (hb : Below wz.heap.size wz w2) => HWN.out w2 (bz.trans (hb.mono bz.size)))
 have hlt := Nat.lt_of_lt_of_le hlt bz.size
 clear hz bz c0 c1 c2 c3 c4 c5 fz x0 x1 x2 x3 xf HL HKN
 obtain ⟨w1, rfl⟩ : ∃ w', w' = wz := ⟨_, rfl⟩
 obtain ⟨ap, cv, bm, _, c0, _⟩ := HI.out.open
 obtain ⟨x0, x1, x2, x3, xf⟩ := HX.out.four
 go_upto_region 5 with fail
 go_cut [7] from 26 to 31 (fun s wx => Hid (LookB V N R x w1 wx s))
 case first =>
  refine wp_region_held_drew (S := fun w' => (w'.cell? ⟨sb, 0, none⟩ = some pb ∧ w'.cell? ⟨w.heap.size, 0, none⟩ = some (.int .i64 0) ∧ w'.cell? ⟨w.heap.size, 1, none⟩ = some (.int .i64 nx) ∧ w'.cell? ⟨w.heap.size, 2, none⟩ = some (.string sx) ∧ w'.cell? ⟨w.heap.size, 3, none⟩ = some (.slice ax mx cx)) ∧ Below w1.heap.size w1 w') (by kernel_rfl) ⟨⟨c0, x0, x1, x2, x3⟩, (Below.refl _ _).drew⟩ (fun hHeld => ?_)
  first | (refine held_t (i := 0) hHeld ?_; constructor; constructor; intro wq hq; focus ((try dsimp only at hq); go_simp; first | done | with_reducible rfl | fail)) | refine held_s (i := 0) hHeld ?_ | fail
  first | (refine held_t (i := 1) hHeld ?_; constructor; constructor; intro wq hq; focus ((try dsimp only at hq); go_simp; first | done | with_reducible rfl | fail)) | refine held_s (i := 1) hHeld ?_ | fail
  first | (refine held_t (i := 2) hHeld ?_; constructor; constructor; intro wq hq; focus ((try dsimp only at hq); go_simp; first | done | with_reducible rfl | fail)) | refine held_s (i := 2) hHeld ?_ | fail
  first | (refine held_t (i := 3) hHeld ?_; constructor; constructor; intro wq hq; focus ((try dsimp only at hq); go_simp; first | done | with_reducible rfl | fail)) | refine held_s (i := 3) hHeld ?_ | fail
  first | (refine held_t (i := 4) hHeld ?_; constructor; constructor; intro wq hq; focus ((try dsimp only at hq); go_simp; first | done | with_reducible rfl | fail)) | refine held_s (i := 4) hHeld ?_ | fail
  try simp only [Act.put, lay4]
  refine wpAnyH_ready (rs := [5, 6]) (by kernel_rfl) (by simp) ?_
  refine AllReadyH.cons (by simp only [ops3]; rfl) (fun K hK => ?_) (AllReadyH.cons (by simp only [ops3]; rfl) (fun K hK => ?_) AllReadyH.nil)
  ·go_simp
   (go_at_call 99; refine (HWK.out _ hHeld.2).mono ?_; rintro e w4 ⟨y, v4, rfl, hy, hwk, htop, b4⟩; obtain ⟨k4, m4, s4, a4, l4, cc4, rfl, f1, f2, f3, fv⟩ := four_of hy; clear fv f3; have HY := Lib.hid (And.intro hy (And.intro f1 (And.intro f2 (And.intro hwk htop)))); have HB4 := Lib.hid (Ext.trans' hHeld.2 b4); clear hy f1 f2 hwk htop)
   refine hK.out _ _ (⟨⟨cell_later b4 hHeld.1.1, cell_later b4 hHeld.1.2.1, cell_later b4 hHeld.1.2.2.1, cell_later b4 hHeld.1.2.2.2.1, cell_later b4 hHeld.1.2.2.2.2⟩, Ext.trans' hHeld.2 b4⟩) (fun hHeld => ?_)
   clear hK K
   try simp only [Act.put, lay4]
   have hS4 := hHeld
   refine held_c 6 fun K hK => ?_
   go_simp
   skip
   refine hK.out _ _ (⟨⟨cell_later (bel1' _ _) hHeld.1.1, cell_later (bel1' _ _) hHeld.1.2.1, cell_later (bel1' _ _) hHeld.1.2.2.1, cell_later (bel1' _ _) hHeld.1.2.2.2.1, cell_later (bel1' _ _) hHeld.1.2.2.2.2⟩, Ext.trans' hHeld.2 (bel1' _ _)⟩) (fun hHeld => ?_)
   clear hK K
   try simp only [Act.put, lay4]
   refine held_c 7 fun K hK => ?_
   go_simp
   skip
   refine hK.out _ _ (⟨⟨cell_later (bel1' _ _) hS4.1.1, cell_later (bel1' _ _) hS4.1.2.1, cell_later (bel1' _ _) hS4.1.2.2.1, cell_later (bel1' _ _) hS4.1.2.2.2.1, cell_later (bel1' _ _) hS4.1.2.2.2.2⟩, Ext.trans' hS4.2 (bel1' _ _)⟩) (fun hHeld => ?_)
   clear hK K
   try simp only [Act.put, lay4]
   have HEND := Lib.hid (show LookB V N R x w1 (w4.alloc (.cells #[.int .i64 k4, .int .i64 m4, .string s4, .slice a4 l4 cc4] 31)) (.pointer (some ⟨w4.heap.size, 0, none⟩)) from by
    obtain ⟨w5, e5, b5, z5, x5⟩ := box_new w4 #[.int .i64 k4, .int .i64 m4, .string s4, .slice a4 l4 cc4] 31
    rw [e5]
    exact ⟨_, y, k4, m4, s4, a4, l4, cc4, rfl, HY.out.1, HY.out.2.1, HY.out.2.2.1, HY.out.2.2.2.1, HY.out.2.2.2.2, Ext.trans' HB4.out b5, HB4.out.size, x5⟩)
   clear hHeld hS4 b4
   refine wpAnyH_done (by kernel_rfl) ?_ _
   go_wp2
   all_goals go_meet
   exact HEND.out
  ·go_simp
   skip
   refine hK.out _ _ (⟨⟨cell_later (bel1' _ _) hHeld.1.1, cell_later (bel1' _ _) hHeld.1.2.1, cell_later (bel1' _ _) hHeld.1.2.2.1, cell_later (bel1' _ _) hHeld.1.2.2.2.1, cell_later (bel1' _ _) hHeld.1.2.2.2.2⟩, Ext.trans' hHeld.2 (bel1' _ _)⟩) (fun hHeld => ?_)
   clear hK K
   try simp only [Act.put, lay4]
   have HX5 := Lib.hid (show Box (w1.alloc (.cells #[.int .i64 0, .int .i64 0, .string ⟨#[]⟩, .slice none 0 0] 31)).drew w1.heap.size [.int .i64 0, .int .i64 0, .string ⟨#[]⟩, .slice none 0 0] from by
    obtain ⟨w5, e5, b5, z5, x5⟩ := box_new w1 #[.int .i64 0, .int .i64 0, .string ⟨#[]⟩, .slice none 0 0] 31
    rw [e5]
    exact x5.ext (Below.refl _ _).drew)
   refine held_c 5 fun K hK => ?_
   go_simp
   (go_at_call 99; refine (HWK.out _ hHeld.2).mono ?_; rintro e w4 ⟨y, v4, rfl, hy, hwk, htop, b4⟩; obtain ⟨k4, m4, s4, a4, l4, cc4, rfl, f1, f2, f3, fv⟩ := four_of hy; clear fv f3; have HY := Lib.hid (And.intro hy (And.intro f1 (And.intro f2 (And.intro hwk htop)))); have HB4 := Lib.hid (Ext.trans' hHeld.2 b4); clear hy f1 f2 hwk htop)
   refine hK.out _ _ (⟨⟨cell_later b4 hHeld.1.1, cell_later b4 hHeld.1.2.1, cell_later b4 hHeld.1.2.2.1, cell_later b4 hHeld.1.2.2.2.1, cell_later b4 hHeld.1.2.2.2.2⟩, Ext.trans' hHeld.2 b4⟩) (fun hHeld => ?_)
   clear hK K
   try simp only [Act.put, lay4]
   have hx4 := HX5.out.ext b4
   obtain ⟨y0, y1, y2, y3, yf⟩ := hx4.four
   have HX4 := Lib.hid hx4
   clear hx4
   have hne1 : sb ≠ w1.heap.size := by omega
   have hne2 : w.heap.size ≠ w1.heap.size := by have := HX.out.lt; omega
   refine held_c 7 fun K hK => ?_
   go_simp
   skip
   refine hK.out _ _ (⟨⟨by rw [far_cell hne1, far_cell hne1, far_cell hne1, far_cell hne1]; exact hHeld.1.1, by rw [far_cell hne2, far_cell hne2, far_cell hne2, far_cell hne2]; exact hHeld.1.2.1, by rw [far_cell hne2, far_cell hne2, far_cell hne2, far_cell hne2]; exact hHeld.1.2.2.1, by rw [far_cell hne2, far_cell hne2, far_cell hne2, far_cell hne2]; exact hHeld.1.2.2.2.1, by rw [far_cell hne2, far_cell hne2, far_cell hne2, far_cell hne2]; exact hHeld.1.2.2.2.2⟩, Below.set4 hHeld.2 (Nat.le_refl _) _ _ _ _⟩) (fun hHeld => ?_)
   clear hK K
   try simp only [Act.put, lay4]
   have HEND := Lib.hid (show LookB V N R x w1 (set4 w4 w1.heap.size (.int .i64 k4) (.int .i64 m4) (.string s4) (.slice a4 l4 cc4)) (.pointer (some ⟨w1.heap.size, 0, none⟩)) from
    ⟨_, y, k4, m4, s4, a4, l4, cc4, rfl, HY.out.1, HY.out.2.1, HY.out.2.2.1, HY.out.2.2.2.1, HY.out.2.2.2.2, Below.set4 HB4.out (Nat.le_refl _) _ _ _ _, Nat.le_refl _, (((HX4.out.set (k := 0) (by simp)).set (k := 1) (by simp)).set (k := 2) (by simp)).set (k := 3) (by simp)⟩)
   clear hHeld b4
   refine wpAnyH_done (by kernel_rfl) ?_ _
   go_wp2
   all_goals go_meet
   exact HEND.out
 case rest =>
  obtain ⟨tb, y, k, m, st, a, l, cc, rfl, hy, fy, fm, hwk, htop, hbc, htb, hbx⟩ := hcut.out
  have hI0 := HI.out.ext hbc
  have hbW : Below W.heap.size W wc := hI0.bel
  have hSt : Stays V wc := (HBB.out.see.1).later hbW
  obtain ⟨x0', x1', x2', x3', xf'⟩ := (HX.out.ext hbc).four
  obtain ⟨y0, y1, y2, y3, yf⟩ := hbx.four
  have HBX := Lib.hid (And.intro hbx htb)
  have HYY := Lib.hid (And.intro hy (And.intro fy (And.intro fm (And.intro hwk htop))))
  have hU : Tms V (.slice a l cc) y.args ∧ y.args.length = l := by
   obtain ⟨yk, yn, ys, yt⟩ := y
   obtain ⟨u, hu, _, _, _, hU⟩ := tmV_iff.1 hy
   simp only [Value.agg.injEq] at hu
   have hu' := congrArg Array.toList hu
   simp only [List.cons.injEq, and_true] at hu'
   obtain ⟨_, _, _, rfl⟩ := hu'
   obtain ⟨a', c', e, _⟩ := hU.len
   injection e with _ e2 _
   exact ⟨hU, e2.symm⟩
  have hl8 : l ≤ 8 := by rw [← hU.2]; exact good_len hwk.good
  obtain ⟨hcc1, hcc2⟩ : l ≤ cc ∧ cc ≤ maxLen := by obtain ⟨a', c', e, q1, q2, _⟩ := hU.1.len; injection e with _ e2 e3; subst e2 e3; exact ⟨q1, q2⟩
  unfold maxLen at hcc2
  have HU := Lib.hid hU
  have HI0 := Lib.hid (And.intro hI0 hbc)
  have HOW0 := Lib.hid (show ∀ vv, wc.cell? ⟨sb, 4, none⟩ = some vv → vv.ownBlock ≠ some tb from fun vv hvv e => by
   obtain ⟨ap2, cv2, bm2, _, _, _, _, _, q4, _, _, _, _, _, _, hown, _⟩ := HI.out.open
   have := cell_later hbc q4
   rw [this] at hvv
   injection hvv with hvv
   rw [← hvv] at e
   have := hown _ e
   omega)
  clear hy fy fm hwk htop hbx hU hI0 hSt hcut
  by_cases hl0 : l = 0
  ·have hl1 : ¬ ((0 : Int) < l) := by omega
   have hl2 : decide ((0 : Int) < l) = false := by simpa using hl1
   have HL0 := Lib.hid hl0
   clear hl0
   have HE0 := Lib.hid (show IsS W wc sb pb n M c (pl ++ []) f cnt ∧ Box wc tb [.int .i64 k, .int .i64 m, .string st, .slice a l cc] ∧ ∀ vv, wc.cell? ⟨sb, 4, none⟩ = some vv → vv.ownBlock ≠ some tb from ⟨by rw [List.append_nil]; exact HI0.out.1, HBX.out.1, HOW0.out⟩)
   obtain ⟨E, hE⟩ : ∃ E : List PlP, ([] : List PlP) = E := ⟨_, rfl⟩
   have HPE0 := Lib.hid (show (∀ q ∈ E, PlOk V N q) ∧ E.reverse.map PlP.pl = (if x.k = 0 ∧ y.args ≠ [] then [⟨x, true, c⟩] else []) ∧ E.length ≤ 1 from ⟨fun q hq => (by rw [← hE] at hq; cases hq), by rw [← hE]; rw [if_neg (fun e => e.2 (List.length_eq_zero_iff.1 (by rw [HU.out.2]; exact HL0.out)))]; rfl, by rw [← hE]; simp⟩)
   rw [hE] at HE0
   clear hE
   obtain ⟨P0, hP0⟩ : ∃ P0, pl ++ E = P0 := ⟨_, rfl⟩
   have HPE := Lib.hid (show pl ++ E = P0 ∧ (∀ q ∈ E, PlOk V N q) ∧ E.reverse.map PlP.pl = (if x.k = 0 ∧ y.args ≠ [] then [⟨x, true, c⟩] else []) ∧ P0.length ≤ 2000001 from ⟨hP0, HPE0.out.1, HPE0.out.2.1, by rw [← hP0, List.length_append]; have := HPE0.out.2.2; omega⟩)
   rw [hP0] at HE0
   clear hP0
   go_wp2_with fail
   go_loopg [8] l (fun g z wr => ∃ (j : Nat) (zz : Int) (news : List PlP), j ≤ l ∧ z = .int .i64 zz ∧ zz = (l : Int) - 1 - j ∧ g = l - j ∧ Hid (IsS W wr sb pb n M c (P0 ++ news) f cnt ∧ Below W.heap.size W wr ∧ Box wr tb [.int .i64 k, .int .i64 m, .string st, .slice a l cc] ∧ ∀ vv, wr.cell? ⟨sb, 4, none⟩ = some vv → vv.ownBlock ≠ some tb) ∧ Hid (news.length = j ∧ (∀ q ∈ news, PlOk V N q) ∧ news.map PlP.pl = (y.args.reverse.take j).map asPl))
   case atStart => exact ⟨0, (l : Int) - 1, [], Nat.zero_le _, by first | rfl | go_num, by omega, rfl, Lib.hid ⟨by rw [List.append_nil]; exact HE0.out.1, HE0.out.1.bel, HE0.out.2.1, HE0.out.2.2⟩, Lib.hid ⟨rfl, fun q hq => (by cases hq), by simp⟩⟩
   case round =>
    obtain ⟨j, zz, news, hj, rfl, hzz, hgk, HS, HN⟩ := hrel
    by_cases hjl : j < l
    ·obtain ⟨ii, hii⟩ : ∃ ii : Nat, l = ii + 1 + j := ⟨l - 1 - j, by omega⟩
     obtain rfl : zz = (ii : Int) := by omega
     obtain ⟨u, hu⟩ : ∃ u, y.args[ii]? = some u := ⟨_, List.getElem?_eq_getElem (by rw [HU.out.2]; omega)⟩
     obtain ⟨b, off, k1, n1, s1, u1, rfl, hbb, f1, f2, f3, c0, c1, c2, c3, htu, htv⟩ := HU.out.1.get hu
     obtain ⟨au, cu, rfl, _⟩ := htu.len
     have hSt := (HBB.out.see.1).later HS.out.2.1
     have d0 := hSt.2 _ _ c0
     have d1 := hSt.2 _ _ c1
     have d2 := hSt.2 _ _ c2
     have d3 := hSt.2 _ _ c3
     have HTV := Lib.hid (And.intro htv (And.intro hu (And.intro f1 (And.intro f2 f3))))
     have HII := Lib.hid hii
     have hil : ii < l := by omega
     have HGK := Lib.hid hgk
     clear hgk
     obtain ⟨p0, p1, p2, p3, pf⟩ := HS.out.2.2.1.four
     obtain ⟨ap2, cv2, bm2, hlt2, _, _, _, _, q4, _, fz2, hpc, hpm, _, hrow, hown, _⟩ := HS.out.1.open
     obtain ⟨i0, hi0, hz0, hs0, hb0⟩ := info_parts infoPlace
     obtain ⟨P, hP⟩ : ∃ P, (P0 ++ news).length = P := ⟨_, rfl⟩
     have hPb : P ≤ 2000010 := by have := HPE.out.2.2.2; rw [← hP, List.length_append, HN.out.1]; omega
     have q4h := q4
     have HPU := Lib.hid (fun (o : Obj) (w3 : World) (v' : Value) hg hat hr => HS.out.1.push q4h (w2 := (wr.alloc o).drew) (w3 := w3) (v' := v') (bel1' wr o).drew hg hat ⟨(u, .slice au u.args.length cu), false, 0⟩ hr)
     have HGZ := Lib.hid (fun (o : Obj) (w7 : World) (g : (wr.alloc o).drew.grownBy w7 (Value.slice ap2 (P0 ++ news).length cv2).ownBlock) => (show wr.heap.size ≤ w7.heap.size ∧ wr.heap.size ≤ (wr.alloc o).drew.heap.size from ⟨Nat.le_trans (bel1' wr o).size g.size, (bel1' wr o).size⟩))
     have HOW := Lib.hid (And.intro hown hP)
     have hrow2 := fun (o : Obj) => (show (wr.alloc o).drew.ownsRow W.heap.size 175 6 (.slice ap2 (P0 ++ news).length cv2) (P0 ++ news).length ((P0 ++ news).flatMap plCells) from hrow.alloc o)
     have HROW := Lib.hid hrow2
     rw [hP] at q4 hpc HROW HPU HOW HGZ
     have q4' := fun o => Lib.cell?_alloc_some o q4
     have d0' := fun o => Lib.cell?_alloc_some o d0
     have d1' := fun o => Lib.cell?_alloc_some o d1
     have d2' := fun o => Lib.cell?_alloc_some o d2
     have d3' := fun o => Lib.cell?_alloc_some o d3
     have p3' := fun o => Lib.cell?_alloc_some o p3
     have fz4 := fz2 4
     have HFZ := Lib.hid fz2
     have hWw : W.heap.size ≤ wr.heap.size := HS.out.2.1.size
     have hpl2 : plCells ⟨(u, .slice au u.args.length cu), false, 0⟩ = [.int .i64 k1, .int .i64 n1, .string s1, .slice au u.args.length cu, .bool false, .int .i64 0] := by
      simp [plCells, pCells, f1, f2, f3]
     have HPL2 := Lib.hid hpl2
     rw [hpl2] at HPU
     unfold maxLen at hpm
     clear hii hzz
     clear hown hP q4h hrow hrow2 hpl2 htu htv hu c0 c1 c2 c3 f1 f2 f3 hSt fz2
     go_wp2_with fail
     go_region_law ((refine step_append_k (by rfl) _ _ 176 (by rfl) W.heap.size 175 i0 (.agg #[.int .i64 0, .int .i64 0, .string ⟨#[]⟩, .slice none 0 0, .bool false, .int .i64 0]) 6 72 Try.underlying176 hi0 hz0 hs0 (by decide) hb0 rfl (.slice ap2 P cv2) P ((P0 ++ news).flatMap plCells) (by rfl) (HROW.out _) (some ⟨wr.heap.size, 0, none⟩) 1 1 [.int .i64 k1, .int .i64 n1, .string s1, .slice au u.args.length cu, .bool false, .int .i64 0] (by rfl) (by rfl) (Or.inr ⟨_, rfl, fun j u' hu' => cell_new wr #[.int .i64 k1, .int .i64 n1, .string s1, .slice au u.args.length cu, .bool false, .int .i64 0] _ j u' hu'⟩) (by simp [Value.oneCell']) (by unfold maxLen; omega) (by omega) (by simp; omega) (P + 1) ((P0 ++ news).flatMap plCells ++ [.int .i64 k1, .int .i64 n1, .string s1, .slice au u.args.length cu, .bool false, .int .i64 0]) rfl rfl ?_; intro a7 c7 w7 hown7 hgrow7 hat7; obtain ⟨r1, r2, r3, r4, r5⟩ := HPU.out _ w7 (.slice a7 (P + 1) c7) hgrow7 hat7 hown7; have g4 : w7.cell? ⟨sb, 4, none⟩ = some (.slice ap2 P cv2) := (r1 4).trans q4; have f4 := r2 4; have HR7 := Lib.hid (And.intro r3 (And.intro r4 r5)); have HAT := Lib.hid hat7; have HZ7 := Lib.hid (HGZ.out _ _ hgrow7); have hc7 := css (v := Value.slice a7 (P + 1) c7) g4; clear r1 r2 r3 r4 r5 hown7 hgrow7 hat7))
     all_goals
      have HC7 := Lib.hid hc7
      clear hc7
      go_wp2
      go_roundg (l - (j + 1))
      case measure => have := HGK.out; omega
      case rel =>
       have hob : (Value.slice ap2 P cv2).ownBlock ≠ some tb := HS.out.2.2.2 _ (by assumption)
       have htbl := HS.out.2.2.1.lt
       have htb2 := HBX.out.2
       have hbx7 : Box w7 tb _ := HS.out.2.2.1.block (HR7.out.2.2 tb htbl hob) (Nat.lt_of_lt_of_le htbl HZ7.out.1)
       refine ⟨j + 1, (ii : Int) - 1, news ++ [⟨(u, .slice au u.args.length cu), false, 0⟩], by omega, rfl, by have := HII.out; omega, rfl, Lib.hid ⟨by rw [← List.append_assoc]; exact HR7.out.1, HR7.out.1.bel, hbx7.far (by omega), fun vv hvv => ?_⟩, Lib.hid ⟨by rw [List.length_append, HN.out.1]; rfl, fun q hq => ?_, ?_⟩⟩
       ·rw [HC7.out] at hvv
        injection hvv with hvv
        rw [← hvv]
        rcases HAT.out with e | e <;> rw [e]
        ·exact hob
        ·intro e'
         injection e' with e'
         have := HZ7.out.2
         omega
       ·rcases List.mem_append.1 hq with hq | hq
        ·exact HN.out.2.1 q hq
        ·simp at hq
         subst hq
         obtain ⟨g1, g2⟩ := arg_ok HYY.out.2.2.2.1.good HYY.out.2.2.2.1.rng (List.mem_of_getElem? HTV.out.2.1)
         refine ⟨?_, g1, g2⟩
         have h1 := HTV.out.1
         rw [← HTV.out.2.2.1, ← HTV.out.2.2.2.1, ← HTV.out.2.2.2.2] at h1
         exact h1
       ·have hrev : y.args.reverse[j]? = some u := by
         rw [List.getElem?_reverse (by rw [HU.out.2]; exact hjl), HU.out.2, show l - 1 - j = ii by have := HII.out; omega]
         exact HTV.out.2.1
        rw [take_next hrev, List.map_append, List.map_append, HN.out.2.2]
        rfl
    ·have hjl2 : j = l := by omega
     have hz0 : zz < 0 := by omega
     have hz0' : ¬ (0 ≤ zz) := by omega
     clear hzz hgk
     have hnl : news.map PlP.pl = y.args.reverse.map asPl := by
      have := HN.out.2.2
      rwa [List.take_of_length_le (by rw [List.length_reverse, HU.out.2]; omega)] at this
     have HNL := Lib.hid hnl
     have hsb : sb ≠ tb := by have := HBX.out.2; omega
     have hrn : (E ++ news).reverse.map PlP.pl = placesOf c x y := by
      rw [List.reverse_append, List.map_append, List.map_reverse, HNL.out, List.map_reverse, List.reverse_reverse, HPE.out.2.2.1]
      rfl
     have HCD := Lib.hid (fun (w5 : World) (hb : Below wr.heap.size wr w5) => (show Calls Try.prog 150 #[.pointer (some ⟨sb, 0, none⟩), .int .i64 1] w5 fun e w' => e = .returned (.bool (decide (M < c + 1))) ∧ IsS W w' sb pb n M (cntN M c 1) (P0 ++ news) f cnt ∧ Touch [sb] w5 w' from add_at (HS.out.1.ext hb) 1 hM hc (by omega)))
     have HEND := Lib.hid (fun (b : Bool) (hb : b = (decide (M < c + 1) || (decide (k = 0) && decide (m = n)))) => (show LookR V N R n M c f x b (cntN M c 1) pl (P0 ++ news) from Or.inr ⟨HF.out, y, E ++ news, HYY.out.2.2.2.1, HYY.out.2.2.2.2, by rw [HYY.out.2.1, HYY.out.2.2.1]; exact hb, rfl, by rw [← HPE.out.1, List.append_assoc], fun q hq => (List.mem_append.1 hq).elim (HPE.out.2.1 q) (HN.out.2.1 q), hrn⟩))
     have c0' := (by obtain ⟨ap2, cv2, bm2, _, _, q1, _⟩ := HS.out.1.open; exact q1 : wr.cell? ⟨sb, 1, none⟩ = some (.int .i64 n))
     obtain ⟨p0, p1, p2, p3, pf⟩ := HS.out.2.2.1.four
     clear hnl hrn
     by_cases hq1 : M < c + 1
     ·have hd : decide (M < c + 1) = true := by simpa using hq1
      rw [hd] at HCD HEND
      clear hq1 hd
      go_wp2_with fail
      refine wp_region_held_drew (S := fun w' => w'.cell? ⟨sb, 1, none⟩ = some (.int .i64 n) ∧ w'.cell? ⟨tb, 0, none⟩ = some (.int .i64 k) ∧ w'.cell? ⟨tb, 1, none⟩ = some (.int .i64 m)) (by kernel_rfl) ⟨c0', p0, p1⟩ (fun hHeld => ?_)
      first | (refine held_t (i := 0) hHeld ?_; constructor; constructor; intro wq hq; focus ((try dsimp only at hq); go_simp; first | done | with_reducible rfl | fail)) | refine held_s (i := 0) hHeld ?_ | fail
      try simp only [Act.put, lay4]
      refine held_c 1 fun K hK => ?_
      go_simp
      (go_at_call 150; refine (HCD.out _ (Below.refl _ _).drew).mono ?_; rintro e w6 ⟨rfl, h6, t6⟩; have c6 := (by obtain ⟨ap2, cv2, bm2, _, _, q1, _⟩ := h6.open; exact q1 : w6.cell? ⟨sb, 1, none⟩ = some (.int .i64 n)); have HX6 := Lib.hid (HS.out.2.2.1.block (t6.block tb HS.out.2.2.1.lt (by simp; omega)) (Nat.lt_of_lt_of_le HS.out.2.2.1.lt t6.size)))
      refine hK.out _ _ (⟨c6, HX6.out.four.1, HX6.out.four.2.1⟩) (fun hHeld => ?_)
      clear hK K
      try simp only [Act.put, lay4]
      first | (refine held_t (i := 2) hHeld ?_; constructor; constructor; intro wq hq; focus ((try dsimp only at hq); go_simp; first | done | with_reducible rfl | fail)) | refine held_s (i := 2) hHeld ?_ | fail
      first | (refine held_t (i := 3) hHeld ?_; constructor; constructor; intro wq hq; focus ((try dsimp only at hq); go_simp; first | done | with_reducible rfl | fail)) | refine held_s (i := 3) hHeld ?_ | fail
      try simp only [Act.put, lay4]
      first | (refine held_t (i := 4) hHeld ?_; constructor; constructor; intro wq hq; focus ((try dsimp only at hq); go_simp; first | done | with_reducible rfl | fail)) | refine held_s (i := 4) hHeld ?_ | fail
      first | (refine held_t (i := 5) hHeld ?_; constructor; constructor; intro wq hq; focus ((try dsimp only at hq); go_simp; first | done | with_reducible rfl | fail)) | refine held_s (i := 5) hHeld ?_ | fail
      try simp only [Act.put, lay4]
      first | (refine held_t (i := 6) hHeld ?_; constructor; constructor; intro wq hq; focus ((try dsimp only at hq); go_simp; first | done | with_reducible rfl | fail)) | refine held_s (i := 6) hHeld ?_ | fail
      first | (refine held_t (i := 7) hHeld ?_; constructor; constructor; intro wq hq; focus ((try dsimp only at hq); go_simp; first | done | with_reducible rfl | fail)) | refine held_s (i := 7) hHeld ?_ | fail
      try simp only [Act.put, lay4]
      first | (refine held_t (i := 8) hHeld ?_; constructor; constructor; intro wq hq; focus ((try dsimp only at hq); go_simp; first | done | with_reducible rfl | fail)) | refine held_s (i := 8) hHeld ?_ | fail
      first | (refine held_t (i := 9) hHeld ?_; constructor; constructor; intro wq hq; focus ((try dsimp only at hq); go_simp; first | done | with_reducible rfl | fail)) | refine held_s (i := 9) hHeld ?_ | fail
      try simp only [Act.put, lay4]
      first | (refine held_t (i := 10) hHeld ?_; constructor; constructor; intro wq hq; focus ((try dsimp only at hq); go_simp; first | done | with_reducible rfl | fail)) | refine held_s (i := 10) hHeld ?_ | fail
      first | (refine held_t (i := 11) hHeld ?_; constructor; constructor; intro wq hq; focus ((try dsimp only at hq); go_simp; first | done | with_reducible rfl | fail)) | refine held_s (i := 11) hHeld ?_ | fail
      try simp only [Act.put, lay4]
      first | (refine held_t (i := 12) hHeld ?_; constructor; constructor; intro wq hq; focus ((try dsimp only at hq); go_simp; first | done | with_reducible rfl | fail)) | refine held_s (i := 12) hHeld ?_ | fail
      first | (refine held_t (i := 13) hHeld ?_; constructor; constructor; intro wq hq; focus ((try dsimp only at hq); go_simp; first | done | with_reducible rfl | fail)) | refine held_s (i := 13) hHeld ?_ | fail
      try simp only [Act.put, lay4]
      first | (refine held_t (i := 14) hHeld ?_; constructor; constructor; intro wq hq; focus ((try dsimp only at hq); go_simp; first | done | with_reducible rfl | fail)) | refine held_s (i := 14) hHeld ?_ | fail
      first | (refine held_t (i := 15) hHeld ?_; constructor; constructor; intro wq hq; focus ((try dsimp only at hq); go_simp; first | done | with_reducible rfl | fail)) | refine held_s (i := 15) hHeld ?_ | fail
      try simp only [Act.put, lay4]
      first | (refine held_t (i := 16) hHeld ?_; constructor; constructor; intro wq hq; focus ((try dsimp only at hq); go_simp; first | done | with_reducible rfl | fail)) | refine held_s (i := 16) hHeld ?_ | fail
      try simp only [Act.put, lay4]
      refine wpAnyH_done (by kernel_rfl) ?_ _
      have H6 := Lib.hid h6
      clear h6 t6 hHeld
      go_wp2
      go_ret
      exact ⟨_, _, _, rfl, H6.out, HEND.out _ (by simp)⟩
     ·have hd : decide (M < c + 1) = false := by simpa using hq1
      rw [hd] at HCD HEND
      clear hq1 hd
      by_cases hk0 : k = 0
      ·have hk1 : (k == 0) = true := by simpa using hk0
       have HK0 := Lib.hid hk0
       clear hk0
       by_cases hmn : m = n
       ·have hmn' : (m == n) = true := by simpa using hmn
        have hb0 : true = (false || (decide (k = 0) && decide (m = n))) := by simp [hmn, HK0.out]
        have HB0 := Lib.hid (HEND.out _ hb0)
        clear hmn hb0 HEND
        go_wp2_with fail
        refine wp_region_held_drew (S := fun w' => w'.cell? ⟨sb, 1, none⟩ = some (.int .i64 n) ∧ w'.cell? ⟨tb, 0, none⟩ = some (.int .i64 k) ∧ w'.cell? ⟨tb, 1, none⟩ = some (.int .i64 m)) (by kernel_rfl) ⟨c0', p0, p1⟩ (fun hHeld => ?_)
        first | (refine held_t (i := 0) hHeld ?_; constructor; constructor; intro wq hq; focus ((try dsimp only at hq); go_simp; first | done | with_reducible rfl | fail)) | refine held_s (i := 0) hHeld ?_ | fail
        try simp only [Act.put, lay4]
        refine held_c 1 fun K hK => ?_
        go_simp
        (go_at_call 150; refine (HCD.out _ (Below.refl _ _).drew).mono ?_; rintro e w6 ⟨rfl, h6, t6⟩; have c6 := (by obtain ⟨ap2, cv2, bm2, _, _, q1, _⟩ := h6.open; exact q1 : w6.cell? ⟨sb, 1, none⟩ = some (.int .i64 n)); have HX6 := Lib.hid (HS.out.2.2.1.block (t6.block tb HS.out.2.2.1.lt (by simp; omega)) (Nat.lt_of_lt_of_le HS.out.2.2.1.lt t6.size)))
        refine hK.out _ _ (⟨c6, HX6.out.four.1, HX6.out.four.2.1⟩) (fun hHeld => ?_)
        clear hK K
        try simp only [Act.put, lay4]
        first | (refine held_t (i := 2) hHeld ?_; constructor; constructor; intro wq hq; focus ((try dsimp only at hq); go_simp; first | done | with_reducible rfl | fail)) | refine held_s (i := 2) hHeld ?_ | fail
        first | (refine held_t (i := 3) hHeld ?_; constructor; constructor; intro wq hq; focus ((try dsimp only at hq); go_simp; first | done | with_reducible rfl | fail)) | refine held_s (i := 3) hHeld ?_ | fail
        try simp only [Act.put, lay4]
        first | (refine held_t (i := 4) hHeld ?_; constructor; constructor; intro wq hq; focus ((try dsimp only at hq); go_simp; first | done | with_reducible rfl | fail)) | refine held_s (i := 4) hHeld ?_ | fail
        first | (refine held_t (i := 5) hHeld ?_; constructor; constructor; intro wq hq; focus ((try dsimp only at hq); go_simp; first | done | with_reducible rfl | fail)) | refine held_s (i := 5) hHeld ?_ | fail
        try simp only [Act.put, lay4]
        first | (refine held_t (i := 6) hHeld ?_; constructor; constructor; intro wq hq; focus ((try dsimp only at hq); go_simp; first | done | with_reducible rfl | fail)) | refine held_s (i := 6) hHeld ?_ | fail
        first | (refine held_t (i := 7) hHeld ?_; constructor; constructor; intro wq hq; focus ((try dsimp only at hq); go_simp; first | done | with_reducible rfl | fail)) | refine held_s (i := 7) hHeld ?_ | fail
        try simp only [Act.put, lay4]
        first | (refine held_t (i := 8) hHeld ?_; constructor; constructor; intro wq hq; focus ((try dsimp only at hq); go_simp; first | done | with_reducible rfl | fail)) | refine held_s (i := 8) hHeld ?_ | fail
        first | (refine held_t (i := 9) hHeld ?_; constructor; constructor; intro wq hq; focus ((try dsimp only at hq); go_simp; first | done | with_reducible rfl | fail)) | refine held_s (i := 9) hHeld ?_ | fail
        try simp only [Act.put, lay4]
        first | (refine held_t (i := 10) hHeld ?_; constructor; constructor; intro wq hq; focus ((try dsimp only at hq); go_simp; first | done | with_reducible rfl | fail)) | refine held_s (i := 10) hHeld ?_ | fail
        first | (refine held_t (i := 11) hHeld ?_; constructor; constructor; intro wq hq; focus ((try dsimp only at hq); go_simp; first | done | with_reducible rfl | fail)) | refine held_s (i := 11) hHeld ?_ | fail
        try simp only [Act.put, lay4]
        first | (refine held_t (i := 12) hHeld ?_; constructor; constructor; intro wq hq; focus ((try dsimp only at hq); go_simp; first | done | with_reducible rfl | fail)) | refine held_s (i := 12) hHeld ?_ | fail
        first | (refine held_t (i := 13) hHeld ?_; constructor; constructor; intro wq hq; focus ((try dsimp only at hq); go_simp; first | done | with_reducible rfl | fail)) | refine held_s (i := 13) hHeld ?_ | fail
        try simp only [Act.put, lay4]
        first | (refine held_t (i := 14) hHeld ?_; constructor; constructor; intro wq hq; focus ((try dsimp only at hq); go_simp; first | done | with_reducible rfl | fail)) | refine held_s (i := 14) hHeld ?_ | fail
        first | (refine held_t (i := 15) hHeld ?_; constructor; constructor; intro wq hq; focus ((try dsimp only at hq); go_simp; first | done | with_reducible rfl | fail)) | refine held_s (i := 15) hHeld ?_ | fail
        try simp only [Act.put, lay4]
        first | (refine held_t (i := 16) hHeld ?_; constructor; constructor; intro wq hq; focus ((try dsimp only at hq); go_simp; first | done | with_reducible rfl | fail)) | refine held_s (i := 16) hHeld ?_ | fail
        try simp only [Act.put, lay4]
        refine wpAnyH_done (by kernel_rfl) ?_ _
        have H6 := Lib.hid h6
        clear h6 t6 hHeld
        go_wp2
        go_ret
        exact ⟨_, _, _, rfl, H6.out, HB0.out⟩
       ·have hmn' : (m == n) = false := by simpa using hmn
        have hb0 : false = (false || (decide (k = 0) && decide (m = n))) := by simp [hmn, HK0.out]
        have HB0 := Lib.hid (HEND.out _ hb0)
        clear hmn hb0 HEND
        go_wp2_with fail
        refine wp_region_held_drew (S := fun w' => w'.cell? ⟨sb, 1, none⟩ = some (.int .i64 n) ∧ w'.cell? ⟨tb, 0, none⟩ = some (.int .i64 k) ∧ w'.cell? ⟨tb, 1, none⟩ = some (.int .i64 m)) (by kernel_rfl) ⟨c0', p0, p1⟩ (fun hHeld => ?_)
        first | (refine held_t (i := 0) hHeld ?_; constructor; constructor; intro wq hq; focus ((try dsimp only at hq); go_simp; first | done | with_reducible rfl | fail)) | refine held_s (i := 0) hHeld ?_ | fail
        try simp only [Act.put, lay4]
        refine held_c 1 fun K hK => ?_
        go_simp
        (go_at_call 150; refine (HCD.out _ (Below.refl _ _).drew).mono ?_; rintro e w6 ⟨rfl, h6, t6⟩; have c6 := (by obtain ⟨ap2, cv2, bm2, _, _, q1, _⟩ := h6.open; exact q1 : w6.cell? ⟨sb, 1, none⟩ = some (.int .i64 n)); have HX6 := Lib.hid (HS.out.2.2.1.block (t6.block tb HS.out.2.2.1.lt (by simp; omega)) (Nat.lt_of_lt_of_le HS.out.2.2.1.lt t6.size)))
        refine hK.out _ _ (⟨c6, HX6.out.four.1, HX6.out.four.2.1⟩) (fun hHeld => ?_)
        clear hK K
        try simp only [Act.put, lay4]
        first | (refine held_t (i := 2) hHeld ?_; constructor; constructor; intro wq hq; focus ((try dsimp only at hq); go_simp; first | done | with_reducible rfl | fail)) | refine held_s (i := 2) hHeld ?_ | fail
        first | (refine held_t (i := 3) hHeld ?_; constructor; constructor; intro wq hq; focus ((try dsimp only at hq); go_simp; first | done | with_reducible rfl | fail)) | refine held_s (i := 3) hHeld ?_ | fail
        try simp only [Act.put, lay4]
        first | (refine held_t (i := 4) hHeld ?_; constructor; constructor; intro wq hq; focus ((try dsimp only at hq); go_simp; first | done | with_reducible rfl | fail)) | refine held_s (i := 4) hHeld ?_ | fail
        first | (refine held_t (i := 5) hHeld ?_; constructor; constructor; intro wq hq; focus ((try dsimp only at hq); go_simp; first | done | with_reducible rfl | fail)) | refine held_s (i := 5) hHeld ?_ | fail
        try simp only [Act.put, lay4]
        first | (refine held_t (i := 6) hHeld ?_; constructor; constructor; intro wq hq; focus ((try dsimp only at hq); go_simp; first | done | with_reducible rfl | fail)) | refine held_s (i := 6) hHeld ?_ | fail
        first | (refine held_t (i := 7) hHeld ?_; constructor; constructor; intro wq hq; focus ((try dsimp only at hq); go_simp; first | done | with_reducible rfl | fail)) | refine held_s (i := 7) hHeld ?_ | fail
        try simp only [Act.put, lay4]
        first | (refine held_t (i := 8) hHeld ?_; constructor; constructor; intro wq hq; focus ((try dsimp only at hq); go_simp; first | done | with_reducible rfl | fail)) | refine held_s (i := 8) hHeld ?_ | fail
        first | (refine held_t (i := 9) hHeld ?_; constructor; constructor; intro wq hq; focus ((try dsimp only at hq); go_simp; first | done | with_reducible rfl | fail)) | refine held_s (i := 9) hHeld ?_ | fail
        try simp only [Act.put, lay4]
        first | (refine held_t (i := 10) hHeld ?_; constructor; constructor; intro wq hq; focus ((try dsimp only at hq); go_simp; first | done | with_reducible rfl | fail)) | refine held_s (i := 10) hHeld ?_ | fail
        first | (refine held_t (i := 11) hHeld ?_; constructor; constructor; intro wq hq; focus ((try dsimp only at hq); go_simp; first | done | with_reducible rfl | fail)) | refine held_s (i := 11) hHeld ?_ | fail
        try simp only [Act.put, lay4]
        first | (refine held_t (i := 12) hHeld ?_; constructor; constructor; intro wq hq; focus ((try dsimp only at hq); go_simp; first | done | with_reducible rfl | fail)) | refine held_s (i := 12) hHeld ?_ | fail
        first | (refine held_t (i := 13) hHeld ?_; constructor; constructor; intro wq hq; focus ((try dsimp only at hq); go_simp; first | done | with_reducible rfl | fail)) | refine held_s (i := 13) hHeld ?_ | fail
        try simp only [Act.put, lay4]
        first | (refine held_t (i := 14) hHeld ?_; constructor; constructor; intro wq hq; focus ((try dsimp only at hq); go_simp; first | done | with_reducible rfl | fail)) | refine held_s (i := 14) hHeld ?_ | fail
        first | (refine held_t (i := 15) hHeld ?_; constructor; constructor; intro wq hq; focus ((try dsimp only at hq); go_simp; first | done | with_reducible rfl | fail)) | refine held_s (i := 15) hHeld ?_ | fail
        try simp only [Act.put, lay4]
        first | (refine held_t (i := 16) hHeld ?_; constructor; constructor; intro wq hq; focus ((try dsimp only at hq); go_simp; first | done | with_reducible rfl | fail)) | refine held_s (i := 16) hHeld ?_ | fail
        try simp only [Act.put, lay4]
        refine wpAnyH_done (by kernel_rfl) ?_ _
        have H6 := Lib.hid h6
        clear h6 t6 hHeld
        go_wp2
        go_ret
        exact ⟨_, _, _, rfl, H6.out, HB0.out⟩
      ·have hk1 : (k == 0) = false := by simpa using hk0
       have hb0 : false = (false || (decide (k = 0) && decide (m = n))) := by simp [hk0]
       have HB0 := Lib.hid (HEND.out _ hb0)
       clear hk0 hb0 HEND
       go_wp2_with fail
       refine wp_region_held_drew (S := fun w' => w'.cell? ⟨sb, 1, none⟩ = some (.int .i64 n) ∧ w'.cell? ⟨tb, 0, none⟩ = some (.int .i64 k) ∧ w'.cell? ⟨tb, 1, none⟩ = some (.int .i64 m)) (by kernel_rfl) ⟨c0', p0, p1⟩ (fun hHeld => ?_)
       first | (refine held_t (i := 0) hHeld ?_; constructor; constructor; intro wq hq; focus ((try dsimp only at hq); go_simp; first | done | with_reducible rfl | fail)) | refine held_s (i := 0) hHeld ?_ | fail
       try simp only [Act.put, lay4]
       refine held_c 1 fun K hK => ?_
       go_simp
       (go_at_call 150; refine (HCD.out _ (Below.refl _ _).drew).mono ?_; rintro e w6 ⟨rfl, h6, t6⟩; have c6 := (by obtain ⟨ap2, cv2, bm2, _, _, q1, _⟩ := h6.open; exact q1 : w6.cell? ⟨sb, 1, none⟩ = some (.int .i64 n)); have HX6 := Lib.hid (HS.out.2.2.1.block (t6.block tb HS.out.2.2.1.lt (by simp; omega)) (Nat.lt_of_lt_of_le HS.out.2.2.1.lt t6.size)))
       refine hK.out _ _ (⟨c6, HX6.out.four.1, HX6.out.four.2.1⟩) (fun hHeld => ?_)
       clear hK K
       try simp only [Act.put, lay4]
       first | (refine held_t (i := 2) hHeld ?_; constructor; constructor; intro wq hq; focus ((try dsimp only at hq); go_simp; first | done | with_reducible rfl | fail)) | refine held_s (i := 2) hHeld ?_ | fail
       first | (refine held_t (i := 3) hHeld ?_; constructor; constructor; intro wq hq; focus ((try dsimp only at hq); go_simp; first | done | with_reducible rfl | fail)) | refine held_s (i := 3) hHeld ?_ | fail
       try simp only [Act.put, lay4]
       first | (refine held_t (i := 4) hHeld ?_; constructor; constructor; intro wq hq; focus ((try dsimp only at hq); go_simp; first | done | with_reducible rfl | fail)) | refine held_s (i := 4) hHeld ?_ | fail
       first | (refine held_t (i := 5) hHeld ?_; constructor; constructor; intro wq hq; focus ((try dsimp only at hq); go_simp; first | done | with_reducible rfl | fail)) | refine held_s (i := 5) hHeld ?_ | fail
       try simp only [Act.put, lay4]
       first | (refine held_t (i := 6) hHeld ?_; constructor; constructor; intro wq hq; focus ((try dsimp only at hq); go_simp; first | done | with_reducible rfl | fail)) | refine held_s (i := 6) hHeld ?_ | fail
       first | (refine held_t (i := 7) hHeld ?_; constructor; constructor; intro wq hq; focus ((try dsimp only at hq); go_simp; first | done | with_reducible rfl | fail)) | refine held_s (i := 7) hHeld ?_ | fail
       try simp only [Act.put, lay4]
       first | (refine held_t (i := 8) hHeld ?_; constructor; constructor; intro wq hq; focus ((try dsimp only at hq); go_simp; first | done | with_reducible rfl | fail)) | refine held_s (i := 8) hHeld ?_ | fail
       first | (refine held_t (i := 9) hHeld ?_; constructor; constructor; intro wq hq; focus ((try dsimp only at hq); go_simp; first | done | with_reducible rfl | fail)) | refine held_s (i := 9) hHeld ?_ | fail
       try simp only [Act.put, lay4]
       first | (refine held_t (i := 10) hHeld ?_; constructor; constructor; intro wq hq; focus ((try dsimp only at hq); go_simp; first | done | with_reducible rfl | fail)) | refine held_s (i := 10) hHeld ?_ | fail
       first | (refine held_t (i := 11) hHeld ?_; constructor; constructor; intro wq hq; focus ((try dsimp only at hq); go_simp; first | done | with_reducible rfl | fail)) | refine held_s (i := 11) hHeld ?_ | fail
       try simp only [Act.put, lay4]
       first | (refine held_t (i := 12) hHeld ?_; constructor; constructor; intro wq hq; focus ((try dsimp only at hq); go_simp; first | done | with_reducible rfl | fail)) | refine held_s (i := 12) hHeld ?_ | fail
       first | (refine held_t (i := 13) hHeld ?_; constructor; constructor; intro wq hq; focus ((try dsimp only at hq); go_simp; first | done | with_reducible rfl | fail)) | refine held_s (i := 13) hHeld ?_ | fail
       try simp only [Act.put, lay4]
       first | (refine held_t (i := 14) hHeld ?_; constructor; constructor; intro wq hq; focus ((try dsimp only at hq); go_simp; first | done | with_reducible rfl | fail)) | refine held_s (i := 14) hHeld ?_ | fail
       first | (refine held_t (i := 15) hHeld ?_; constructor; constructor; intro wq hq; focus ((try dsimp only at hq); go_simp; first | done | with_reducible rfl | fail)) | refine held_s (i := 15) hHeld ?_ | fail
       try simp only [Act.put, lay4]
       first | (refine held_t (i := 16) hHeld ?_; constructor; constructor; intro wq hq; focus ((try dsimp only at hq); go_simp; first | done | with_reducible rfl | fail)) | refine held_s (i := 16) hHeld ?_ | fail
       try simp only [Act.put, lay4]
       refine wpAnyH_done (by kernel_rfl) ?_ _
       have H6 := Lib.hid h6
       clear h6 t6 hHeld
       go_wp2
       go_ret
       exact ⟨_, _, _, rfl, H6.out, HB0.out⟩
  ·have hl1 : (0 : Int) < l := by omega
   have hl2 : decide ((0 : Int) < l) = true := by simpa using hl1
   have hl3 : decide (0 < l) = true := by simp; omega
   have HL0 := Lib.hid hl0
   clear hl0
   go_upto_region 7 with fail
   go_cut [53] from 41 to 55 (fun s wx => Hid (∃ E : List PlP, (IsS W wx sb pb n M c (pl ++ E) f cnt ∧ Box wx tb [.int .i64 k, .int .i64 m, .string st, .slice a l cc] ∧ ∀ vv, wx.cell? ⟨sb, 4, none⟩ = some vv → vv.ownBlock ≠ some tb) ∧ (∀ q ∈ E, PlOk V N q) ∧ E.reverse.map PlP.pl = (if x.k = 0 ∧ y.args ≠ [] then [⟨x, true, c⟩] else []) ∧ E.length ≤ 1))
   case first =>
    obtain ⟨ap2, cv2, bm2, hlt2, _, _, _, q3, q4, _, fz2, hpc, hpm, _, hrow, hown, _⟩ := HI0.out.1.open
    obtain ⟨i0, hi0, hz0, hs0, hb0⟩ := info_parts infoPlace
    obtain ⟨P, hP⟩ : ∃ P, pl.length = P := ⟨_, rfl⟩
    have hPb : P ≤ 2000000 := by rw [← hP]; exact hpl
    have q4h := q4
    have HPU := Lib.hid (fun (o : Obj) (w3 : World) (v' : Value) hg hat hr => HI0.out.1.push q4h (w2 := (wc.alloc o).drew) (w3 := w3) (v' := v') (bel1' wc o).drew hg hat ⟨(x, .slice ax mx cx), true, c⟩ hr)
    have HGZ := Lib.hid (fun (o : Obj) (w7 : World) (g : (wc.alloc o).drew.grownBy w7 (Value.slice ap2 pl.length cv2).ownBlock) => (show wc.heap.size ≤ w7.heap.size ∧ wc.heap.size ≤ (wc.alloc o).drew.heap.size from ⟨Nat.le_trans (bel1' wc o).size g.size, (bel1' wc o).size⟩))
    have hrow2 := fun (o : Obj) => (show (wc.alloc o).drew.ownsRow W.heap.size 175 6 (.slice ap2 pl.length cv2) pl.length (pl.flatMap plCells) from hrow.alloc o)
    have HROW := Lib.hid hrow2
    rw [hP] at q4 hpc HROW HPU HGZ
    have q4' := fun o => Lib.cell?_alloc_some o q4
    have q3' := fun o => Lib.cell?_alloc_some o q3
    have z0' := fun o => Lib.cell?_alloc_some o x0'
    have z1' := fun o => Lib.cell?_alloc_some o x1'
    have z2' := fun o => Lib.cell?_alloc_some o x2'
    have z3' := fun o => Lib.cell?_alloc_some o x3'
    have fz4 := fz2 4
    have hWw : W.heap.size ≤ wc.heap.size := hbW.size
    have HWX := Lib.hid (show w.heap.size < wc.heap.size ∧ (Value.slice ap2 P cv2).ownBlock ≠ some w.heap.size from ⟨Nat.lt_of_lt_of_le HX.out.lt hbc.size, HWN.out wc hbc _ q4⟩)
    have hpl2 : plCells ⟨(x, .slice ax mx cx), true, c⟩ = [.int .i64 0, .int .i64 nx, .string sx, .slice ax mx cx, .bool true, .int .i64 c] := by
     simp [plCells, pCells, HFS.out.1, HFS.out.2.1, HFS.out.2.2]
    rw [hpl2] at HPU
    unfold maxLen at hpm
    clear hown hP q4h hrow hrow2 hpl2 fz2
    have hsw : sb ≠ w.heap.size := by have := HW0.out.1; omega
    refine wp_region_held_drew (S := fun w' => w'.cell? ⟨sb, 3, none⟩ = some (.int .i64 c) ∧ w'.cell? ⟨w.heap.size, 0, none⟩ = some (.int .i64 0) ∧ w'.cell? ⟨w.heap.size, 1, none⟩ = some (.int .i64 nx) ∧ w'.cell? ⟨w.heap.size, 2, none⟩ = some (.string sx) ∧ w'.cell? ⟨w.heap.size, 3, none⟩ = some (.slice ax mx cx)) (by kernel_rfl) ⟨q3, x0', x1', x2', x3'⟩ (fun hHeld => ?_)
    first | (refine held_t (i := 0) hHeld ?_; constructor; constructor; intro wq hq; focus ((try dsimp only at hq); go_simp; first | done | with_reducible rfl | fail)) | refine held_s (i := 0) hHeld ?_ | fail
    first | (refine held_t (i := 1) hHeld ?_; constructor; constructor; intro wq hq; focus ((try dsimp only at hq); go_simp; first | done | with_reducible rfl | fail)) | refine held_s (i := 1) hHeld ?_ | fail
    first | (refine held_t (i := 2) hHeld ?_; constructor; constructor; intro wq hq; focus ((try dsimp only at hq); go_simp; first | done | with_reducible rfl | fail)) | refine held_s (i := 2) hHeld ?_ | fail
    first | (refine held_t (i := 3) hHeld ?_; constructor; constructor; intro wq hq; focus ((try dsimp only at hq); go_simp; first | done | with_reducible rfl | fail)) | refine held_s (i := 3) hHeld ?_ | fail
    try simp only [Act.put, lay4]
    first | (refine held_t (i := 5) hHeld ?_; constructor; constructor; intro wq hq; focus ((try dsimp only at hq); go_simp; first | done | with_reducible rfl | fail)) | refine held_s (i := 5) hHeld ?_ | fail
    first | (refine held_t (i := 6) hHeld ?_; constructor; constructor; intro wq hq; focus ((try dsimp only at hq); go_simp; first | done | with_reducible rfl | fail)) | refine held_s (i := 6) hHeld ?_ | fail
    first | (refine held_t (i := 7) hHeld ?_; constructor; constructor; intro wq hq; focus ((try dsimp only at hq); go_simp; first | done | with_reducible rfl | fail)) | refine held_s (i := 7) hHeld ?_ | fail
    try simp only [Act.put, lay4]
    first | (refine held_t (i := 8) hHeld ?_; constructor; constructor; intro wq hq; focus ((try dsimp only at hq); go_simp; first | done | with_reducible rfl | fail)) | refine held_s (i := 8) hHeld ?_ | fail
    first | (refine held_t (i := 9) hHeld ?_; constructor; constructor; intro wq hq; focus ((try dsimp only at hq); go_simp; first | done | with_reducible rfl | fail)) | refine held_s (i := 9) hHeld ?_ | fail
    first | (refine held_t (i := 10) hHeld ?_; constructor; constructor; intro wq hq; focus ((try dsimp only at hq); go_simp; first | done | with_reducible rfl | fail)) | refine held_s (i := 10) hHeld ?_ | fail
    try simp only [Act.put, lay4]
    refine wpAnyH_ready (rs := [4, 11]) (by kernel_rfl) (by simp) ?_
    refine AllReadyH.cons (by simp only [ops3]; rfl) (fun K hK => ?_) (AllReadyH.cons (by simp only [ops3]; rfl) (fun K hK => ?_) AllReadyH.nil)
    ·go_simp
     skip
     refine hK.out _ _ (hHeld) (fun hHeld => ?_)
     clear hK K
     try simp only [Act.put, lay4]
     refine held_c 11 fun K hK => ?_
     go_simp
     skip
     refine hK.out _ _ (⟨q3' _, z0' _, z1' _, z2' _, z3' _⟩) (fun hHeld => ?_)
     clear hK K
     try simp only [Act.put, lay4]
     refine held_c 12 fun K hK => ?_
     (refine step_append_k (by rfl) _ _ 176 (by rfl) W.heap.size 175 i0 (.agg #[.int .i64 0, .int .i64 0, .string ⟨#[]⟩, .slice none 0 0, .bool false, .int .i64 0]) 6 72 Try.underlying176 hi0 hz0 hs0 (by decide) hb0 rfl (.slice ap2 P cv2) P (pl.flatMap plCells) (by rfl) (HROW.out _) (some ⟨wc.heap.size, 0, none⟩) 1 1 [.int .i64 0, .int .i64 nx, .string sx, .slice ax mx cx, .bool true, .int .i64 c] (by rfl) (by rfl) (Or.inr ⟨_, rfl, fun j u' hu' => cell_new wc #[.int .i64 0, .int .i64 nx, .string sx, .slice ax mx cx, .bool true, .int .i64 c] _ j u' hu'⟩) (by simp [Value.oneCell']) (by unfold maxLen; omega) (by omega) (by simp; omega) (P + 1) (pl.flatMap plCells ++ [.int .i64 0, .int .i64 nx, .string sx, .slice ax mx cx, .bool true, .int .i64 c]) rfl rfl ?_; intro a7 c7 w7 hown7 hgrow7 hat7; obtain ⟨r1, r2, r3, r4, r5⟩ := HPU.out _ w7 (.slice a7 (P + 1) c7) hgrow7 hat7 hown7; have g4 : w7.cell? ⟨sb, 4, none⟩ = some (.slice ap2 P cv2) := (r1 4).trans q4; have f4 := r2 4; have g3 : w7.cell? ⟨sb, 3, none⟩ = some (.int .i64 c) := (r1 3).trans q3; have gb := fun (q : Nat) => (World.cell?_of_block (a := ⟨w.heap.size, q, none⟩) (r5 w.heap.size HWX.out.1 HWX.out.2) : w7.cell? ⟨w.heap.size, q, none⟩ = wc.cell? ⟨w.heap.size, q, none⟩); have g5 := (gb 0).trans x0'; have g6 := (gb 1).trans x1'; have g7 := (gb 2).trans x2'; have g8 := (gb 3).trans x3'; have HR7 := Lib.hid (And.intro r3 (And.intro r4 r5)); have HAT := Lib.hid hat7; have HZ7 := Lib.hid (HGZ.out _ _ hgrow7); have hc7 := css (v := Value.slice a7 (P + 1) c7) g4; clear r1 r2 r3 r4 r5 hown7 hgrow7 hat7)
     refine hK.out _ _ (⟨g3, g5, g6, g7, g8⟩) (fun hHeld => ?_)
     clear hK K
     try simp only [Act.put, lay4]
     first | (refine held_t (i := 13) hHeld ?_; constructor; constructor; intro wq hq; focus ((try dsimp only at hq); go_simp; first | done | with_reducible rfl | fail)) | refine held_s (i := 13) hHeld ?_ | fail
     first | (refine held_t (i := 14) hHeld ?_; constructor; constructor; intro wq hq; focus ((try dsimp only at hq); go_simp; first | done | with_reducible rfl | fail)) | refine held_s (i := 14) hHeld ?_ | fail
     try simp only [Act.put, lay4]
     refine held_c 15 fun K hK => ?_
     go_simp
     skip
     refine hK.out _ _ (⟨by rw [World.cell?_setCell_other]; exact g3; intro e; injection e with _ e _; omega, by rw [far_cell (by omega)]; exact g5, by rw [far_cell (by omega)]; exact g6, by rw [far_cell (by omega)]; exact g7, by rw [far_cell (by omega)]; exact g8⟩) (fun hHeld => ?_)
     clear hK K
     try simp only [Act.put, lay4]
     refine wpAnyH_done (by kernel_rfl) ?_ _
     have HC7 := Lib.hid hc7
     have hob : (Value.slice ap2 P cv2).ownBlock ≠ some tb := HOW0.out _ q4
     have htbl := HBX.out.1.lt
     have htb2 := HBX.out.2
     have hbx7 : Box w7 tb [.int .i64 k, .int .i64 m, .string st, .slice a l cc] := HBX.out.1.block (HR7.out.2.2 tb htbl hob) (Nat.lt_of_lt_of_le htbl HZ7.out.1)
     have HEE := Lib.hid (show ∃ E : List PlP, (IsS W (w7.setCell ⟨sb, 4, none⟩ (.slice a7 (P + 1) c7)) sb pb n M c (pl ++ E) f cnt ∧ Box (w7.setCell ⟨sb, 4, none⟩ (.slice a7 (P + 1) c7)) tb [.int .i64 k, .int .i64 m, .string st, .slice a l cc] ∧ ∀ vv, (w7.setCell ⟨sb, 4, none⟩ (.slice a7 (P + 1) c7)).cell? ⟨sb, 4, none⟩ = some vv → vv.ownBlock ≠ some tb) ∧ (∀ q ∈ E, PlOk V N q) ∧ E.reverse.map PlP.pl = (if x.k = 0 ∧ y.args ≠ [] then [⟨x, true, c⟩] else []) ∧ E.length ≤ 1 from by
      refine ⟨[⟨(x, .slice ax mx cx), true, c⟩], ⟨HR7.out.1, hbx7.far (by omega), fun vv hvv => ?_⟩, fun q hq => ?_, ?_, by simp⟩
      ·rw [HC7.out] at hvv
       injection hvv with hvv
       rw [← hvv]
       rcases HAT.out with e | e <;> rw [e]
       ·exact hob
       ·intro e'
        injection e' with e'
        have := HZ7.out.2
        omega
      ·simp at hq
       subst hq
       refine ⟨?_, HV.out.2.1, HV.out.2.2⟩
       have h1 := HV.out.1
       rw [← HFS.out.2.1, ← HFS.out.2.2] at h1
       show TmV V x (.agg #[.int .i64 x.k, .int .i64 x.n, .string x.s, .slice ax mx cx])
       rw [HFS.out.1]
       exact h1
      ·rw [if_pos ⟨HFS.out.1, fun e => HL0.out (by rw [← HU.out.2, e]; rfl)⟩]
       rfl)
     clear hc7 hob htbl htb2 hbx7
     go_wp2
     all_goals go_meet
     all_goals exact HEE.out
    ·go_simp
     skip
     refine hK.out _ _ (⟨q3' _, z0' _, z1' _, z2' _, z3' _⟩) (fun hHeld => ?_)
     clear hK K
     try simp only [Act.put, lay4]
     refine held_c 4 fun K hK => ?_
     go_simp
     skip
     refine hK.out _ _ (hHeld) (fun hHeld => ?_)
     clear hK K
     try simp only [Act.put, lay4]
     refine held_c 12 fun K hK => ?_
     (refine step_append_k (by rfl) _ _ 176 (by rfl) W.heap.size 175 i0 (.agg #[.int .i64 0, .int .i64 0, .string ⟨#[]⟩, .slice none 0 0, .bool false, .int .i64 0]) 6 72 Try.underlying176 hi0 hz0 hs0 (by decide) hb0 rfl (.slice ap2 P cv2) P (pl.flatMap plCells) (by rfl) (HROW.out _) (some ⟨wc.heap.size, 0, none⟩) 1 1 [.int .i64 0, .int .i64 nx, .string sx, .slice ax mx cx, .bool true, .int .i64 c] (by rfl) (by rfl) (Or.inr ⟨_, rfl, fun j u' hu' => cell_new wc #[.int .i64 0, .int .i64 nx, .string sx, .slice ax mx cx, .bool true, .int .i64 c] _ j u' hu'⟩) (by simp [Value.oneCell']) (by unfold maxLen; omega) (by omega) (by simp; omega) (P + 1) (pl.flatMap plCells ++ [.int .i64 0, .int .i64 nx, .string sx, .slice ax mx cx, .bool true, .int .i64 c]) rfl rfl ?_; intro a7 c7 w7 hown7 hgrow7 hat7; obtain ⟨r1, r2, r3, r4, r5⟩ := HPU.out _ w7 (.slice a7 (P + 1) c7) hgrow7 hat7 hown7; have g4 : w7.cell? ⟨sb, 4, none⟩ = some (.slice ap2 P cv2) := (r1 4).trans q4; have f4 := r2 4; have g3 : w7.cell? ⟨sb, 3, none⟩ = some (.int .i64 c) := (r1 3).trans q3; have gb := fun (q : Nat) => (World.cell?_of_block (a := ⟨w.heap.size, q, none⟩) (r5 w.heap.size HWX.out.1 HWX.out.2) : w7.cell? ⟨w.heap.size, q, none⟩ = wc.cell? ⟨w.heap.size, q, none⟩); have g5 := (gb 0).trans x0'; have g6 := (gb 1).trans x1'; have g7 := (gb 2).trans x2'; have g8 := (gb 3).trans x3'; have HR7 := Lib.hid (And.intro r3 (And.intro r4 r5)); have HAT := Lib.hid hat7; have HZ7 := Lib.hid (HGZ.out _ _ hgrow7); have hc7 := css (v := Value.slice a7 (P + 1) c7) g4; clear r1 r2 r3 r4 r5 hown7 hgrow7 hat7)
     refine hK.out _ _ (⟨g3, g5, g6, g7, g8⟩) (fun hHeld => ?_)
     clear hK K
     try simp only [Act.put, lay4]
     first | (refine held_t (i := 13) hHeld ?_; constructor; constructor; intro wq hq; focus ((try dsimp only at hq); go_simp; first | done | with_reducible rfl | fail)) | refine held_s (i := 13) hHeld ?_ | fail
     first | (refine held_t (i := 14) hHeld ?_; constructor; constructor; intro wq hq; focus ((try dsimp only at hq); go_simp; first | done | with_reducible rfl | fail)) | refine held_s (i := 14) hHeld ?_ | fail
     try simp only [Act.put, lay4]
     refine held_c 15 fun K hK => ?_
     go_simp
     skip
     refine hK.out _ _ (⟨by rw [World.cell?_setCell_other]; exact g3; intro e; injection e with _ e _; omega, by rw [far_cell (by omega)]; exact g5, by rw [far_cell (by omega)]; exact g6, by rw [far_cell (by omega)]; exact g7, by rw [far_cell (by omega)]; exact g8⟩) (fun hHeld => ?_)
     clear hK K
     try simp only [Act.put, lay4]
     refine wpAnyH_done (by kernel_rfl) ?_ _
     have HC7 := Lib.hid hc7
     have hob : (Value.slice ap2 P cv2).ownBlock ≠ some tb := HOW0.out _ q4
     have htbl := HBX.out.1.lt
     have htb2 := HBX.out.2
     have hbx7 : Box w7 tb [.int .i64 k, .int .i64 m, .string st, .slice a l cc] := HBX.out.1.block (HR7.out.2.2 tb htbl hob) (Nat.lt_of_lt_of_le htbl HZ7.out.1)
     have HEE := Lib.hid (show ∃ E : List PlP, (IsS W (w7.setCell ⟨sb, 4, none⟩ (.slice a7 (P + 1) c7)) sb pb n M c (pl ++ E) f cnt ∧ Box (w7.setCell ⟨sb, 4, none⟩ (.slice a7 (P + 1) c7)) tb [.int .i64 k, .int .i64 m, .string st, .slice a l cc] ∧ ∀ vv, (w7.setCell ⟨sb, 4, none⟩ (.slice a7 (P + 1) c7)).cell? ⟨sb, 4, none⟩ = some vv → vv.ownBlock ≠ some tb) ∧ (∀ q ∈ E, PlOk V N q) ∧ E.reverse.map PlP.pl = (if x.k = 0 ∧ y.args ≠ [] then [⟨x, true, c⟩] else []) ∧ E.length ≤ 1 from by
      refine ⟨[⟨(x, .slice ax mx cx), true, c⟩], ⟨HR7.out.1, hbx7.far (by omega), fun vv hvv => ?_⟩, fun q hq => ?_, ?_, by simp⟩
      ·rw [HC7.out] at hvv
       injection hvv with hvv
       rw [← hvv]
       rcases HAT.out with e | e <;> rw [e]
       ·exact hob
       ·intro e'
        injection e' with e'
        have := HZ7.out.2
        omega
      ·simp at hq
       subst hq
       refine ⟨?_, HV.out.2.1, HV.out.2.2⟩
       have h1 := HV.out.1
       rw [← HFS.out.2.1, ← HFS.out.2.2] at h1
       show TmV V x (.agg #[.int .i64 x.k, .int .i64 x.n, .string x.s, .slice ax mx cx])
       rw [HFS.out.1]
       exact h1
      ·rw [if_pos ⟨HFS.out.1, fun e => HL0.out (by rw [← HU.out.2, e]; rfl)⟩]
       rfl)
     clear hc7 hob htbl htb2 hbx7
     go_wp2
     all_goals go_meet
     all_goals exact HEE.out
   case rest =>
    obtain ⟨E, HE0', HE1, HE2, HE3⟩ := hcut.out
    have HE0 := Lib.hid HE0'
    have HPE0 := Lib.hid (And.intro HE1 (And.intro HE2 HE3))
    clear hcut HE0' HE1 HE2 HE3
    obtain ⟨P0, hP0⟩ : ∃ P0, pl ++ E = P0 := ⟨_, rfl⟩
    have HPE := Lib.hid (show pl ++ E = P0 ∧ (∀ q ∈ E, PlOk V N q) ∧ E.reverse.map PlP.pl = (if x.k = 0 ∧ y.args ≠ [] then [⟨x, true, c⟩] else []) ∧ P0.length ≤ 2000001 from ⟨hP0, HPE0.out.1, HPE0.out.2.1, by rw [← hP0, List.length_append]; have := HPE0.out.2.2; omega⟩)
    rw [hP0] at HE0
    clear hP0
    clear y0 y1 y2 y3 yf x0' x1' x2' x3' xf'
    obtain ⟨y0, y1, y2, y3, yf⟩ := HE0.out.2.1.four
    go_wp2_with fail
    go_loopg [8] l (fun g z wr => ∃ (j : Nat) (zz : Int) (news : List PlP), j ≤ l ∧ z = .int .i64 zz ∧ zz = (l : Int) - 1 - j ∧ g = l - j ∧ Hid (IsS W wr sb pb n M c (P0 ++ news) f cnt ∧ Below W.heap.size W wr ∧ Box wr tb [.int .i64 k, .int .i64 m, .string st, .slice a l cc] ∧ ∀ vv, wr.cell? ⟨sb, 4, none⟩ = some vv → vv.ownBlock ≠ some tb) ∧ Hid (news.length = j ∧ (∀ q ∈ news, PlOk V N q) ∧ news.map PlP.pl = (y.args.reverse.take j).map asPl))
    case atStart => exact ⟨0, (l : Int) - 1, [], Nat.zero_le _, by first | rfl | go_num, by omega, rfl, Lib.hid ⟨by rw [List.append_nil]; exact HE0.out.1, HE0.out.1.bel, HE0.out.2.1, HE0.out.2.2⟩, Lib.hid ⟨rfl, fun q hq => (by cases hq), by simp⟩⟩
    case round =>
     obtain ⟨j, zz, news, hj, rfl, hzz, hgk, HS, HN⟩ := hrel
     by_cases hjl : j < l
     ·obtain ⟨ii, hii⟩ : ∃ ii : Nat, l = ii + 1 + j := ⟨l - 1 - j, by omega⟩
      obtain rfl : zz = (ii : Int) := by omega
      obtain ⟨u, hu⟩ : ∃ u, y.args[ii]? = some u := ⟨_, List.getElem?_eq_getElem (by rw [HU.out.2]; omega)⟩
      obtain ⟨b, off, k1, n1, s1, u1, rfl, hbb, f1, f2, f3, c0, c1, c2, c3, htu, htv⟩ := HU.out.1.get hu
      obtain ⟨au, cu, rfl, _⟩ := htu.len
      have hSt := (HBB.out.see.1).later HS.out.2.1
      have d0 := hSt.2 _ _ c0
      have d1 := hSt.2 _ _ c1
      have d2 := hSt.2 _ _ c2
      have d3 := hSt.2 _ _ c3
      have HTV := Lib.hid (And.intro htv (And.intro hu (And.intro f1 (And.intro f2 f3))))
      have HII := Lib.hid hii
      have hil : ii < l := by omega
      have HGK := Lib.hid hgk
      clear hgk
      obtain ⟨p0, p1, p2, p3, pf⟩ := HS.out.2.2.1.four
      obtain ⟨ap2, cv2, bm2, hlt2, _, _, _, _, q4, _, fz2, hpc, hpm, _, hrow, hown, _⟩ := HS.out.1.open
      obtain ⟨i0, hi0, hz0, hs0, hb0⟩ := info_parts infoPlace
      obtain ⟨P, hP⟩ : ∃ P, (P0 ++ news).length = P := ⟨_, rfl⟩
      have hPb : P ≤ 2000010 := by have := HPE.out.2.2.2; rw [← hP, List.length_append, HN.out.1]; omega
      have q4h := q4
      have HPU := Lib.hid (fun (o : Obj) (w3 : World) (v' : Value) hg hat hr => HS.out.1.push q4h (w2 := (wr.alloc o).drew) (w3 := w3) (v' := v') (bel1' wr o).drew hg hat ⟨(u, .slice au u.args.length cu), false, 0⟩ hr)
      have HGZ := Lib.hid (fun (o : Obj) (w7 : World) (g : (wr.alloc o).drew.grownBy w7 (Value.slice ap2 (P0 ++ news).length cv2).ownBlock) => (show wr.heap.size ≤ w7.heap.size ∧ wr.heap.size ≤ (wr.alloc o).drew.heap.size from ⟨Nat.le_trans (bel1' wr o).size g.size, (bel1' wr o).size⟩))
      have HOW := Lib.hid (And.intro hown hP)
      have hrow2 := fun (o : Obj) => (show (wr.alloc o).drew.ownsRow W.heap.size 175 6 (.slice ap2 (P0 ++ news).length cv2) (P0 ++ news).length ((P0 ++ news).flatMap plCells) from hrow.alloc o)
      have HROW := Lib.hid hrow2
      rw [hP] at q4 hpc HROW HPU HOW HGZ
      have q4' := fun o => Lib.cell?_alloc_some o q4
      have d0' := fun o => Lib.cell?_alloc_some o d0
      have d1' := fun o => Lib.cell?_alloc_some o d1
      have d2' := fun o => Lib.cell?_alloc_some o d2
      have d3' := fun o => Lib.cell?_alloc_some o d3
      have p3' := fun o => Lib.cell?_alloc_some o p3
      have fz4 := fz2 4
      have HFZ := Lib.hid fz2
      have hWw : W.heap.size ≤ wr.heap.size := HS.out.2.1.size
      have hpl2 : plCells ⟨(u, .slice au u.args.length cu), false, 0⟩ = [.int .i64 k1, .int .i64 n1, .string s1, .slice au u.args.length cu, .bool false, .int .i64 0] := by
       simp [plCells, pCells, f1, f2, f3]
      have HPL2 := Lib.hid hpl2
      rw [hpl2] at HPU
      unfold maxLen at hpm
      clear hii hzz
      clear hown hP q4h hrow hrow2 hpl2 htu htv hu c0 c1 c2 c3 f1 f2 f3 hSt fz2
      go_wp2_with fail
      go_region_law ((refine step_append_k (by rfl) _ _ 176 (by rfl) W.heap.size 175 i0 (.agg #[.int .i64 0, .int .i64 0, .string ⟨#[]⟩, .slice none 0 0, .bool false, .int .i64 0]) 6 72 Try.underlying176 hi0 hz0 hs0 (by decide) hb0 rfl (.slice ap2 P cv2) P ((P0 ++ news).flatMap plCells) (by rfl) (HROW.out _) (some ⟨wr.heap.size, 0, none⟩) 1 1 [.int .i64 k1, .int .i64 n1, .string s1, .slice au u.args.length cu, .bool false, .int .i64 0] (by rfl) (by rfl) (Or.inr ⟨_, rfl, fun j u' hu' => cell_new wr #[.int .i64 k1, .int .i64 n1, .string s1, .slice au u.args.length cu, .bool false, .int .i64 0] _ j u' hu'⟩) (by simp [Value.oneCell']) (by unfold maxLen; omega) (by omega) (by simp; omega) (P + 1) ((P0 ++ news).flatMap plCells ++ [.int .i64 k1, .int .i64 n1, .string s1, .slice au u.args.length cu, .bool false, .int .i64 0]) rfl rfl ?_; intro a7 c7 w7 hown7 hgrow7 hat7; obtain ⟨r1, r2, r3, r4, r5⟩ := HPU.out _ w7 (.slice a7 (P + 1) c7) hgrow7 hat7 hown7; have g4 : w7.cell? ⟨sb, 4, none⟩ = some (.slice ap2 P cv2) := (r1 4).trans q4; have f4 := r2 4; have HR7 := Lib.hid (And.intro r3 (And.intro r4 r5)); have HAT := Lib.hid hat7; have HZ7 := Lib.hid (HGZ.out _ _ hgrow7); have hc7 := css (v := Value.slice a7 (P + 1) c7) g4; clear r1 r2 r3 r4 r5 hown7 hgrow7 hat7))
      all_goals
       have HC7 := Lib.hid hc7
       clear hc7
       go_wp2
       go_roundg (l - (j + 1))
       case measure => have := HGK.out; omega
       case rel =>
        have hob : (Value.slice ap2 P cv2).ownBlock ≠ some tb := HS.out.2.2.2 _ (by assumption)
        have htbl := HS.out.2.2.1.lt
        have htb2 := HBX.out.2
        have hbx7 : Box w7 tb _ := HS.out.2.2.1.block (HR7.out.2.2 tb htbl hob) (Nat.lt_of_lt_of_le htbl HZ7.out.1)
        refine ⟨j + 1, (ii : Int) - 1, news ++ [⟨(u, .slice au u.args.length cu), false, 0⟩], by omega, rfl, by have := HII.out; omega, rfl, Lib.hid ⟨by rw [← List.append_assoc]; exact HR7.out.1, HR7.out.1.bel, hbx7.far (by omega), fun vv hvv => ?_⟩, Lib.hid ⟨by rw [List.length_append, HN.out.1]; rfl, fun q hq => ?_, ?_⟩⟩
        ·rw [HC7.out] at hvv
         injection hvv with hvv
         rw [← hvv]
         rcases HAT.out with e | e <;> rw [e]
         ·exact hob
         ·intro e'
          injection e' with e'
          have := HZ7.out.2
          omega
        ·rcases List.mem_append.1 hq with hq | hq
         ·exact HN.out.2.1 q hq
         ·simp at hq
          subst hq
          obtain ⟨g1, g2⟩ := arg_ok HYY.out.2.2.2.1.good HYY.out.2.2.2.1.rng (List.mem_of_getElem? HTV.out.2.1)
          refine ⟨?_, g1, g2⟩
          have h1 := HTV.out.1
          rw [← HTV.out.2.2.1, ← HTV.out.2.2.2.1, ← HTV.out.2.2.2.2] at h1
          exact h1
        ·have hrev : y.args.reverse[j]? = some u := by
          rw [List.getElem?_reverse (by rw [HU.out.2]; exact hjl), HU.out.2, show l - 1 - j = ii by have := HII.out; omega]
          exact HTV.out.2.1
         rw [take_next hrev, List.map_append, List.map_append, HN.out.2.2]
         rfl
     ·have hjl2 : j = l := by omega
      have hz0 : zz < 0 := by omega
      have hz0' : ¬ (0 ≤ zz) := by omega
      clear hzz hgk
      have hnl : news.map PlP.pl = y.args.reverse.map asPl := by
       have := HN.out.2.2
       rwa [List.take_of_length_le (by rw [List.length_reverse, HU.out.2]; omega)] at this
      have HNL := Lib.hid hnl
      have hsb : sb ≠ tb := by have := HBX.out.2; omega
      have hrn : (E ++ news).reverse.map PlP.pl = placesOf c x y := by
       rw [List.reverse_append, List.map_append, List.map_reverse, HNL.out, List.map_reverse, List.reverse_reverse, HPE.out.2.2.1]
       rfl
      have HCD := Lib.hid (fun (w5 : World) (hb : Below wr.heap.size wr w5) => (show Calls Try.prog 150 #[.pointer (some ⟨sb, 0, none⟩), .int .i64 1] w5 fun e w' => e = .returned (.bool (decide (M < c + 1))) ∧ IsS W w' sb pb n M (cntN M c 1) (P0 ++ news) f cnt ∧ Touch [sb] w5 w' from add_at (HS.out.1.ext hb) 1 hM hc (by omega)))
      have HEND := Lib.hid (fun (b : Bool) (hb : b = (decide (M < c + 1) || (decide (k = 0) && decide (m = n)))) => (show LookR V N R n M c f x b (cntN M c 1) pl (P0 ++ news) from Or.inr ⟨HF.out, y, E ++ news, HYY.out.2.2.2.1, HYY.out.2.2.2.2, by rw [HYY.out.2.1, HYY.out.2.2.1]; exact hb, rfl, by rw [← HPE.out.1, List.append_assoc], fun q hq => (List.mem_append.1 hq).elim (HPE.out.2.1 q) (HN.out.2.1 q), hrn⟩))
      have c0' := (by obtain ⟨ap2, cv2, bm2, _, _, q1, _⟩ := HS.out.1.open; exact q1 : wr.cell? ⟨sb, 1, none⟩ = some (.int .i64 n))
      obtain ⟨p0, p1, p2, p3, pf⟩ := HS.out.2.2.1.four
      clear hnl hrn
      by_cases hq1 : M < c + 1
      ·have hd : decide (M < c + 1) = true := by simpa using hq1
       rw [hd] at HCD HEND
       clear hq1 hd
       go_wp2_with fail
       refine wp_region_held_drew (S := fun w' => w'.cell? ⟨sb, 1, none⟩ = some (.int .i64 n) ∧ w'.cell? ⟨tb, 0, none⟩ = some (.int .i64 k) ∧ w'.cell? ⟨tb, 1, none⟩ = some (.int .i64 m)) (by kernel_rfl) ⟨c0', p0, p1⟩ (fun hHeld => ?_)
       first | (refine held_t (i := 0) hHeld ?_; constructor; constructor; intro wq hq; focus ((try dsimp only at hq); go_simp; first | done | with_reducible rfl | fail)) | refine held_s (i := 0) hHeld ?_ | fail
       try simp only [Act.put, lay4]
       refine held_c 1 fun K hK => ?_
       go_simp
       (go_at_call 150; refine (HCD.out _ (Below.refl _ _).drew).mono ?_; rintro e w6 ⟨rfl, h6, t6⟩; have c6 := (by obtain ⟨ap2, cv2, bm2, _, _, q1, _⟩ := h6.open; exact q1 : w6.cell? ⟨sb, 1, none⟩ = some (.int .i64 n)); have HX6 := Lib.hid (HS.out.2.2.1.block (t6.block tb HS.out.2.2.1.lt (by simp; omega)) (Nat.lt_of_lt_of_le HS.out.2.2.1.lt t6.size)))
       refine hK.out _ _ (⟨c6, HX6.out.four.1, HX6.out.four.2.1⟩) (fun hHeld => ?_)
       clear hK K
       try simp only [Act.put, lay4]
       first | (refine held_t (i := 2) hHeld ?_; constructor; constructor; intro wq hq; focus ((try dsimp only at hq); go_simp; first | done | with_reducible rfl | fail)) | refine held_s (i := 2) hHeld ?_ | fail
       first | (refine held_t (i := 3) hHeld ?_; constructor; constructor; intro wq hq; focus ((try dsimp only at hq); go_simp; first | done | with_reducible rfl | fail)) | refine held_s (i := 3) hHeld ?_ | fail
       try simp only [Act.put, lay4]
       first | (refine held_t (i := 4) hHeld ?_; constructor; constructor; intro wq hq; focus ((try dsimp only at hq); go_simp; first | done | with_reducible rfl | fail)) | refine held_s (i := 4) hHeld ?_ | fail
       first | (refine held_t (i := 5) hHeld ?_; constructor; constructor; intro wq hq; focus ((try dsimp only at hq); go_simp; first | done | with_reducible rfl | fail)) | refine held_s (i := 5) hHeld ?_ | fail
       try simp only [Act.put, lay4]
       first | (refine held_t (i := 6) hHeld ?_; constructor; constructor; intro wq hq; focus ((try dsimp only at hq); go_simp; first | done | with_reducible rfl | fail)) | refine held_s (i := 6) hHeld ?_ | fail
       first | (refine held_t (i := 7) hHeld ?_; constructor; constructor; intro wq hq; focus ((try dsimp only at hq); go_simp; first | done | with_reducible rfl | fail)) | refine held_s (i := 7) hHeld ?_ | fail
       try simp only [Act.put, lay4]
       first | (refine held_t (i := 8) hHeld ?_; constructor; constructor; intro wq hq; focus ((try dsimp only at hq); go_simp; first | done | with_reducible rfl | fail)) | refine held_s (i := 8) hHeld ?_ | fail
       first | (refine held_t (i := 9) hHeld ?_; constructor; constructor; intro wq hq; focus ((try dsimp only at hq); go_simp; first | done | with_reducible rfl | fail)) | refine held_s (i := 9) hHeld ?_ | fail
       try simp only [Act.put, lay4]
       first | (refine held_t (i := 10) hHeld ?_; constructor; constructor; intro wq hq; focus ((try dsimp only at hq); go_simp; first | done | with_reducible rfl | fail)) | refine held_s (i := 10) hHeld ?_ | fail
       first | (refine held_t (i := 11) hHeld ?_; constructor; constructor; intro wq hq; focus ((try dsimp only at hq); go_simp; first | done | with_reducible rfl | fail)) | refine held_s (i := 11) hHeld ?_ | fail
       try simp only [Act.put, lay4]
       first | (refine held_t (i := 12) hHeld ?_; constructor; constructor; intro wq hq; focus ((try dsimp only at hq); go_simp; first | done | with_reducible rfl | fail)) | refine held_s (i := 12) hHeld ?_ | fail
       first | (refine held_t (i := 13) hHeld ?_; constructor; constructor; intro wq hq; focus ((try dsimp only at hq); go_simp; first | done | with_reducible rfl | fail)) | refine held_s (i := 13) hHeld ?_ | fail
       try simp only [Act.put, lay4]
       first | (refine held_t (i := 14) hHeld ?_; constructor; constructor; intro wq hq; focus ((try dsimp only at hq); go_simp; first | done | with_reducible rfl | fail)) | refine held_s (i := 14) hHeld ?_ | fail
       first | (refine held_t (i := 15) hHeld ?_; constructor; constructor; intro wq hq; focus ((try dsimp only at hq); go_simp; first | done | with_reducible rfl | fail)) | refine held_s (i := 15) hHeld ?_ | fail
       try simp only [Act.put, lay4]
       first | (refine held_t (i := 16) hHeld ?_; constructor; constructor; intro wq hq; focus ((try dsimp only at hq); go_simp; first | done | with_reducible rfl | fail)) | refine held_s (i := 16) hHeld ?_ | fail
       try simp only [Act.put, lay4]
       refine wpAnyH_done (by kernel_rfl) ?_ _
       have H6 := Lib.hid h6
       clear h6 t6 hHeld
       go_wp2
       go_ret
       exact ⟨_, _, _, rfl, H6.out, HEND.out _ (by simp)⟩
      ·have hd : decide (M < c + 1) = false := by simpa using hq1
       rw [hd] at HCD HEND
       clear hq1 hd
       by_cases hk0 : k = 0
       ·have hk1 : (k == 0) = true := by simpa using hk0
        have HK0 := Lib.hid hk0
        clear hk0
        by_cases hmn : m = n
        ·have hmn' : (m == n) = true := by simpa using hmn
         have hb0 : true = (false || (decide (k = 0) && decide (m = n))) := by simp [hmn, HK0.out]
         have HB0 := Lib.hid (HEND.out _ hb0)
         clear hmn hb0 HEND
         go_wp2_with fail
         refine wp_region_held_drew (S := fun w' => w'.cell? ⟨sb, 1, none⟩ = some (.int .i64 n) ∧ w'.cell? ⟨tb, 0, none⟩ = some (.int .i64 k) ∧ w'.cell? ⟨tb, 1, none⟩ = some (.int .i64 m)) (by kernel_rfl) ⟨c0', p0, p1⟩ (fun hHeld => ?_)
         first | (refine held_t (i := 0) hHeld ?_; constructor; constructor; intro wq hq; focus ((try dsimp only at hq); go_simp; first | done | with_reducible rfl | fail)) | refine held_s (i := 0) hHeld ?_ | fail
         try simp only [Act.put, lay4]
         refine held_c 1 fun K hK => ?_
         go_simp
         (go_at_call 150; refine (HCD.out _ (Below.refl _ _).drew).mono ?_; rintro e w6 ⟨rfl, h6, t6⟩; have c6 := (by obtain ⟨ap2, cv2, bm2, _, _, q1, _⟩ := h6.open; exact q1 : w6.cell? ⟨sb, 1, none⟩ = some (.int .i64 n)); have HX6 := Lib.hid (HS.out.2.2.1.block (t6.block tb HS.out.2.2.1.lt (by simp; omega)) (Nat.lt_of_lt_of_le HS.out.2.2.1.lt t6.size)))
         refine hK.out _ _ (⟨c6, HX6.out.four.1, HX6.out.four.2.1⟩) (fun hHeld => ?_)
         clear hK K
         try simp only [Act.put, lay4]
         first | (refine held_t (i := 2) hHeld ?_; constructor; constructor; intro wq hq; focus ((try dsimp only at hq); go_simp; first | done | with_reducible rfl | fail)) | refine held_s (i := 2) hHeld ?_ | fail
         first | (refine held_t (i := 3) hHeld ?_; constructor; constructor; intro wq hq; focus ((try dsimp only at hq); go_simp; first | done | with_reducible rfl | fail)) | refine held_s (i := 3) hHeld ?_ | fail
         try simp only [Act.put, lay4]
         first | (refine held_t (i := 4) hHeld ?_; constructor; constructor; intro wq hq; focus ((try dsimp only at hq); go_simp; first | done | with_reducible rfl | fail)) | refine held_s (i := 4) hHeld ?_ | fail
         first | (refine held_t (i := 5) hHeld ?_; constructor; constructor; intro wq hq; focus ((try dsimp only at hq); go_simp; first | done | with_reducible rfl | fail)) | refine held_s (i := 5) hHeld ?_ | fail
         try simp only [Act.put, lay4]
         first | (refine held_t (i := 6) hHeld ?_; constructor; constructor; intro wq hq; focus ((try dsimp only at hq); go_simp; first | done | with_reducible rfl | fail)) | refine held_s (i := 6) hHeld ?_ | fail
         first | (refine held_t (i := 7) hHeld ?_; constructor; constructor; intro wq hq; focus ((try dsimp only at hq); go_simp; first | done | with_reducible rfl | fail)) | refine held_s (i := 7) hHeld ?_ | fail
         try simp only [Act.put, lay4]
         first | (refine held_t (i := 8) hHeld ?_; constructor; constructor; intro wq hq; focus ((try dsimp only at hq); go_simp; first | done | with_reducible rfl | fail)) | refine held_s (i := 8) hHeld ?_ | fail
         first | (refine held_t (i := 9) hHeld ?_; constructor; constructor; intro wq hq; focus ((try dsimp only at hq); go_simp; first | done | with_reducible rfl | fail)) | refine held_s (i := 9) hHeld ?_ | fail
         try simp only [Act.put, lay4]
         first | (refine held_t (i := 10) hHeld ?_; constructor; constructor; intro wq hq; focus ((try dsimp only at hq); go_simp; first | done | with_reducible rfl | fail)) | refine held_s (i := 10) hHeld ?_ | fail
         first | (refine held_t (i := 11) hHeld ?_; constructor; constructor; intro wq hq; focus ((try dsimp only at hq); go_simp; first | done | with_reducible rfl | fail)) | refine held_s (i := 11) hHeld ?_ | fail
         try simp only [Act.put, lay4]
         first | (refine held_t (i := 12) hHeld ?_; constructor; constructor; intro wq hq; focus ((try dsimp only at hq); go_simp; first | done | with_reducible rfl | fail)) | refine held_s (i := 12) hHeld ?_ | fail
         first | (refine held_t (i := 13) hHeld ?_; constructor; constructor; intro wq hq; focus ((try dsimp only at hq); go_simp; first | done | with_reducible rfl | fail)) | refine held_s (i := 13) hHeld ?_ | fail
         try simp only [Act.put, lay4]
         first | (refine held_t (i := 14) hHeld ?_; constructor; constructor; intro wq hq; focus ((try dsimp only at hq); go_simp; first | done | with_reducible rfl | fail)) | refine held_s (i := 14) hHeld ?_ | fail
         first | (refine held_t (i := 15) hHeld ?_; constructor; constructor; intro wq hq; focus ((try dsimp only at hq); go_simp; first | done | with_reducible rfl | fail)) | refine held_s (i := 15) hHeld ?_ | fail
         try simp only [Act.put, lay4]
         first | (refine held_t (i := 16) hHeld ?_; constructor; constructor; intro wq hq; focus ((try dsimp only at hq); go_simp; first | done | with_reducible rfl | fail)) | refine held_s (i := 16) hHeld ?_ | fail
         try simp only [Act.put, lay4]
         refine wpAnyH_done (by kernel_rfl) ?_ _
         have H6 := Lib.hid h6
         clear h6 t6 hHeld
         go_wp2
         go_ret
         exact ⟨_, _, _, rfl, H6.out, HB0.out⟩
        ·have hmn' : (m == n) = false := by simpa using hmn
         have hb0 : false = (false || (decide (k = 0) && decide (m = n))) := by simp [hmn, HK0.out]
         have HB0 := Lib.hid (HEND.out _ hb0)
         clear hmn hb0 HEND
         go_wp2_with fail
         refine wp_region_held_drew (S := fun w' => w'.cell? ⟨sb, 1, none⟩ = some (.int .i64 n) ∧ w'.cell? ⟨tb, 0, none⟩ = some (.int .i64 k) ∧ w'.cell? ⟨tb, 1, none⟩ = some (.int .i64 m)) (by kernel_rfl) ⟨c0', p0, p1⟩ (fun hHeld => ?_)
         first | (refine held_t (i := 0) hHeld ?_; constructor; constructor; intro wq hq; focus ((try dsimp only at hq); go_simp; first | done | with_reducible rfl | fail)) | refine held_s (i := 0) hHeld ?_ | fail
         try simp only [Act.put, lay4]
         refine held_c 1 fun K hK => ?_
         go_simp
         (go_at_call 150; refine (HCD.out _ (Below.refl _ _).drew).mono ?_; rintro e w6 ⟨rfl, h6, t6⟩; have c6 := (by obtain ⟨ap2, cv2, bm2, _, _, q1, _⟩ := h6.open; exact q1 : w6.cell? ⟨sb, 1, none⟩ = some (.int .i64 n)); have HX6 := Lib.hid (HS.out.2.2.1.block (t6.block tb HS.out.2.2.1.lt (by simp; omega)) (Nat.lt_of_lt_of_le HS.out.2.2.1.lt t6.size)))
         refine hK.out _ _ (⟨c6, HX6.out.four.1, HX6.out.four.2.1⟩) (fun hHeld => ?_)
         clear hK K
         try simp only [Act.put, lay4]
         first | (refine held_t (i := 2) hHeld ?_; constructor; constructor; intro wq hq; focus ((try dsimp only at hq); go_simp; first | done | with_reducible rfl | fail)) | refine held_s (i := 2) hHeld ?_ | fail
         first | (refine held_t (i := 3) hHeld ?_; constructor; constructor; intro wq hq; focus ((try dsimp only at hq); go_simp; first | done | with_reducible rfl | fail)) | refine held_s (i := 3) hHeld ?_ | fail
         try simp only [Act.put, lay4]
         first | (refine held_t (i := 4) hHeld ?_; constructor; constructor; intro wq hq; focus ((try dsimp only at hq); go_simp; first | done | with_reducible rfl | fail)) | refine held_s (i := 4) hHeld ?_ | fail
         first | (refine held_t (i := 5) hHeld ?_; constructor; constructor; intro wq hq; focus ((try dsimp only at hq); go_simp; first | done | with_reducible rfl | fail)) | refine held_s (i := 5) hHeld ?_ | fail
         try simp only [Act.put, lay4]
         first | (refine held_t (i := 6) hHeld ?_; constructor; constructor; intro wq hq; focus ((try dsimp only at hq); go_simp; first | done | with_reducible rfl | fail)) | refine held_s (i := 6) hHeld ?_ | fail
         first | (refine held_t (i := 7) hHeld ?_; constructor; constructor; intro wq hq; focus ((try dsimp only at hq); go_simp; first | done | with_reducible rfl | fail)) | refine held_s (i := 7) hHeld ?_ | fail
         try simp only [Act.put, lay4]
         first | (refine held_t (i := 8) hHeld ?_; constructor; constructor; intro wq hq; focus ((try dsimp only at hq); go_simp; first | done | with_reducible rfl | fail)) | refine held_s (i := 8) hHeld ?_ | fail
         first | (refine held_t (i := 9) hHeld ?_; constructor; constructor; intro wq hq; focus ((try dsimp only at hq); go_simp; first | done | with_reducible rfl | fail)) | refine held_s (i := 9) hHeld ?_ | fail
         try simp only [Act.put, lay4]
         first | (refine held_t (i := 10) hHeld ?_; constructor; constructor; intro wq hq; focus ((try dsimp only at hq); go_simp; first | done | with_reducible rfl | fail)) | refine held_s (i := 10) hHeld ?_ | fail
         first | (refine held_t (i := 11) hHeld ?_; constructor; constructor; intro wq hq; focus ((try dsimp only at hq); go_simp; first | done | with_reducible rfl | fail)) | refine held_s (i := 11) hHeld ?_ | fail
         try simp only [Act.put, lay4]
         first | (refine held_t (i := 12) hHeld ?_; constructor; constructor; intro wq hq; focus ((try dsimp only at hq); go_simp; first | done | with_reducible rfl | fail)) | refine held_s (i := 12) hHeld ?_ | fail
         first | (refine held_t (i := 13) hHeld ?_; constructor; constructor; intro wq hq; focus ((try dsimp only at hq); go_simp; first | done | with_reducible rfl | fail)) | refine held_s (i := 13) hHeld ?_ | fail
         try simp only [Act.put, lay4]
         first | (refine held_t (i := 14) hHeld ?_; constructor; constructor; intro wq hq; focus ((try dsimp only at hq); go_simp; first | done | with_reducible rfl | fail)) | refine held_s (i := 14) hHeld ?_ | fail
         first | (refine held_t (i := 15) hHeld ?_; constructor; constructor; intro wq hq; focus ((try dsimp only at hq); go_simp; first | done | with_reducible rfl | fail)) | refine held_s (i := 15) hHeld ?_ | fail
         try simp only [Act.put, lay4]
         first | (refine held_t (i := 16) hHeld ?_; constructor; constructor; intro wq hq; focus ((try dsimp only at hq); go_simp; first | done | with_reducible rfl | fail)) | refine held_s (i := 16) hHeld ?_ | fail
         try simp only [Act.put, lay4]
         refine wpAnyH_done (by kernel_rfl) ?_ _
         have H6 := Lib.hid h6
         clear h6 t6 hHeld
         go_wp2
         go_ret
         exact ⟨_, _, _, rfl, H6.out, HB0.out⟩
       ·have hk1 : (k == 0) = false := by simpa using hk0
        have hb0 : false = (false || (decide (k = 0) && decide (m = n))) := by simp [hk0]
        have HB0 := Lib.hid (HEND.out _ hb0)
        clear hk0 hb0 HEND
        go_wp2_with fail
        refine wp_region_held_drew (S := fun w' => w'.cell? ⟨sb, 1, none⟩ = some (.int .i64 n) ∧ w'.cell? ⟨tb, 0, none⟩ = some (.int .i64 k) ∧ w'.cell? ⟨tb, 1, none⟩ = some (.int .i64 m)) (by kernel_rfl) ⟨c0', p0, p1⟩ (fun hHeld => ?_)
        first | (refine held_t (i := 0) hHeld ?_; constructor; constructor; intro wq hq; focus ((try dsimp only at hq); go_simp; first | done | with_reducible rfl | fail)) | refine held_s (i := 0) hHeld ?_ | fail
        try simp only [Act.put, lay4]
        refine held_c 1 fun K hK => ?_
        go_simp
        (go_at_call 150; refine (HCD.out _ (Below.refl _ _).drew).mono ?_; rintro e w6 ⟨rfl, h6, t6⟩; have c6 := (by obtain ⟨ap2, cv2, bm2, _, _, q1, _⟩ := h6.open; exact q1 : w6.cell? ⟨sb, 1, none⟩ = some (.int .i64 n)); have HX6 := Lib.hid (HS.out.2.2.1.block (t6.block tb HS.out.2.2.1.lt (by simp; omega)) (Nat.lt_of_lt_of_le HS.out.2.2.1.lt t6.size)))
        refine hK.out _ _ (⟨c6, HX6.out.four.1, HX6.out.four.2.1⟩) (fun hHeld => ?_)
        clear hK K
        try simp only [Act.put, lay4]
        first | (refine held_t (i := 2) hHeld ?_; constructor; constructor; intro wq hq; focus ((try dsimp only at hq); go_simp; first | done | with_reducible rfl | fail)) | refine held_s (i := 2) hHeld ?_ | fail
        first | (refine held_t (i := 3) hHeld ?_; constructor; constructor; intro wq hq; focus ((try dsimp only at hq); go_simp; first | done | with_reducible rfl | fail)) | refine held_s (i := 3) hHeld ?_ | fail
        try simp only [Act.put, lay4]
        first | (refine held_t (i := 4) hHeld ?_; constructor; constructor; intro wq hq; focus ((try dsimp only at hq); go_simp; first | done | with_reducible rfl | fail)) | refine held_s (i := 4) hHeld ?_ | fail
        first | (refine held_t (i := 5) hHeld ?_; constructor; constructor; intro wq hq; focus ((try dsimp only at hq); go_simp; first | done | with_reducible rfl | fail)) | refine held_s (i := 5) hHeld ?_ | fail
        try simp only [Act.put, lay4]
        first | (refine held_t (i := 6) hHeld ?_; constructor; constructor; intro wq hq; focus ((try dsimp only at hq); go_simp; first | done | with_reducible rfl | fail)) | refine held_s (i := 6) hHeld ?_ | fail
        first | (refine held_t (i := 7) hHeld ?_; constructor; constructor; intro wq hq; focus ((try dsimp only at hq); go_simp; first | done | with_reducible rfl | fail)) | refine held_s (i := 7) hHeld ?_ | fail
        try simp only [Act.put, lay4]
        first | (refine held_t (i := 8) hHeld ?_; constructor; constructor; intro wq hq; focus ((try dsimp only at hq); go_simp; first | done | with_reducible rfl | fail)) | refine held_s (i := 8) hHeld ?_ | fail
        first | (refine held_t (i := 9) hHeld ?_; constructor; constructor; intro wq hq; focus ((try dsimp only at hq); go_simp; first | done | with_reducible rfl | fail)) | refine held_s (i := 9) hHeld ?_ | fail
        try simp only [Act.put, lay4]
        first | (refine held_t (i := 10) hHeld ?_; constructor; constructor; intro wq hq; focus ((try dsimp only at hq); go_simp; first | done | with_reducible rfl | fail)) | refine held_s (i := 10) hHeld ?_ | fail
        first | (refine held_t (i := 11) hHeld ?_; constructor; constructor; intro wq hq; focus ((try dsimp only at hq); go_simp; first | done | with_reducible rfl | fail)) | refine held_s (i := 11) hHeld ?_ | fail
        try simp only [Act.put, lay4]
        first | (refine held_t (i := 12) hHeld ?_; constructor; constructor; intro wq hq; focus ((try dsimp only at hq); go_simp; first | done | with_reducible rfl | fail)) | refine held_s (i := 12) hHeld ?_ | fail
        first | (refine held_t (i := 13) hHeld ?_; constructor; constructor; intro wq hq; focus ((try dsimp only at hq); go_simp; first | done | with_reducible rfl | fail)) | refine held_s (i := 13) hHeld ?_ | fail
        try simp only [Act.put, lay4]
        first | (refine held_t (i := 14) hHeld ?_; constructor; constructor; intro wq hq; focus ((try dsimp only at hq); go_simp; first | done | with_reducible rfl | fail)) | refine held_s (i := 14) hHeld ?_ | fail
        first | (refine held_t (i := 15) hHeld ?_; constructor; constructor; intro wq hq; focus ((try dsimp only at hq); go_simp; first | done | with_reducible rfl | fail)) | refine held_s (i := 15) hHeld ?_ | fail
        try simp only [Act.put, lay4]
        first | (refine held_t (i := 16) hHeld ?_; constructor; constructor; intro wq hq; focus ((try dsimp only at hq); go_simp; first | done | with_reducible rfl | fail)) | refine held_s (i := 16) hHeld ?_ | fail
        try simp only [Act.put, lay4]
        refine wpAnyH_done (by kernel_rfl) ?_ _
        have H6 := Lib.hid h6
        clear h6 t6 hHeld
        go_wp2
        go_ret
        exact ⟨_, _, _, rfl, H6.out, HB0.out⟩
end
end Go.Proofs.Ytchbbaehdcmcfaa
