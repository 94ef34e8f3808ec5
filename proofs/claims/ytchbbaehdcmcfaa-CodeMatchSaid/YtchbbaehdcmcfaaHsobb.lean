import Derived.Test.YtchbbaehdcmcfaaHsozz
import Derived.Test.YtchbbaehdcmcfaaHsoae
import Derived.Test.YtchbbaehdcmcfaaHsoap
import Derived.Test.YtchbbaehdcmcfaaHsoao
import Derived.Test.YtchbbaehdcmcfaaHsoaf
import Derived.Test.YtchbbaehdcmcfaaHsoab
set_option linter.unusedVariables false
set_option linter.unusedSimpArgs false
/- The document's List: any items, any tail. -/
namespace Go.Proofs.Ytchbbaehdcmcfaa
open Go.RowKit
set_option linter.unusedVariables false
theorem tms_two15 {D : Nat → Bool} {w : World} {t u : Tm} {v0 v1 v2 v3 u0 u1 u2 u3 : Value} (ho : Old D w) (h : TmV (hide D w) t (.agg #[v0, v1, v2, v3])) (g : TmV (hide D w) u (.agg #[u0, u1, u2, u3])) (ty : TypeId) :
  Tms (hide D (w.alloc (.cells #[v0, v1, v2, v3, u0, u1, u2, u3] ty))) (.slice (some ⟨w.heap.size, 0, none⟩) 2 2) [t, u] := by
 have hd : D w.heap.size = false := ho _ (Nat.le_refl _)
 obtain ⟨w1, hw1, hb1, _, hx1⟩ := box_new w #[v0, v1, v2, v3, u0, u1, u2, u3] ty
 rw [hw1]
 refine ⟨_, 2, rfl, Nat.le_refl _, by unfold maxLen; omega, by unfold BIG; simp, Or.inr ⟨w.heap.size, 0, rfl, by rw [hide_size]; exact hx1.lt, ?_⟩⟩
 rw [TmRow, TmRow]
 refine ⟨⟨v0, v1, v2, v3, ?_, ?_, ?_, ?_, TmV.later hb1 h⟩, ⟨u0, u1, u2, u3, ?_, ?_, ?_, ?_, TmV.later hb1 g⟩, by rw [TmRow]; trivial⟩
 ·rw [hide_cell _ _ _ hd]; exact hx1.cells 0 _ rfl
 ·rw [hide_cell _ _ _ hd]; exact hx1.cells 1 _ rfl
 ·rw [hide_cell _ _ _ hd]; exact hx1.cells 2 _ rfl
 ·rw [hide_cell _ _ _ hd]; exact hx1.cells 3 _ rfl
 ·rw [hide_cell _ _ _ hd]; exact hx1.cells 4 _ rfl
 ·rw [hide_cell _ _ _ hd]; exact hx1.cells 5 _ rfl
 ·rw [hide_cell _ _ _ hd]; exact hx1.cells 6 _ rfl
 ·rw [hide_cell _ _ _ hd]; exact hx1.cells 7 _ rfl
theorem far4_15 {w : World} {b j c : Nat} {v : Value} (h : w.cell? ⟨b, j, none⟩ = some v) (hne : b ≠ c) (u0 u1 u2 u3 : Value) : (set4 w c u0 u1 u2 u3).cell? ⟨b, j, none⟩ = some v := by
 rw [far_cell hne, far_cell hne, far_cell hne, far_cell hne]; exact h
theorem Box.farx15 {w : World} {b c : Nat} {vs : List Value} (h : Box w b vs) (hne : b ≠ c) (u0 u1 u2 u3 : Value) : Box (set4 w c u0 u1 u2 u3) b vs := (((h.far hne).far hne).far hne).far hne
theorem Box.allx15 {w : World} {b : Nat} {v0 v1 v2 v3 : Value} (h : Box w b [v0, v1, v2, v3]) (u0 u1 u2 u3 : Value) : Box (set4 w b u0 u1 u2 u3) b [u0, u1, u2, u3] :=
 (((h.set (k := 0) (by simp)).set (k := 1) (by simp)).set (k := 2) (by simp)).set (k := 3) (by simp)
theorem drop_list15 {l : List Tm} {i : Nat} {x : Tm} (h : l[i]? = some x) (t : Tm) : listT (l.drop i) t = consT x (listT (l.drop (i + 1)) t) := by
 obtain ⟨h1, rfl⟩ := List.getElem?_eq_some_iff.1 h
 rw [List.drop_eq_getElem_cons h1, listT]
set_option maxRecDepth 100000 in
set_option maxHeartbeats 8000000 in
theorem rlist15_at {D : Nat → Bool} {w : World} {l : List Tm} {t : Tm} {lv v : Value} (hD : Old D w) (hl : Tms (hide D w) lv l) (hv : TmV (hide D w) t v) :
  Calls Try.prog 37 #[lv, v] w fun e w' => ∃ v', e = .returned v' ∧ TmV (hide D w') (listT l t) v' ∧ Below w.heap.size w w' := by
 obtain ⟨k0, n0, s0, a0, m0, c0, rfl⟩ := hv.full
 obtain ⟨a, c, rfl, h1, h2, h3⟩ := hl.len
 unfold BIG at h3
 obtain ⟨m, hm⟩ : ∃ m, l.length = m := ⟨_, rfl⟩
 obtain ⟨w1, hw1, hb1, hz1, hx1⟩ := box_new w #[.int .i64 k0, .int .i64 n0, .string s0, .slice a0 m0 c0] 54
 obtain ⟨w2, hw2, hb2, hz2, hx2⟩ := box_new w1 #[.int .i64 0, .int .i64 0, .string ⟨#[]⟩, .slice none 0 0] 54
 have hB2 := Ext.trans' hb1 hb2
 have hBB : w.heap.size ≤ w1.heap.size := hb1.size
 have hne : w.heap.size ≠ w1.heap.size := by omega
 have hne' : w1.heap.size ≠ w.heap.size := by omega
 have HO1 := Lib.hid (((show Okd D noM w from okd_no hD).box hb1.size hx1.lt).2)
 have HV2 := Lib.hid ((hv.box hb1 (Nat.le_refl _)).box hb2 (Nat.le_refl _))
 have HO2 := Lib.hid ((((show Okd D noM w from okd_no hD).box hb1.size hx1.lt).box hb2.size hx2.lt).2)
 have HDD2 := Lib.hid (show ∀ k, k < w.heap.size → D k = false → plusB (plusB D w.heap.size) w1.heap.size k = false from fun k hk hd => (plusB_ne (by omega)).trans ((plusB_ne (by omega)).trans hd))
 have HDL := Lib.hid (show ∀ k, plusB (plusB D w.heap.size) w1.heap.size k = false → D k = false from fun k hk => by
  cases hd : D k with
  | false => rfl
  | true => rw [plusB_of (plusB_of hd)] at hk; cases hk)
 have HX1 := Lib.hid (hx1.ext hb2)
 have HX2 := Lib.hid hx2
 have HL := Lib.hid hl
 have HM := Lib.hid hm
 have HDD := Lib.hid hD
 rw [hm] at h1 h3 HL ⊢
 have HB2 := Lib.hid hB2
 unfold maxLen at h2
 obtain ⟨Q0, hQ0⟩ : ∃ Q : Int, (m : Int) - 1 = Q := ⟨_, rfl⟩
 have hw0 : IntKind.i64.wrap ((m : Int) - 1) = Q0 := by rw [IntKind.wrap_i64]; omega
 have HQ0 := Lib.hid hQ0
 clear hl hv hm hD hb1 hb2 hx1 hx2 hz1 hz2 hB2 hQ0
 go_enter Try.func37, Try.ntmps37
 go_wp2_with fail
 (try rw [hw1])
 (try rw [hw2])
 clear hw1 hw2
 go_wp2_with fail
 go_loopw [5] (fun z wr => ∃ (j : Nat) (Q : Int) (k n : Int) (s : ByteArray) (a4 : Option Addr) (m4 c4 : Nat), j ≤ m ∧ z = .int .i64 Q ∧ Hid ((j : Int) - 1 = Q) ∧ Hid (Box wr w.heap.size [.int .i64 k, .int .i64 n, .string s, .slice a4 m4 c4] ∧ Box wr w1.heap.size [.int .i64 0, .int .i64 0, .string ⟨#[]⟩, .slice none 0 0] ∧ TmV (hide (plusB (plusB D w.heap.size) w1.heap.size) wr) (listT (l.drop j) t) (.agg #[.int .i64 k, .int .i64 n, .string s, .slice a4 m4 c4]) ∧ Below w.heap.size w wr))
  (fun z wr => match z with | .int _ q => (q + 1).toNat | _ => 0)
 case atStart => exact ⟨m, Q0, k0, n0, s0, a0, m0, c0, Nat.le_refl _, rfl, HQ0, Lib.hid ⟨HX1.out, HX2.out, by rw [List.drop_of_length_le (by rw [HM.out]; exact Nat.le_refl _)]; exact HV2.out, HB2.out⟩⟩
 case round =>
  obtain ⟨j, Q, k, n, s, a4, m4, c4, hjm, rfl, HQ, HI⟩ := hrel
  obtain ⟨p0, p1, p2, p3, pf⟩ := HI.out.1.four
  by_cases hj : j = 0
  ·have hq : ¬ (0 ≤ Q) := by have := HQ.out; omega
   obtain ⟨q0, q1, q2, q3, qf⟩ := HI.out.2.1.four
   go_wp2
   refine bodyPost_ret (v := .agg #[.int .i64 k, .int .i64 n, .string s, .slice a4 m4 c4]) (by rw [results_cell1 rfl]; go_simp) rfl ⟨_, rfl, ?_, Below.set4 HI.out.2.2.2 hBB _ _ _ _⟩
   subst hj
   have hT := HI.out.2.2.1
   rw [List.drop_zero] at hT
   exact TmV.stay (Stays.less HDL.out) _ _ (hT.put4 (plusB_self _ _) (.int .i64 k) (.int .i64 n) (.string s) (.slice a4 m4 c4))
  ·obtain ⟨i, rfl⟩ : ∃ i, j = i + 1 := ⟨j - 1, by omega⟩
   obtain rfl : Q = (i : Int) := by have := HQ.out; omega
   have hq : (0 : Int) ≤ i := by omega
   have him : (i : Int) < m := by omega
   obtain ⟨x, hx⟩ : ∃ x, l[i]? = some x := ⟨_, List.getElem?_eq_getElem (by rw [HM.out]; omega)⟩
   have hdl := drop_list15 hx t
   obtain ⟨b, off, kx, nx, sx, ux, rfl, hbb, _, _, _, x0, x1, x2, x3, hux, htx⟩ := HL.out.get hx
   obtain ⟨ax, cx, rfl, _⟩ := hux.len
   rw [hide_size] at hbb
   have UN := (Stays.unhide D w).2
   have x0 := cell_later HI.out.2.2.2 (UN _ _ x0)
   have x1 := cell_later HI.out.2.2.2 (UN _ _ x1)
   have x2 := cell_later HI.out.2.2.2 (UN _ _ x2)
   have x3 := cell_later HI.out.2.2.2 (UN _ _ x3)
   have hbB : b ≠ w.heap.size := by omega
   obtain ⟨mx, hmx⟩ : ∃ m, x.args.length = m := ⟨_, rfl⟩
   rw [hmx] at x3 htx
   have htw := TmV.stay (Stays.below HI.out.2.2.2 HDD2.out) _ _ htx
   have ho2 : Old (plusB (plusB D w.heap.size) w1.heap.size) wr := fun k hk => by
    have e1 := HI.out.1.lt
    have e2 := HI.out.2.1.lt
    have e3 := HI.out.2.2.2.size
    exact (plusB_ne (by omega)).trans ((plusB_ne (by omega)).trans (HDD.out k (by omega)))
   have h8 := tms_two15 (w := wr.drew) (show Old _ wr.drew from ho2) (TmV.later (Below.refl _ _).drew htw) (TmV.later (Below.refl _ _).drew HI.out.2.2.1) 54
   have hcon : TmV (hide (plusB (plusB D w.heap.size) w1.heap.size) (wr.drew.alloc (.cells #[.int .i64 kx, .int .i64 nx, .string sx, .slice ax mx cx, .int .i64 k, .int .i64 n, .string s, .slice a4 m4 c4] 54))) (listT (l.drop i) t) (.agg #[.int .i64 2, .int .i64 0, .string ⟨#[46]⟩, .slice (some ⟨wr.drew.heap.size, 0, none⟩) 2 2]) := by
    rw [hdl]
    exact tmV_iff.2 ⟨_, rfl, by unfold BIG; decide, i64_2, i64_0, h8⟩
   have HCON := Lib.hid hcon
   have HWI := Lib.hid (show i ≤ m by omega)
   have hws : IntKind.i64.wrap ((i : Int) - 1) = (i : Int) - 1 := by rw [IntKind.wrap_i64]; omega
   have HBr := Lib.hid HI.out.2.2.2
   have HXB := Lib.hid HI.out.1
   have HXC := Lib.hid HI.out.2.1
   clear hx hdl htx htw h8 hcon hux ho2 UN HI HQ
   go_wp2_with fail
   refine wp_region_held_drew (S := fun w' => w'.cell? ⟨b, off + i * 4, none⟩ = some (.int .i64 kx) ∧ w'.cell? ⟨b, off + i * 4 + 1, none⟩ = some (.int .i64 nx) ∧ w'.cell? ⟨b, off + i * 4 + 2, none⟩ = some (.string sx) ∧ w'.cell? ⟨b, off + i * 4 + 3, none⟩ = some (.slice ax mx cx)) (by kernel_rfl) ⟨x0, x1, x2, x3⟩ (fun hHeld => ?_)
   first | (refine held_t (i := 0) hHeld ?_; constructor; constructor; intro wq hq; focus ((try dsimp only at hq); go_simp; first | done | with_reducible rfl | fail)) | refine held_s (i := 0) hHeld ?_ | fail
   first | (refine held_t (i := 1) hHeld ?_; constructor; constructor; intro wq hq; focus ((try dsimp only at hq); go_simp; first | done | with_reducible rfl | fail)) | refine held_s (i := 1) hHeld ?_ | fail
   first | (refine held_t (i := 2) hHeld ?_; constructor; constructor; intro wq hq; focus ((try dsimp only at hq); go_simp; first | done | with_reducible rfl | fail)) | refine held_s (i := 2) hHeld ?_ | fail
   first | (refine held_t (i := 3) hHeld ?_; constructor; constructor; intro wq hq; focus ((try dsimp only at hq); go_simp; first | done | with_reducible rfl | fail)) | refine held_s (i := 3) hHeld ?_ | fail
   try simp only [Act.put, lay4]
   refine held_c 4 fun K hK => ?_
   go_simp
   skip
   refine hK.out _ _ (hHeld) (fun hHeld => ?_)
   clear hK K
   try simp only [Act.put, lay4]
   refine held_c 5 fun K hK => ?_
   go_simp
   skip
   refine hK.out _ _ (⟨cell_later (bel1' _ _) hHeld.1, cell_later (bel1' _ _) hHeld.2.1, cell_later (bel1' _ _) hHeld.2.2.1, cell_later (bel1' _ _) hHeld.2.2.2⟩) (fun hHeld => ?_)
   clear hK K
   try simp only [Act.put, lay4]
   refine held_c 6 fun K hK => ?_
   go_simp
   (go_at_call 75; refine (rcomp_at _ _ _ _ _).mono ?_; rintro e w5 ⟨rfl, hb5⟩; have hb6 := Ext.trans' (Below.refl wr.heap.size wr).drew (Ext.trans' (bel1' wr.drew _) hb5); have HB6 := Lib.hid hb6; obtain ⟨p0, p1, p2, p3, pf⟩ := (HXB.out.ext hb6).four; have HC6 := Lib.hid (HCON.out.later hb5))
   refine hK.out _ _ (⟨cell_later hb5 hHeld.1, cell_later hb5 hHeld.2.1, cell_later hb5 hHeld.2.2.1, cell_later hb5 hHeld.2.2.2⟩) (fun hHeld => ?_)
   clear hK K
   try simp only [Act.put, lay4]
   refine held_c 7 fun K hK => ?_
   go_simp
   skip
   refine hK.out _ _ (⟨far4_15 hHeld.1 hbB _ _ _ _, far4_15 hHeld.2.1 hbB _ _ _ _, far4_15 hHeld.2.2.1 hbB _ _ _ _, far4_15 hHeld.2.2.2 hbB _ _ _ _⟩) (fun hHeld => ?_)
   clear hK K
   try simp only [Act.put, lay4]
   refine wpAnyH_done (by kernel_rfl) ?_ _
   have HN := Lib.hid (And.intro ((HXB.out.ext HB6.out).allx15 (.int .i64 2) (.int .i64 0) (.string ⟨#[46]⟩) (.slice (some ⟨wr.drew.heap.size, 0, none⟩) 2 2)) (And.intro ((HXC.out.ext HB6.out).farx15 hne' (.int .i64 2) (.int .i64 0) (.string ⟨#[46]⟩) (.slice (some ⟨wr.drew.heap.size, 0, none⟩) 2 2)) (And.intro (HC6.out.put4 (plusB_of (plusB_self _ _)) (.int .i64 2) (.int .i64 0) (.string ⟨#[46]⟩) (.slice (some ⟨wr.drew.heap.size, 0, none⟩) 2 2)) (Below.set4 (Ext.trans' HBr.out HB6.out) (Nat.le_refl _) (.int .i64 2) (.int .i64 0) (.string ⟨#[46]⟩) (.slice (some ⟨wr.drew.heap.size, 0, none⟩) 2 2)))))
   clear hHeld x0 x1 x2 x3 p0 p1 p2 p3 pf
   go_wp2
   go_roundw
   case rel => exact ⟨i, _, 2, 0, ⟨#[46]⟩, _, 2, 2, by omega, rfl, Lib.hid rfl, HN⟩
   case measure => simp
end Go.Proofs.Ytchbbaehdcmcfaa
/- Two rows of terms in the making, side by side. -/
namespace Go.Proofs.Ytchbbaehdcmcfaa
open Go.RowKit
set_option linter.unusedVariables false
def twoB (vx vy : Value) : Nat → Bool := fun k => vx.ownBlock == some k || vy.ownBlock == some k
structure TwoRows (B : Nat) (ty : TypeId) (w : World) (vx vy : Value) (ps qs : List TmP) : Prop where
 rx : RowP w B ty vx ps
 ry : RowP w B ty vy qs
 ne : ∀ g, vx.ownBlock = some g → vy.ownBlock ≠ some g
 px : ∀ p ∈ ps, TmV (hide (twoB vx vy) w) p.1 (pVal p)
 py : ∀ p ∈ qs, TmV (hide (twoB vx vy) w) p.1 (pVal p)
theorem twoB_swap (vx vy : Value) : twoB vx vy = twoB vy vx := by funext k; unfold twoB; exact Bool.or_comm _ _
section
variable {B : Nat} {ty : TypeId} {w w' : World} {vx vy vz : Value} {ps qs : List TmP} {p : TmP}
theorem TwoRows.none (B : Nat) (ty : TypeId) (w : World) : TwoRows B ty w (.slice none 0 0) (.slice none 0 0) [] [] :=
 ⟨World.ownsRow_nil _ _ _ _, World.ownsRow_nil _ _ _ _, fun g hg => (by cases hg), fun p hp => (by cases hp), fun p hp => (by cases hp)⟩
theorem TwoRows.swap (h : TwoRows B ty w vx vy ps qs) : TwoRows B ty w vy vx qs ps :=
 ⟨h.ry, h.rx, fun g hg hx => h.ne g hx hg, by rw [twoB_swap]; exact h.py, by rw [twoB_swap]; exact h.px⟩
theorem TwoRows.old (h : TwoRows B ty w vx vy ps qs) : Old (twoB vx vy) w := fun k hk => by
 unfold twoB
 have n1 : vx.ownBlock ≠ some k := fun e => by have := (row_in h.rx e).2; omega
 have n2 : vy.ownBlock ≠ some k := fun e => by have := (row_in h.ry e).2; omega
 simp [n1, n2]
theorem TwoRows.ext (h : TwoRows B ty w vx vy ps qs) (hb : Below w.heap.size w w') : TwoRows B ty w' vx vy ps qs :=
 ⟨row_at h.rx (fun g hg => hb.block g (row_in h.rx hg).2), row_at h.ry (fun g hg => hb.block g (row_in h.ry hg).2), h.ne, fun p hp => TmV.later hb (h.px p hp), fun p hp => TmV.later hb (h.py p hp)⟩
theorem TwoRows.left (h : TwoRows B ty w vx vy ps qs) (hg : w.grownBy w' vx.ownBlock) (hv : vz.ownBlock = vx.ownBlock ∨ vz.ownBlock = some w.heap.size)
  (hr : w'.ownsRow B ty 4 vz (ps.length + 1) (ps.flatMap pCells ++ pCells p)) (hp : TmV (hide (twoB vx vy) w) p.1 (pVal p)) :
  TwoRows B ty w' vz vy (ps ++ [p]) qs ∧ Stays (hide (twoB vx vy) w) (hide (twoB vz vy) w') := by
 have hs : Stays (hide (twoB vx vy) w) (hide (twoB vz vy) w') := Stays.hide hg.size fun k hk hd => by
  unfold twoB at hd
  simp only [Bool.or_eq_false_iff, beq_eq_false_iff_ne] at hd
  refine ⟨?_, hg.block k hk (fun e => hd.1 e.symm)⟩
  have n1 : vz.ownBlock ≠ some k := fun e => by
   rcases hv with hv | hv
   ·exact hd.1 (hv.symm.trans e)
   ·rw [hv] at e; injection e with e; omega
  unfold twoB
  simp [n1, hd.2]
 refine ⟨⟨?_, row_at h.ry (fun g hg' => hg.block g (row_in h.ry hg').2 (fun e => h.ne g e.symm hg')), fun g hg' hy => ?_, fun q hq => ?_, fun q hq => TmV.stay hs _ _ (h.py q hq)⟩, hs⟩
 ·unfold RowP
  rw [List.length_append, List.flatMap_append, List.length_singleton]
  simpa using hr
 ·rcases hv with hv | hv
  ·exact h.ne g (hv.symm.trans hg') hy
  ·rw [hv] at hg'
   injection hg' with e
   have := (row_in h.ry hy).2
   omega
 ·rcases List.mem_append.1 hq with hq | hq
  ·exact TmV.stay hs _ _ (h.px q hq)
  ·simp at hq
   subst hq
   exact TmV.stay hs _ _ hp
theorem TwoRows.right (h : TwoRows B ty w vx vy ps qs) (hg : w.grownBy w' vy.ownBlock) (hv : vz.ownBlock = vy.ownBlock ∨ vz.ownBlock = some w.heap.size)
  (hr : w'.ownsRow B ty 4 vz (qs.length + 1) (qs.flatMap pCells ++ pCells p)) (hp : TmV (hide (twoB vx vy) w) p.1 (pVal p)) :
  TwoRows B ty w' vx vz ps (qs ++ [p]) ∧ Stays (hide (twoB vx vy) w) (hide (twoB vx vz) w') := by
 obtain ⟨h1, h2⟩ := h.swap.left hg hv hr (by rw [twoB_swap]; exact hp)
 exact ⟨h1.swap, by rw [twoB_swap vx vy, twoB_swap vx vz]; exact h2⟩
theorem TwoRows.out (h : TwoRows B ty w vx vy ps qs) (h1 : ps.length * 56 ≤ BIG) (h2 : qs.length * 56 ≤ BIG) : Tms w vx (ps.map (·.1)) ∧ Tms w vy (qs.map (·.1)) :=
 ⟨RowP.terms h.rx (fun p hp => TmV.stay (Stays.unhide _ _) _ _ (h.px p hp)) h1, RowP.terms h.ry (fun p hp => TmV.stay (Stays.unhide _ _) _ _ (h.py p hp)) h2⟩
theorem TwoRows.ge (h : TwoRows B ty w vx vy ps qs) : (∀ g, vx.ownBlock = some g → B ≤ g) ∧ ∀ g, vy.ownBlock = some g → B ≤ g := ⟨fun g hg => (row_in h.rx hg).1, fun g hg => (row_in h.ry hg).1⟩
end
theorem both_split (N : Nat) (x y : Tm) {b : BRes} (hb : bothB N [] x y = b) : b.err ≠ 0 ∨ (b.err = 0 ∧ ∃ r, uniT 2000 [] x y 0 = r ∧ r.cost ≤ 2000 ∧ b.ok = r.ok ∧ (r.ok = true → b.set = r.set)) := by
 subst hb
 unfold bothB
 split
 ·unfold endB
  split
  ·exact Or.inl (by decide)
  ·rename_i h
   exact Or.inr ⟨rfl, _, rfl, by omega, rfl, fun h => if_pos h⟩
 ·exact Or.inl (by decide)
theorem IsR.rebase {V w : World} {F : List Nat} {p : Value} {N : Nat} {R : List (Int × Tm)} (h : IsR V F w p N R) : IsR (hide (awayB F) w) F w p N R := by
 refine h.from ⟨by rw [hide_size]; exact h.see.1.1, fun a v hv => ?_⟩ (Stays.unhide _ _) (fun a ha => hide_gone _ _ _ (by simp [awayB, ha]))
 have n1 : ¬ a.block ∈ F := fun hm => by rw [h.see.2 a hm] at hv; cases hv
 rw [hide_cell _ _ _ (by simp [awayB, n1])]
 exact h.see.1.2 a v hv
theorem IsR.oldD {V w : World} {F : List Nat} {p : Value} {N : Nat} {R : List (Int × Tm)} (h : IsR V F w p N R) : Old (awayB F) w := fun k hk => by
 have n1 : ¬ k ∈ F := fun hm => by have := h.lt _ hm; omega
 simp [awayB, n1]
theorem whole_none15 {N : Nat} {R S : List (Int × Tm)} {x : Tm} (hs : Sync R S) (h : (wholeB N R x).2 = 0) : (wholeB N R x).1 = subT (fullB S) x := by
 rw [← hs.full]
 unfold wholeB at h ⊢
 split at h
 ·rename_i h1
  rw [if_pos h1]
  split at h
  ·rename_i h2
   rw [if_pos h2]
  ·exact absurd h (by decide)
 ·exact absurd h (by decide)
theorem rcAtom_at (w : World) (s : ByteArray) : Calls Try.prog 38 #[.string s] w fun e w' => e = .returned (.agg #[.int .i64 2, .int .i64 0, .string s, .slice none 0 0]) ∧ Below w.heap.size w w' := by
 go_enter Try.func38, Try.ntmps38
 go_wp2
 refine bodyPost_ret (v := .agg #[.int .i64 2, .int .i64 0, .string s, .slice none 0 0]) (by rw [results_cell1 rfl]; go_simp) rfl ⟨rfl, ?_⟩
 exact bel1' _ _
end Go.Proofs.Ytchbbaehdcmcfaa
/- Two rows of terms in the making, side by side: what holds while both get one more. -/
namespace Go.Proofs.Ytchbbaehdcmcfaa
open Go.RowKit
set_option linter.unusedVariables false
structure Rg (W0 : World) (ty : TypeId) (tb ub : Nat) (t0 t1 t2 t3 u0 u1 u2 u3 : Value) (T U : Tm) (w : World) (vx vy : Value) (ps qs : List TmP) : Prop where
 two : TwoRows W0.heap.size ty w vx vy ps qs
 bel : Below W0.heap.size W0 w
 ct : ∀ j u, [t0, t1, t2, t3][j]? = some u → (hide (twoB vx vy) w).cell? ⟨tb, j, none⟩ = some u
 cu : ∀ j u, [u0, u1, u2, u3][j]? = some u → (hide (twoB vx vy) w).cell? ⟨ub, j, none⟩ = some u
 tT : TmV (hide (twoB vx vy) w) T (.agg #[t0, t1, t2, t3])
 tU : TmV (hide (twoB vx vy) w) U (.agg #[u0, u1, u2, u3])
def Src (D : Nat → Bool) (w : World) (ab : Nat) (c0 c1 c2 c3 : Value) : Prop := ∀ j u, [c0, c1, c2, c3][j]? = some u → (hide D w).cell? ⟨ab, j, none⟩ = some u
theorem Src.stay {D D' : Nat → Bool} {w w' : World} {ab : Nat} {c0 c1 c2 c3 : Value} (h : Src D w ab c0 c1 c2 c3) (hs : Stays (hide D w) (hide D' w')) : Src D' w' ab c0 c1 c2 c3 := fun j u hu => hs.2 _ _ (h j u hu)
theorem Src.new {D : Nat → Bool} {w : World} (hD : Old D w) (c0 c1 c2 c3 : Value) (ty : TypeId) : Src D (w.alloc (.cells #[c0, c1, c2, c3] ty)) w.heap.size c0 c1 c2 c3 := fun j u hu => by
 rw [hide_cell _ _ _ (hD _ (Nat.le_refl _))]
 have := cell_new w #[c0, c1, c2, c3] ty j u hu
 rw [add_plain, Nat.zero_add] at this
 exact this
theorem Src.cells {D : Nat → Bool} {w : World} {ab : Nat} {c0 c1 c2 c3 : Value} (h : Src D w ab c0 c1 c2 c3) : ∀ j u, [c0, c1, c2, c3][j]? = some u → w.cell? ((⟨ab, 0, none⟩ : Addr).add j) = some u := fun j u hu => by
 rw [add_plain, Nat.zero_add]
 exact (Stays.unhide _ _).2 _ _ (h j u hu)
section
variable {W0 : World} {ty : TypeId} {tb ub : Nat} {t0 t1 t2 t3 u0 u1 u2 u3 : Value} {T U : Tm} {w w' : World} {vx vy vz : Value} {ps qs : List TmP} {p : TmP}
theorem Rg.start (h : TwoRows W0.heap.size ty w vx vy ps qs) (hb0 : Below W0.heap.size W0 w) {w' : World} (hb : Below w.heap.size w w') (ht : w.heap.size ≤ tb) (hu : w.heap.size ≤ ub) (bt : Box w' tb [t0, t1, t2, t3]) (bu : Box w' ub [u0, u1, u2, u3])
  (hT : TmV (hide (under w.heap.size) w') T (.agg #[t0, t1, t2, t3])) (hU : TmV (hide (under w.heap.size) w') U (.agg #[u0, u1, u2, u3])) : Rg W0 ty tb ub t0 t1 t2 t3 u0 u1 u2 u3 T U w' vx vy ps qs := by
 have hs : Stays (hide (under w.heap.size) w') (hide (twoB vx vy) w') := Stays.less fun k hk => by
  have hk' : w.heap.size ≤ k := by simpa using hk
  exact h.old k hk'
 exact ⟨h.ext hb, hb0.trans (hb.mono hb0.size), fun j u hj => by rw [hide_cell _ _ _ (h.old _ ht)]; exact bt.cells j u hj, fun j u hj => by rw [hide_cell _ _ _ (h.old _ hu)]; exact bu.cells j u hj, TmV.stay hs _ _ hT, TmV.stay hs _ _ hU⟩
theorem Rg.stay (h : Rg W0 ty tb ub t0 t1 t2 t3 u0 u1 u2 u3 T U w vx vy ps qs) {vx' vy' : Value} {ps' qs' : List TmP} (h2 : TwoRows W0.heap.size ty w' vx' vy' ps' qs') (hb : Below W0.heap.size W0 w') (hs : Stays (hide (twoB vx vy) w) (hide (twoB vx' vy') w')) :
  Rg W0 ty tb ub t0 t1 t2 t3 u0 u1 u2 u3 T U w' vx' vy' ps' qs' := ⟨h2, hb, fun j u hj => hs.2 _ _ (h.ct j u hj), fun j u hj => hs.2 _ _ (h.cu j u hj), TmV.stay hs _ _ h.tT, TmV.stay hs _ _ h.tU⟩
theorem Rg.ext (h : Rg W0 ty tb ub t0 t1 t2 t3 u0 u1 u2 u3 T U w vx vy ps qs) (hb : Below w.heap.size w w') :
  Rg W0 ty tb ub t0 t1 t2 t3 u0 u1 u2 u3 T U w' vx vy ps qs ∧ Stays (hide (twoB vx vy) w) (hide (twoB vx vy) w') := by
 have hs : Stays (hide (twoB vx vy) w) (hide (twoB vx vy) w') := Stays.below hb fun k hk hd => hd
 exact ⟨h.stay (h.two.ext hb) (h.bel.trans (hb.mono h.bel.size)) hs, hs⟩
theorem Rg.left (h : Rg W0 ty tb ub t0 t1 t2 t3 u0 u1 u2 u3 T U w vx vy ps qs) (hg : w.grownBy w' vx.ownBlock) (hv : vz.ownBlock = vx.ownBlock ∨ vz.ownBlock = some w.heap.size)
  (hr : w'.ownsRow W0.heap.size ty 4 vz (ps.length + 1) (ps.flatMap pCells ++ pCells p)) (hp : TmV (hide (twoB vx vy) w) p.1 (pVal p)) :
  Rg W0 ty tb ub t0 t1 t2 t3 u0 u1 u2 u3 T U w' vz vy (ps ++ [p]) qs ∧ Stays (hide (twoB vx vy) w) (hide (twoB vz vy) w') := by
 obtain ⟨a, b⟩ := h.two.left hg hv hr hp
 exact ⟨h.stay a (h.bel.grown hg h.bel.size (fun j hj => (h.two.ge).1 j hj)) b, b⟩
theorem Rg.right (h : Rg W0 ty tb ub t0 t1 t2 t3 u0 u1 u2 u3 T U w vx vy ps qs) (hg : w.grownBy w' vy.ownBlock) (hv : vz.ownBlock = vy.ownBlock ∨ vz.ownBlock = some w.heap.size)
  (hr : w'.ownsRow W0.heap.size ty 4 vz (qs.length + 1) (qs.flatMap pCells ++ pCells p)) (hp : TmV (hide (twoB vx vy) w) p.1 (pVal p)) :
  Rg W0 ty tb ub t0 t1 t2 t3 u0 u1 u2 u3 T U w' vx vz ps (qs ++ [p]) ∧ Stays (hide (twoB vx vy) w) (hide (twoB vx vz) w') := by
 obtain ⟨a, b⟩ := h.two.right hg hv hr hp
 exact ⟨h.stay a (h.bel.grown hg h.bel.size (fun j hj => (h.two.ge).2 j hj)) b, b⟩
theorem Rg.held (h : Rg W0 ty tb ub t0 t1 t2 t3 u0 u1 u2 u3 T U w vx vy ps qs) :
  (w.cell? ⟨tb, 0, none⟩ = some t0 ∧ w.cell? ⟨tb, 1, none⟩ = some t1 ∧ w.cell? ⟨tb, 2, none⟩ = some t2 ∧ w.cell? ⟨tb, 3, none⟩ = some t3) ∧
  (w.cell? ⟨ub, 0, none⟩ = some u0 ∧ w.cell? ⟨ub, 1, none⟩ = some u1 ∧ w.cell? ⟨ub, 2, none⟩ = some u2 ∧ w.cell? ⟨ub, 3, none⟩ = some u3) := by
 have U := (Stays.unhide (twoB vx vy) w).2
 exact ⟨⟨U _ _ (h.ct 0 _ rfl), U _ _ (h.ct 1 _ rfl), U _ _ (h.ct 2 _ rfl), U _ _ (h.ct 3 _ rfl)⟩, U _ _ (h.cu 0 _ rfl), U _ _ (h.cu 1 _ rfl), U _ _ (h.cu 2 _ rfl), U _ _ (h.cu 3 _ rfl)⟩
end
theorem args_in8 {s : ByteArray} {n : Int} {args : List Tm} {N : Nat} (h : fitsB N (.mk 2 n s args) = true) : InNs N args := fun x hx =>
 ⟨(good_parts (good_arg (fitsB_true.1 h).1 (t := .mk 2 n s args) hx)).2.2, fun q hq => (fitsB_true.1 h).2 q (by rw [occ_not (by decide)]; exact mem_occL.2 ⟨x, hx, hq⟩)⟩
end Go.Proofs.Ytchbbaehdcmcfaa
