import Derived.Test.YtaojalicnnnkmaaGreatDoorHgraj
import Derived.Deep.RegionHeld3
import Derived.Deep.Quiet
import Derived.Test.YtaojalicnnnkmaaGreatDoorHgrab
import Derived.Deep.Cut
import Derived.Deep.CutRange
import Derived.Deep.DeepCutAuto
import Derived.Deep.QuietTactic
import Derived.BigQuiet
set_option linter.unusedVariables false
set_option linter.unusedSimpArgs false
/- The document's side of chapter 14: two (goals joined), over of's contract. -/
namespace Go.Proofs.YtaojalicnnnkmaaGreatDoor
open Go.RowKit
set_option linter.unusedVariables false

def erO (o : Option (List Gl)) : Int := match o with
  | none => 5
  | some _ => 0
/-- Goals and no error, or none and an error: they read where these blocks are not looked at. -/
def OfP (D : Nat → Bool) (w : World) (o : Option (List Gl)) (e : Ending) (w' : World) : Prop :=
  ∃ v, e = .returned (.tuple #[v, .int .i64 (erO o)]) ∧ GoalsV (hide D w') (o.getD []) v ∧ Below w.heap.size w w'
theorem infoGoalR : (Tryz.prog.info? 80).map (fun i => (i.zero, i.size, i.bytes)) = some (some (.agg #[.int .i64 0, .int .i64 0, .int .i64 0, .string ⟨#[]⟩, .slice none 0 0, .slice none 0 0]), 6, 88) := by kernel_rfl
theorem ownsRow_fresh (w : World) (ty : TypeId) (S base : Nat) (hb : base ≤ w.heap.size) : (w.alloc (.cells #[] ty)).ownsRow base ty S (.slice (some ⟨w.heap.size, 0, none⟩) 0 0) 0 [] := ⟨by simp, Or.inr ⟨w.heap.size, 0, #[], rfl, hb, heap_alloc_new w _, Nat.le_refl _, by simp, by simp, by simp⟩⟩
theorem grown_below {w w' : World} {v : Value} {B : Nat} (hg : w.grownBy w' v.ownBlock) (hB : B ≤ w.heap.size) (hv : ∀ g, v.ownBlock = some g → B ≤ g) : Below B w w' :=
  ⟨hg.os, hg.tape, hg.output, hg.size, fun k hk => hg.block k (by omega) (fun e => by have := hv k e.symm; omega)⟩
theorem stays_bel {D : Nat → Bool} {w w' : World} (hb : Below w.heap.size w w') : Stays (hide D w) (hide D w') := Stays.below hb fun _ _ h => h
set_option maxHeartbeats 8000000 in
set_option maxRecDepth 100000 in
theorem two_at {D : Nat → Bool} {w : World} {ta tb : Tm} {va vb : Value} {oa ob : Option (List Gl)} (hD : Old D w) (ha : TmV w ta va) (hb : TmV w tb vb)
    (PA : ∀ wq, Below w.heap.size w wq → Calls Tryz.prog 38 #[va] wq (OfP D wq oa)) (PB : ∀ wq, Below w.heap.size w wq → Calls Tryz.prog 38 #[vb] wq (OfP D wq ob))
    (hfit : ∀ x y, oa = some x → ob = some y → x.length + y.length ≤ 1000000) :
    Calls Tryz.prog 59 #[va, vb] w (OfP D w (oa.bind fun x => ob.map fun y => x ++ y)) := by
  obtain ⟨k, n, s, a, m, c, rfl, -, -, -, -⟩ := four_of ha
  obtain ⟨k', n', s', a', m', c', rfl, -, -, -, -⟩ := four_of hb
  obtain ⟨w1, e1, B1, z1, X1⟩ := box_new w #[.int .i64 k, .int .i64 n, .string s, .slice a m c] 46
  obtain ⟨w2, e2, B2, z2, X2⟩ := box_new w1 #[.int .i64 k', .int .i64 n', .string s', .slice a' m' c'] 46
  have HE := Lib.hid (And.intro e1 e2)
  have HB2 := Lib.hid (Ext.trans' B1 B2)
  have HX := Lib.hid (And.intro (X1.ext B2) X2)
  have HD := Lib.hid hD
  have HPB := Lib.hid PB
  have C1 := PA w2 HB2.out
  rw [z1] at X2
  obtain ⟨x0, x1, x2, x3, _⟩ := (X1.ext B2).four
  obtain ⟨y0, y1, y2, y3, _⟩ := X2.four
  have HZ := Lib.hid z1
  clear ha hb PA PB hD e1 e2 B1 B2 X1 X2 z1 z2
  cases oa with
  | none =>
    clear hfit
    go_enter Tryz.func59, Tryz.ntmps59
    go_upto_region 1 with fail
    (try rw [HE.out.1, HE.out.2])
    (go_wp2_with fail; go_fit (C1); rintro e w3 ⟨v3, rfl, h3, b3⟩)
    have HB3 := Lib.hid (Ext.trans' HB2.out b3)
    clear C1 h3 b3 x0 x1 x2 x3 y0 y1 y2 y3
    go_wp2
    go_ret2
    exact ⟨_, rfl, GoalsV.nil _, HB3.out⟩
  | some x =>
    have HF := Lib.hid (fun y (hy : ob = some y) => hfit x y rfl hy)
    clear hfit
    go_enter Tryz.func59, Tryz.ntmps59
    go_upto_region 1 with fail
    (try rw [HE.out.1, HE.out.2])
    (go_wp2_with fail; go_fit (C1); rintro e w3 ⟨v3, rfl, h3, b3⟩)
    have HB3 := Lib.hid (Ext.trans' HB2.out b3)
    have HG3 := Lib.hid h3
    have z0 := cell_later b3 y0
    have z1 := cell_later b3 y1
    have z2 := cell_later b3 y2
    have z3 := cell_later b3 y3
    have C2 := HPB.out w3 HB3.out
    have her : erO (some x) = 0 := rfl
    rw [her]
    clear C1 h3 b3 x0 x1 x2 x3 y0 y1 y2 y3
    cases ob with
    | none =>
      (go_wp2_with fail; go_fit (C2); rintro e w4 ⟨v4, rfl, h4, b4⟩)
      have HB4 := Lib.hid (Ext.trans' HB3.out b4)
      clear C2 h4 b4 z0 z1 z2 z3
      go_wp2
      go_ret2
      exact ⟨_, rfl, GoalsV.nil _, HB4.out⟩
    | some y =>
      (go_wp2_with fail; go_fit (C2); rintro e w4 ⟨v4, rfl, h4, b4⟩)
      have her2 : erO (some y) = 0 := rfl
      rw [her2]
      have hB4 := Ext.trans' HB3.out b4
      have hx4 : GoalsV (hide D w4) x v3 := HG3.out.stay (stays_bel b4)
      obtain ⟨ps, a3, c3, rfl, p1, p2, p3, p4, p5, p6, p7⟩ := hx4.pairs
      have h4' : GoalsV (hide D w4) y v4 := h4
      obtain ⟨qs, a4, c4, rfl, q1, q2, q3, q4, q5, q6, q7⟩ := h4'.pairs
      have hfit := HF.out y rfl
      obtain ⟨i0, hi0, hz0, hs0, hb0⟩ := info_parts infoGoalR
      obtain ⟨lx, hlx⟩ : ∃ l, x.length = l := ⟨_, rfl⟩
      obtain ⟨ly, hly⟩ : ∃ l, y.length = l := ⟨_, rfl⟩
      rw [hlx] at p1 p4 p5 p7 hfit ⊢
      rw [hly] at q1 q4 q5 q7 hfit ⊢
      have HOWN := Lib.hid (ownsRow_fresh w4 80 6 w4.heap.size (Nat.le_refl _))
      have HS1 := Lib.hid (show (ps.flatMap glCells).length = lx * 6 ∧ (lx = 0 ∨ ∃ ad, a3 = some ad ∧ ∀ j u, (ps.flatMap glCells)[j]? = some u → (w4.alloc (.cells #[] 80)).cell? (ad.add j) = some u) from
        ⟨by rw [flat_len glCells_len, p1], p7.imp id fun ⟨ad, e, h⟩ => ⟨ad, e, fun j u hj => Lib.cell?_alloc_some _ ((Stays.unhide D w4).2 _ _ (h j u hj))⟩⟩)
      have HO1 := Lib.hid (glCells_one ps p3)
      have HO2 := Lib.hid (glCells_one qs q3)
      have HN := Lib.hid (fun (a5 : Option Addr) (c5 : Nat) (w5 : World) (ho : w5.ownsRow w4.heap.size 80 6 (.slice a5 lx c5) lx ([] ++ ps.flatMap glCells)) (hg : (w4.alloc (.cells #[] 80)).grownBy w5 (Value.slice (some ⟨w4.heap.size, 0, none⟩) 0 0).ownBlock) =>
        (show Below w4.heap.size w4 w5 ∧ (qs.flatMap glCells).length = ly * 6 ∧ (ly = 0 ∨ ∃ ad, a4 = some ad ∧ ∀ j u, (qs.flatMap glCells)[j]? = some u → w5.cell? (ad.add j) = some u) from by
          have hb5 : Below w4.heap.size w4 w5 := Below.trans (bel1' w4 _) (grown_below hg (by simp) (fun g e => by cases e; exact Nat.le_refl _))
          exact ⟨hb5, by rw [flat_len glCells_len, q1], q7.imp id fun ⟨ad, e, h⟩ => ⟨ad, e, fun j u hj => cell_later hb5 ((Stays.unhide D w4).2 _ _ (h j u hj))⟩⟩))
      have HEND := Lib.hid (fun (a5 a6 : Option Addr) (c5 c6 : Nat) (w5 w6 : World) (hb5 : Below w4.heap.size w4 w5) (ho5 : w5.ownsRow w4.heap.size 80 6 (.slice a5 lx c5) lx ([] ++ ps.flatMap glCells)) (hg : w5.grownBy w6 (Value.slice a5 lx c5).ownBlock) (ho6 : w6.ownsRow w4.heap.size 80 6 (.slice a6 (lx + ly) c6) (lx + ly) (([] ++ ps.flatMap glCells) ++ qs.flatMap glCells)) =>
        (show GoalsV (hide D w6) (x ++ y) (.slice a6 (lx + ly) c6) ∧ Below w.heap.size w w6 from by
          have hb6 : Below w4.heap.size w4 w6 := Below.trans hb5 (grown_below hg hb5.size (fun g e => (row_in ho5 e).1))
          have ho7 : (hide D w6).ownsRow w4.heap.size 80 6 (.slice a6 (lx + ly) c6) (ps ++ qs).length ((ps ++ qs).flatMap glCells) := by
            rw [List.length_append, p1, q1, List.flatMap_append]
            rw [List.nil_append] at ho6
            exact row_at ho6 (fun g hg => hide_get _ _ _ (HD.out g (Nat.le_trans hB4.size (row_in ho6 hg).1)))
          have := own_goals ho7 (fun p hp => by
            rcases List.mem_append.1 hp with hp | hp
            · exact glOk_stay (stays_bel hb6) (p3 p hp)
            · exact glOk_stay (stays_bel hb6) (q3 p hp)) (by rw [List.length_append, p1, q1]; unfold BIG; omega)
          rw [List.map_append, p2, q2] at this
          exact ⟨this, Ext.trans' hB4 hb6⟩))
      have hp5 : (lx : Int) ≤ 1000000 := by omega
      have hq5 : (ly : Int) ≤ 1000000 := by omega
      clear C2 h4 h4' b4 z0 z1 z2 z3 p1 p2 p3 p7 q1 q2 q3 q7 hx4 hlx hly hB4
      go_wp2_with (at_builtin; first
        | (refine wpList_append_k rfl _ _ 48 rfl w4.heap.size 80 i0 (.agg #[.int .i64 0, .int .i64 0, .int .i64 0, .string ⟨#[]⟩, .slice none 0 0, .slice none 0 0]) 6 88 Tryz.underlying48 hi0 hz0 hs0 (by decide) hb0 rfl (.slice (some ⟨w4.heap.size, 0, none⟩) 0 0) 0 [] rfl HOWN.out a3 lx c3 (ps.flatMap glCells) rfl HS1.out.1 HS1.out.2 HO1.out (by unfold maxLen; omega) (by omega) (by simp) lx ([] ++ ps.flatMap glCells) (by omega) rfl ?_; intro a5 c5 w5 hown5 hgrow5 hat5; have HN5 := Lib.hid (And.intro (HN.out a5 c5 w5 hown5 hgrow5) hown5); clear hown5 hgrow5 hat5)
        | (refine wpList_append_k rfl _ _ 48 rfl w4.heap.size 80 i0 (.agg #[.int .i64 0, .int .i64 0, .int .i64 0, .string ⟨#[]⟩, .slice none 0 0, .slice none 0 0]) 6 88 Tryz.underlying48 hi0 hz0 hs0 (by decide) hb0 rfl (.slice a5 lx c5) lx ([] ++ ps.flatMap glCells) rfl HN5.out.2 a4 ly c4 (qs.flatMap glCells) rfl HN5.out.1.2.1 HN5.out.1.2.2 HO2.out (by unfold maxLen; omega) (by omega) HN5.out.1.1.size (lx + ly) (([] ++ ps.flatMap glCells) ++ qs.flatMap glCells) rfl rfl ?_; intro a6 c6 w6 hown6 hgrow6 hat6; have HN6 := Lib.hid (HEND.out a5 a6 c5 c6 w5 w6 HN5.out.1.1 HN5.out.2 hgrow6 hown6); clear hown6 hgrow6 hat6)
        | fail)
      go_ret2
      exact ⟨_, rfl, HN6.out.1, HN6.out.2⟩
end Go.Proofs.YtaojalicnnnkmaaGreatDoor
/- The document's side of chapter 14: rows, over of's contract. -/
namespace Go.Proofs.YtaojalicnnnkmaaGreatDoor
open Go.RowKit
set_option linter.unusedVariables false

/-- The goals of each, where all of them are bodies. -/
def ofR : List Tm → Option (List (List Gl))
  | [] => some []
  | t :: r => (ofB t).bind fun x => (ofR r).map fun y => x :: y
theorem ofR_none {ts : List Tm} {j : Nat} {x : Tm} (hx : ts[j]? = some x) (hn : ofB x = none) : ofR (ts.drop j) = none := by
  obtain ⟨hlt, rfl⟩ := List.getElem?_eq_some_iff.1 hx
  rw [List.drop_eq_getElem_cons hlt, ofR, hn]
  rfl
theorem ofR_some {ts : List Tm} {j : Nat} {x : Tm} {l : List Gl} (hx : ts[j]? = some x) (hn : ofB x = some l) : ofR (ts.drop j) = (ofR (ts.drop (j + 1))).map fun y => l :: y := by
  obtain ⟨hlt, rfl⟩ := List.getElem?_eq_some_iff.1 hx
  rw [List.drop_eq_getElem_cons hlt, ofR, hn]
  rfl
theorem Box.six {w : World} {b : Nat} {v0 v1 v2 v3 v4 v5 : Value} (h : Box w b [v0, v1, v2, v3, v4, v5]) : w.cell? ⟨b, 0, none⟩ = some v0 ∧ w.cell? ⟨b, 1, none⟩ = some v1 ∧ w.cell? ⟨b, 2, none⟩ = some v2 ∧ w.cell? ⟨b, 3, none⟩ = some v3 ∧ w.cell? ⟨b, 4, none⟩ = some v4 ∧ w.cell? ⟨b, 5, none⟩ = some v5 ∧ ∀ j, w.frozen? ⟨b, j, none⟩ = false :=
  ⟨h.cells 0 _ rfl, h.cells 1 _ rfl, h.cells 2 _ rfl, h.cells 3 _ rfl, h.cells 4 _ rfl, h.cells 5 _ rfl, h.fz⟩
theorem infoGoalsR : (Tryz.prog.info? 48).map (fun i => (i.zero, i.size, i.bytes)) = some (some (.slice none 0 0), 1, 24) := by kernel_rfl
/-- One goal, new. -/
theorem goals_one {D : Nat → Bool} {w : World} {g : Gl} {u v : Value} {ty : TypeId} (hD : D w.heap.size = false) (h : GlC (hide D w) g u v) : GoalsV (hide D (w.alloc (.cells #[.int .i64 g.kind, .int .i64 g.t.k, .int .i64 g.t.n, .string g.t.s, u, v] ty))) [g] (.slice (some ⟨w.heap.size, 0, none⟩) 1 1) := by
  refine ⟨_, 1, rfl, by simp, by unfold maxLen; omega, by simp [BIG], Or.inr ⟨w.heap.size, 0, rfl, by rw [hide_size]; simp, ?_⟩⟩
  rw [GlRow, GlRow]
  refine ⟨⟨u, v, fun j x hj => ?_, GlC.stay (stays_bel (bel1' w _)) _ _ _ h⟩, trivial⟩
  rw [hide_cell _ _ _ hD]
  have := cell_new w #[.int .i64 g.kind, .int .i64 g.t.k, .int .i64 g.t.n, .string g.t.s, u, v] ty j x hj
  rw [add_plain] at this
  exact this
def RwI (D : Nat → Bool) (w : World) (kind : Int) (ts : List Tm) (j c : Nat) (a : Option Addr) (wr : World) : Prop :=
  ∃ (D1 : Nat → Bool) (ps : List (List Gl × Value)), ps.length = j ∧ ofR ts = (ofR (ts.drop j)).map (fun y => ps.map (·.1) ++ y) ∧ Box wr w.heap.size [.int .i64 kind, .int .i64 0, .int .i64 0, .string ⟨#[]⟩, .slice none 0 0, .slice a j c] ∧
    RowQ 1 rsCells rsOk 48 D1 noM wr (w.heap.size + 1) (.slice a j c) ps ∧ Turn D noM D1 noM w wr ∧ Okd D1 noM wr ∧ D1 w.heap.size = true ∧ w.heap.size + 1 ≤ wr.heap.size
set_option maxHeartbeats 8000000 in
set_option maxRecDepth 100000 in
theorem rows_at {D : Nat → Bool} {w : World} {kind : Int} {ts : List Tm} {v : Value} (hD : Old D w) (hk : I64 kind) (hv : Tms (hide D w) v ts) (hl : ts.length ≤ 100)
    (PO : ∀ x ∈ ts, ∀ (D' : Nat → Bool) (wq : World) (vx : Value), Old D' wq → TmV (hide D' wq) x vx → Calls Tryz.prog 38 #[vx] wq (OfP D' wq (ofB x))) :
    Calls Tryz.prog 60 #[.int .i64 kind, v] w (OfP D w ((ofR ts).map fun ls => [.mk kind zeroT ls])) := by
  obtain ⟨a, c, rfl, h1, h2, h3⟩ := hv.len
  unfold maxLen at h2
  obtain ⟨m, hm⟩ : ∃ m, ts.length = m := ⟨_, rfl⟩
  have HM := Lib.hid hm
  have HV := Lib.hid hv
  have HPO := Lib.hid PO
  have HD := Lib.hid hD
  have HK := Lib.hid hk
  obtain ⟨i0, hi0, hz0, hs0, hb0⟩ := info_parts infoGoalsR
  obtain ⟨w1, e1, B1, z1, X1⟩ := box_new w #[.int .i64 kind, .int .i64 0, .int .i64 0, .string ⟨#[]⟩, .slice none 0 0, .slice none 0 0] 80
  have HE := Lib.hid e1
  have HI0 := Lib.hid (show RwI D w kind ts 0 0 none w1 from
    ⟨plusB D w.heap.size, [], rfl, (by rw [List.drop_zero]; cases ofR ts <;> rfl), X1, RowQ.none _ _ _ _, Turn.into B1 (Nat.le_refl _), (okd_no hD).box B1.size X1.lt, plusB_self _ _, by omega⟩)
  rw [hm] at hl h1 h3 HV ⊢
  clear hm hv PO hD hk e1 B1 z1 X1
  go_enter Tryz.func60, Tryz.ntmps60
  go_upto_region 1 with fail
  go_wp2_with fail
  (try rw [HE.out])
  go_loopw [7] (fun i wr => ∃ (j c' : Nat) (a' : Option Addr), j ≤ m ∧ i = .int .i64 j ∧ Hid (RwI D w kind ts j c' a' wr)) (fun i _ => m - (intOf i).toNat)
  case atStart => exact ⟨0, 0, none, Nat.zero_le _, rfl, HI0⟩
  case round =>
    obtain ⟨j, c', a', hj, rfl, HP⟩ := hrel
    clear HI0
    by_cases hjm : j < m
    · have hjm2 : (j : Int) < m := by omega
      obtain ⟨x, hx⟩ : ∃ x, ts[j]? = some x := ⟨_, List.getElem?_eq_getElem (by rw [HM.out]; exact hjm)⟩
      obtain ⟨D1, ps, hpl, hpm, hbx, hrow, htn, hok, hd1, hsz⟩ := HP.out
      have hvr := HV.out.stay (htn.stays (fun _ h => by cases h))
      obtain ⟨b, off, xk, xn, xs, xu, rfl, _, _, _, _, c0, c1, c2, c3, hxu, htx⟩ := hvr.get hx
      obtain ⟨a5, m5, c5, rfl⟩ : ∃ a5 m5 c5, xu = .slice a5 m5 c5 := by obtain ⟨a5, c5, e, _⟩ := hxu.len; exact ⟨_, _, _, e⟩
      have d0 := (Stays.unhide D1 wr).2 _ _ c0
      have d1 := (Stays.unhide D1 wr).2 _ _ c1
      have d2 := (Stays.unhide D1 wr).2 _ _ c2
      have d3 := (Stays.unhide D1 wr).2 _ _ c3
      have C := HPO.out x (List.mem_of_getElem? hx) D1 wr _ hok.2 htx
      obtain ⟨o, ho⟩ : ∃ o, ofB x = o := ⟨_, rfl⟩
      have HPS := Lib.hid (And.intro hpl (And.intro hpm (And.intro hbx (And.intro hrow (And.intro htn (And.intro hok (And.intro hd1 (And.intro hsz (And.intro hx ho)))))))))
      rw [ho] at C
      clear hpl hpm hbx hrow htn hok hd1 hsz hvr c0 c1 c2 c3 hxu htx hx ho HP
      cases o with
      | none =>
        (go_wp2_with fail; go_fit (C); rintro e w5 ⟨v5, rfl, h5, b5⟩)
        have HB5 := Lib.hid b5
        clear C h5 b5 d0 d1 d2 d3
        have her : erO none = 5 := rfl
        rw [her]
        go_wp2
        go_ret2
        obtain ⟨hpl, hpm, hbx, hrow, htn, hok, hd1, hsz, hx, ho⟩ := HPS.out
        rw [hpm, ofR_none hx ho]
        exact ⟨_, rfl, GoalsV.nil _, Ext.trans' (htn.bel (Nat.le_refl _) (fun _ _ => rfl)) HB5.out⟩
      | some l =>
        (go_wp2_with fail; go_fit (C); rintro e w5 ⟨v5, rfl, h5, b5⟩)
        have her : erO (some l) = 0 := rfl
        rw [her]
        obtain ⟨hpl, hpm, hbx, hrow, htn, hok, hd1, hsz, hx, ho⟩ := HPS.out
        have h5' : GoalsV (hide D1 w5) l v5 := h5
        obtain ⟨a6, c6, rfl, _, _, _⟩ := h5'.len
        obtain ⟨x0, x1, x2, x3, x4, x5, xf⟩ := (hbx.ext b5).six
        have HX5 := Lib.hid x5
        obtain ⟨L6, hL6⟩ : ∃ L6, l.length = L6 := ⟨_, rfl⟩
        rw [hL6] at h5' ⊢
        have hW5 : Below wr.heap.size wr (w5.alloc (.cells #[Value.slice a6 L6 c6] 48)) := Ext.trans' b5 (bel1' w5 _)
        have hRW := hrow.turn (M := noM) @rsOk_stay (Turn.below (D := D1) (M := noM) hW5) hok.1
        have hok5 : rsOk (hide D1 (w5.alloc (.cells #[Value.slice a6 L6 c6] 48))) (l, Value.slice a6 L6 c6) := h5'.stay (stays_bel (bel1' w5 _))
        have hrow9 : (w5.alloc (.cells #[Value.slice a6 L6 c6] 48)).ownsRow (w.heap.size + 1) 48 1 (.slice a' j c') j (ps.flatMap rsCells) := by
          have := hRW.1
          rw [hpl] at this
          exact this
        have hbx9 := hbx.ext hW5
        have HN := Lib.hid (fun (a7 : Option Addr) (c7 : Nat) (w7 : World) (hown : w7.ownsRow (w.heap.size + 1) 48 1 (.slice a7 (j + 1) c7) (j + 1) (ps.flatMap rsCells ++ [Value.slice a6 L6 c6])) (hg : (w5.alloc (.cells #[Value.slice a6 L6 c6] 48)).grownBy w7 (Value.slice a' j c').ownBlock)
            (hat : (Value.slice a7 (j + 1) c7).ownBlock = (Value.slice a' j c').ownBlock ∨ (Value.slice a7 (j + 1) c7).ownBlock = some (w5.alloc (.cells #[Value.slice a6 L6 c6] 48)).heap.size) =>
          (show Box w7 w.heap.size [.int .i64 kind, .int .i64 0, .int .i64 0, .string ⟨#[]⟩, .slice none 0 0, .slice a' j c'] ∧ RwI D w kind ts (j + 1) c7 a7 (w7.setCell ⟨w.heap.size, 5, none⟩ (.slice a7 (j + 1) c7)) from by
            have hb7 : Box w7 w.heap.size [.int .i64 kind, .int .i64 0, .int .i64 0, .string ⟨#[]⟩, .slice none 0 0, .slice a' j c'] :=
              hbx9.block (hg.block _ hbx9.lt (fun e => by have := (row_in hrow9 e.symm).1; omega)) (Nat.lt_of_lt_of_le hbx9.lt hg.size)
            have hT9 := (htn.trans (Turn.below (D := D1) (M := noM) hW5)).grown hg (fun g hg' => by have := (row_in hrow9 hg').1; omega) hat
            have hR7 := hRW.more @rsOk_stay (p := (l, Value.slice a6 L6 c6)) hok5 (hok.later hW5.size) hg hat (by rw [hpl]; exact hown)
            have hne : ∀ g, (Value.slice a7 (j + 1) c7).ownBlock = some g → g ≠ w.heap.size := fun g hg' e => by have := (row_in hown hg').1; omega
            refine ⟨hb7, withB D1 (.slice a7 (j + 1) c7), ps ++ [(l, Value.slice a6 L6 c6)], by rw [List.length_append, hpl]; rfl, ?_, hb7.set (k := 5) (by simp), hR7.put @rsOk_stay ⟨w.heap.size, 5, none⟩ _ (withB_of hd1) hne, hT9.set ⟨w.heap.size, 5, none⟩ _ (Or.inl (Nat.le_refl _)), ⟨fun k hk => absurd hk (by simp), fun k hk => ?_⟩, withB_of hd1, ?_⟩
            · rw [hpm, ofR_some hx ho, Option.map_map]
              congr 1
              funext y
              simp
            · rw [withB_no (fun e => by have := (row_in hown e).2; simp [World.setCell] at hk; omega)]
              exact hok.2 k (by have h1 := hg.size; have h2 := hW5.size; simp [World.setCell] at hk; omega)
            · have h1 := hg.size; have h2 := hW5.size; simp [World.setCell]; omega))
        have HROW := Lib.hid hrow9
        have HLE := Lib.hid (show w.heap.size + 1 ≤ (w5.alloc (.cells #[Value.slice a6 L6 c6] 48)).heap.size from Nat.le_trans hsz hW5.size)
        have HONE := Lib.hid (show ∀ u ∈ [Value.slice a6 L6 c6], u.oneCell' = true from fun u hu => by rw [List.mem_singleton] at hu; rw [hu]; rfl)
        clear hpl hpm hbx hrow htn hok hd1 hsz hx ho h5 h5' C b5 d0 d1 d2 d3 hW5 hRW hok5 hrow9 hbx9 hL6 HPS x0 x1 x2 x3 x4 xf
        go_wp2_with (at_builtin; refine wpList_append_k rfl _ _ 78 rfl (w.heap.size + 1) 48 i0 (.slice none 0 0) 1 24 Tryz.underlying78 hi0 hz0 hs0 (by decide) hb0 rfl (.slice a' j c') j (ps.flatMap rsCells) rfl HROW.out (some ⟨w5.heap.size, 0, none⟩) 1 1 [Value.slice a6 L6 c6] rfl rfl (Or.inr ⟨_, rfl, fun j u hu => cell_new w5 #[Value.slice a6 L6 c6] _ j u hu⟩) HONE.out (by unfold maxLen; omega) (by omega) HLE.out (j + 1) _ rfl rfl ?_; intro a7 c7 w7 hown7 hgrow7 hat7; have HN7 := Lib.hid (HN.out a7 c7 w7 hown7 hgrow7 hat7); obtain ⟨y0, y1, y2, y3, y4, y5, yf⟩ := HN7.out.1.six; clear hown7 hgrow7 hat7)
        go_roundw
        case rel => exact ⟨j + 1, c7, a7, by omega, by go_num, Lib.hid HN7.out.2⟩
        case measure => simp [intOf]; omega
    · have hje : j = m := by omega
      subst hje
      obtain ⟨D1, ps, hpl, hpm, hbx, hrow, htn, hok, hd1, hsz⟩ := HP.out
      obtain ⟨x0, x1, x2, x3, x4, x5, xf⟩ := hbx.six
      have hdr : ofR (ts.drop j) = some [] := by rw [List.drop_eq_nil_of_le (by rw [HM.out]; exact Nat.le_refl _), ofR]
      have hr : ofR ts = some (ps.map (·.1)) := by rw [hpm, hdr]; simp
      have HR := Lib.hid hr
      have hF := hrow.fin @rsOk_stay (by omega) htn hok
      rw [fin_no HD.out] at hF
      have hrv := own_rows hF.1 hF.2 (by rw [hpl]; unfold BIG; omega)
      have hgl : GlC (hide D wr) (.mk kind zeroT (ps.map (·.1))) (.slice none 0 0) (.slice a' j c') := glC_iff.2 ⟨HK.out, leaf_tm _ i64_0 i64_0 (by unfold BIG; decide), hrv⟩
      have HEND := Lib.hid (show GoalsV (hide D (wr.alloc (.cells #[.int .i64 kind, .int .i64 0, .int .i64 0, .string ⟨#[]⟩, .slice none 0 0, .slice a' j c'] 80))) [.mk kind zeroT (ps.map (·.1))] (.slice (some ⟨wr.heap.size, 0, none⟩) 1 1) ∧ Below w.heap.size w (wr.alloc (.cells #[.int .i64 kind, .int .i64 0, .int .i64 0, .string ⟨#[]⟩, .slice none 0 0, .slice a' j c'] 80)) from
        ⟨goals_one (ty := 80) (HD.out _ htn.size) hgl, Ext.trans' (htn.bel (Nat.le_refl _) (fun _ _ => rfl)) (bel1' wr _)⟩)
      clear hpl hpm hbx hrow htn hok hd1 hsz hdr hr hF hrv hgl HP xf
      go_wp2
      go_ret2
      rw [HR.out]
      exact ⟨_, rfl, HEND.out.1, HEND.out.2⟩
end Go.Proofs.YtaojalicnnnkmaaGreatDoor
/- The document's side of chapter 14: is, Count, Cuts, walked. -/
namespace Go.Proofs.YtaojalicnnnkmaaGreatDoor
open Go.RowKit
set_option linter.unusedVariables false

set_option maxHeartbeats 4000000 in
theorem ris_at {t : Tm} {w : World} {v : Value} (hv : TmV w t v) (s : ByteArray) (m : Nat) : Calls Tryz.prog 40 #[v, .string s, .int .i64 m] w fun e w' => e = .returned (.bool (isT t s m)) ∧ Below w.heap.size w w' := by
  obtain ⟨k, n, st, ts⟩ := t
  obtain ⟨u, rfl, hs, hk, hn, hu⟩ := tmV_iff.1 hv
  obtain ⟨a, c, rfl, h1, h2, h3⟩ := hu.len
  obtain ⟨w1, e1, B1, z1, X1⟩ := box_new w #[.int .i64 k, .int .i64 n, .string st, .slice a ts.length c] 46
  have HE := Lib.hid e1
  have HB := Lib.hid B1
  obtain ⟨x0, x1, x2, x3, _⟩ := X1.four
  have hr : isT (.mk k n st ts) s m = (k == 2 && st.data.toList == s.data.toList && ts.length == m) := rfl
  rw [hr]
  obtain ⟨l, hl⟩ : ∃ l, ts.length = l := ⟨_, rfl⟩
  rw [hl] at x3 HE h1 ⊢
  clear hr hl hu hv hs hk hn h3 B1 z1 X1 e1
  by_cases g1 : k = 2
  · subst g1
    by_cases g2 : st = s
    · subst g2
      have g2b : (st.toList == st.toList) = true := by simp
      have e2 : (st.data.toList == st.data.toList) = true := by simp
      rw [e2]
      clear e2
      by_cases g3 : l = m
      · subst g3
        have g3b : ((l : Int) == (l : Int)) = true := by simp
        have e3 : ((2 : Int) == 2 && true && l == l) = true := by simp
        rw [e3]
        clear e3
        go_enter Tryz.func40, Tryz.ntmps40
        go_upto_region 1 with fail
        (try rw [HE.out])
        go_wp2
        go_ret
        exact ⟨rfl, HB.out⟩
      · have g3b : ((l : Int) == (m : Int)) = false := by apply beq_false_of_ne; omega
        have e3 : ((2 : Int) == 2 && true && l == m) = false := by simp [g3]
        rw [e3]
        clear e3
        go_enter Tryz.func40, Tryz.ntmps40
        go_upto_region 1 with fail
        (try rw [HE.out])
        go_wp2
        go_ret
        exact ⟨rfl, HB.out⟩
    · have g2a : (st.data.toList == s.data.toList) = false := beq_false_of_ne (fun e => g2 (bytes_eq e))
      have g2b : (st.toList == s.toList) = false := by rw [Lib.toList_data, Lib.toList_data]; exact g2a
      have e3 : ((2 : Int) == 2 && (st.data.toList == s.data.toList) && l == m) = false := by rw [g2a]; simp
      rw [e3]
      clear e3 g2a
      go_enter Tryz.func40, Tryz.ntmps40
      go_upto_region 1 with fail
      (try rw [HE.out])
      go_wp2
      go_ret
      exact ⟨rfl, HB.out⟩
  · have g1b : (k == 2) = false := beq_false_of_ne g1
    have e3 : (k == 2 && (st.data.toList == s.data.toList) && l == m) = false := by rw [g1b]; simp
    rw [e3]
    clear e3
    go_enter Tryz.func40, Tryz.ntmps40
    go_upto_region 1 with fail
    (try rw [HE.out])
    go_wp2
    go_ret
    exact ⟨rfl, HB.out⟩
/-- Smaller, all the way in. -/
theorem cnt_mem : ∀ {l : List Gl} {g : Gl}, g ∈ l → cntG g ≤ cntL l
  | y :: r, g, h => by
    rw [cntL]
    rcases List.mem_cons.1 h with rfl | h
    · omega
    · have := cnt_mem h; omega
theorem cntR_mem : ∀ {ls : List (List Gl)} {l : List Gl}, l ∈ ls → cntL l ≤ cntR ls
  | y :: r, g, h => by
    rw [cntR]
    rcases List.mem_cons.1 h with rfl | h
    · omega
    · have := cntR_mem h; omega
theorem cnt_row {l : List Gl} {g : Gl} {r : List Gl} (h : g ∈ l) (hr : r ∈ g.l) : cntL r < cntL l := by
  have h1 := cnt_mem h
  obtain ⟨k, t, ls⟩ := g
  have h2 := cntR_mem (show r ∈ ls from hr)
  rw [cntG] at h1
  omega
theorem cntR_drop {l : List (List Gl)} {i : Nat} {g : List Gl} (h : l[i]? = some g) : cntR (l.drop i) = cntL g + cntR (l.drop (i + 1)) := by
  obtain ⟨hlt, rfl⟩ := List.getElem?_eq_some_iff.1 h
  rw [List.drop_eq_getElem_cons hlt, cntR]
theorem cnt_len : ∀ l : List Gl, l.length ≤ cntL l
  | [] => by rw [cntL]; simp
  | .mk k t ls :: r => by
    rw [cntL, cntG, List.length_cons]
    have := cnt_len r
    omega
/-- The rows' goals of a row of goals. -/
def innL : List Gl → Nat
  | [] => 0
  | g :: r => cntR g.l + innL r
theorem cnt_inn : ∀ l : List Gl, cntL l = l.length + innL l
  | [] => rfl
  | .mk k t ls :: r => by
    rw [cntL, cntG, innL, List.length_cons, cnt_inn r]
    show cntR ls + 1 + _ = r.length + 1 + (cntR ls + innL r)
    omega
theorem inn_drop {l : List Gl} {i : Nat} {g : Gl} (h : l[i]? = some g) : innL (l.drop i) = cntR g.l + innL (l.drop (i + 1)) := by
  obtain ⟨hlt, rfl⟩ := List.getElem?_eq_some_iff.1 h
  rw [List.drop_eq_getElem_cons hlt, innL]
set_option maxHeartbeats 8000000 in
set_option maxRecDepth 100000 in
/-- Count: of no more than a million goals. -/
theorem rCount_at : ∀ (M : Nat) (l : List Gl), cntL l ≤ M → M ≤ 1000000 → ∀ (w : World) (v : Value), GoalsV w l v → Calls Tryz.prog 23 #[v] w fun e w' => e = .returned (.int .i64 (cntL l : Nat)) ∧ w = w'
  | M, l, h, hM, w, v, hv => by
    obtain ⟨a, c, rfl, h1, h2, h3⟩ := hv.len
    unfold maxLen at h2
    have IH := Lib.hid (fun (r : List Gl) (hr : cntL r < M) => rCount_at (M - 1) r (by omega) (by omega))
    have HV := Lib.hid hv
    obtain ⟨m, hm⟩ : ∃ m, l.length = m := ⟨_, rfl⟩
    have HM := Lib.hid hm
    have hlen := cnt_len l
    obtain ⟨T, hT⟩ : ∃ T, cntL l = T := ⟨_, rfl⟩
    have HT := Lib.hid (And.intro hT (cnt_inn l))
    have HH := Lib.hid (show T ≤ M by omega)
    rw [hm] at h1 h3 HV ⊢
    rw [hT] at hlen ⊢
    have hmT : m ≤ T := by omega
    have hTM : T ≤ 1000000 := by omega
    clear hv hm hT h hlen
    go_enter Tryz.func23, Tryz.ntmps23
    go_wp2_with fail
    go_loop [3, 4, 5] (fun n i _ => ∃ (j : Nat) (z : Nat), j ≤ m ∧ i = .int .i64 j ∧ n = .int .i64 z ∧ Hid (z + innL (l.drop j) = T)) (fun _ i _ => m - (intOf i).toNat)
    case atStart => exact ⟨0, m, Nat.zero_le _, rfl, rfl, Lib.hid (by rw [List.drop_zero, ← HT.out.1, HT.out.2, HM.out])⟩
    case round =>
      obtain ⟨j, z, hj, rfl, rfl, HZ⟩ := hrel
      by_cases hjm : j < m
      · obtain ⟨g, hg⟩ : ∃ g, l[j]? = some g := ⟨_, List.getElem?_eq_getElem (by rw [HM.out]; exact hjm)⟩
        obtain ⟨b, off, kt, nt, st, at_, mt, ct, ar, mr, cr, rfl, _, d0, d1, d2, d3, d4, d5, _, _, hrows⟩ := HV.out.get hg
        have hgl : mr = g.l.length := by obtain ⟨_, _, e, _⟩ := hrows.len; cases e; rfl
        have hmrb : mr ≤ 9223372036854775807 := by obtain ⟨_, _, e, h5, h6, _⟩ := hrows.len; cases e; unfold maxLen at h6; omega
        have HR := Lib.hid hrows
        have HG := Lib.hid (And.intro hg hgl)
        have hzz := HZ.out
        rw [inn_drop hg] at hzz
        have HZ2 := Lib.hid hzz
        have hjm2 : (j : Int) < m := by omega
        clear hrows hg hgl hzz d0 d1 d2 d3 d4
        go_wp2_with fail
        go_loop [3, 5] (fun n i => ∃ (q : Nat) (y : Nat), q ≤ mr ∧ i = .int .i64 q ∧ n = .int .i64 y ∧ Hid (y + cntR (g.l.drop q) + innL (l.drop (j + 1)) = T)) (fun _ i => mr - (intOf i).toNat)
        case atStart => exact ⟨0, z, Nat.zero_le _, rfl, rfl, Lib.hid (by rw [List.drop_zero]; have := HZ2.out; omega)⟩
        case round =>
          obtain ⟨q, y, hq, rfl, rfl, HY⟩ := hrel
          by_cases hqm : q < mr
          · obtain ⟨r, hr⟩ : ∃ r, g.l[q]? = some r := ⟨_, List.getElem?_eq_getElem (by rw [← HG.out.2]; exact hqm)⟩
            obtain ⟨b', off', a', c', rfl, _, f0, hgv⟩ := HR.out.get hr
            have hlt := cnt_row (List.mem_of_getElem? HG.out.1) (List.mem_of_getElem? hr)
            have C := IH.out r (by have := HH.out; have := HT.out.1; omega) w _ hgv
            have hyy := HY.out
            rw [cntR_drop hr] at hyy
            obtain ⟨x, hx⟩ : ∃ x, cntL r = x := ⟨_, rfl⟩
            rw [hx] at C hyy
            obtain ⟨yx, hyx⟩ : ∃ s : Nat, y + x = s := ⟨_, rfl⟩
            have hsum : (y : Int) + (x : Int) = (yx : Int) := by omega
            have hyT : yx + cntR (g.l.drop (q + 1)) + innL (l.drop (j + 1)) = T := by omega
            have hyT2 : yx ≤ T := by omega
            have hwy : IntKind.i64.wrap (yx : Int) = (yx : Int) := by rw [IntKind.wrap_i64]; omega
            have HY2 := Lib.hid hyT
            clear hyT
            have hqm2 : (q : Int) < mr := by omega
            clear hr hgv hlt hx hyy hyx HY
            (go_wp2_with fail; go_fit (C); rintro e w' ⟨rfl, rfl⟩)
            clear C
            go_wp2
            go_round
            case rel => exact ⟨q + 1, yx, by omega, by go_num, by first | rfl | go_num, HY2⟩
            case measure => simp [intOf]; omega
          · have hqe : q = mr := by omega
            subst hqe
            have HY2 := Lib.hid (show y + innL (l.drop (j + 1)) = T by have := HY.out; rw [List.drop_eq_nil_of_le (by rw [← HG.out.2]; exact Nat.le_refl _), cntR] at this; omega)
            go_wp2
            go_round
            case rel => exact ⟨j + 1, y, by omega, by go_num, rfl, HY2⟩
            case measure => simp [intOf]; omega
      · have hje : j = m := by omega
        subst hje
        have hz : z = T := by have := HZ.out; rw [List.drop_eq_nil_of_le (by rw [HM.out]; exact Nat.le_refl _), innL] at this; omega
        subst hz
        go_wp2
        go_ret
        exact ⟨rfl, rfl⟩
end Go.Proofs.YtaojalicnnnkmaaGreatDoor
