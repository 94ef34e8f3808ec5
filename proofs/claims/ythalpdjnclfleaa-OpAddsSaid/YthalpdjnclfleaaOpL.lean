/- OpAdds: what is added to a good table is there, with its level; all others are as they were; taken out it is not. No condition. -/
import Derived.Test.YthalpdjnclfleaaOpI
import Derived.Test.YthalpdjnclfleaaOpJ
import Derived.Deep.Cut
import Derived.Deep.CutRange
import Derived.Deep.DeepCutAuto
namespace Go.Proofs.Ythalpdjnclfleaa
open Go.Shelf Go.RowKit

theorem two_xfx {k : ByteArray} (h : (k.toList == [120, 102, 120]) = true) : sideB (bl k) = 2 := by
  unfold sideB; rw [tests_bl h]; rfl
theorem two_xfy {k : ByteArray} (h0 : (k.toList == [120, 102, 120]) = false) (h : (k.toList == [120, 102, 121]) = true) : sideB (bl k) = 2 := by
  unfold sideB; rw [tests_bl h0, tests_bl h]; rfl
theorem two_yfx {k : ByteArray} (h0 : (k.toList == [120, 102, 120]) = false) (h1 : (k.toList == [120, 102, 121]) = false) (h : (k.toList == [121, 102, 120]) = true) : sideB (bl k) = 2 := by
  unfold sideB; rw [tests_bl h0, tests_bl h1, tests_bl h]; rfl
theorem one_other {k : ByteArray} (h0 : (k.toList == [120, 102, 120]) = false) (h1 : (k.toList == [120, 102, 121]) = false) (h2 : (k.toList == [121, 102, 120]) = false) (h : sideB (bl k) ≠ 0) : sideB (bl k) = 1 := by
  unfold sideB at h ⊢
  rw [tests_bl h0, tests_bl h1, tests_bl h2] at h ⊢
  simp only [if_neg (show ¬ (false = true) by decide)] at h ⊢
  split
  · rfl
  · split
    · rfl
    · rename_i h3 h4
      rw [if_neg h3, if_neg h4] at h
      exact absurd rfl h

/-- What stands while the law runs: the operator's box, the two tables'. -/
def Stand (W w1 w3 wx : World) (n k : ByteArray) (l : Int) (v v3 : Value) (xs ys : List O) : Prop :=
  (wx.cell? ⟨W.heap.size, 0, none⟩ = some (.string n) ∧ wx.cell? ⟨W.heap.size, 1, none⟩ = some (.string k) ∧ wx.cell? ⟨W.heap.size, 2, none⟩ = some (.int .i64 l) ∧
    wx.cell? ⟨w1.heap.size, 0, none⟩ = some v ∧ wx.cell? ⟨w3.heap.size, 0, none⟩ = some v3) ∧ Ops wx v xs ∧ Ops wx v3 ys ∧ Below W.heap.size W wx
theorem Stand.ext {W w1 w3 wx wq : World} {n k : ByteArray} {l : Int} {v v3 : Value} {xs ys : List O} (h : Stand W w1 w3 wx n k l v v3 xs ys) (hb : Below wx.heap.size wx wq) : Stand W w1 w3 wq n k l v v3 xs ys := by
  obtain ⟨⟨h0, h1, h2, h3, h4⟩, h5, h6, h7⟩ := h
  exact ⟨⟨cell_later hb h0, cell_later hb h1, cell_later hb h2, cell_later hb h3, cell_later hb h4⟩, h5.ext hb, h6.ext hb, Ext.trans' h7 hb⟩
theorem box_cells (w : World) (x : O) : (w.alloc (.cells #[.string x.n, .string x.k, .int .i64 x.l] 28)).cell? ⟨w.heap.size, 0, none⟩ = some (.string x.n) ∧ (w.alloc (.cells #[.string x.n, .string x.k, .int .i64 x.l] 28)).cell? ⟨w.heap.size, 1, none⟩ = some (.string x.k) ∧
    (w.alloc (.cells #[.string x.n, .string x.k, .int .i64 x.l] 28)).cell? ⟨w.heap.size, 2, none⟩ = some (.int .i64 x.l) := ⟨by simp, by simp, by simp⟩

set_option maxRecDepth 100000
set_option maxHeartbeats 2000000 in
theorem adds_walk {W : World} {v : Value} {xs : List O} (h : Ops W v xs) (o : O) (other : ByteArray) :
    Calls Try.prog 5 #[v, oVal o, .string other] W fun e w' => IsBool W true e w' := by
  obtain ⟨a, c, rfl, hl1, hl2⟩ := h.form
  unfold maxLen at hl2
  rcases o with ⟨n, k, l⟩
  have H := Lib.hid h
  clear h
  by_cases h120 : 120 < xs.length
  · go_enter Try.func5, Try.ntmps5
    (go_wp2_with fail; go_fit (awake_walk _); rintro e w1 ⟨rfl, hb1⟩)
    have HB1 := Lib.hid (Ext.trans' (bel1' _ _) hb1)
    clear hb1
    have ht : decide ((xs.length : Int) > 120) = true := by simp; omega
    go_wp2
    go_ret
    exact ⟨rfl, Ext.trans' HB1.out (bel1' _ _)⟩
  have ht : decide ((xs.length : Int) > 120) = false := by simp; omega
  obtain ⟨g, hg⟩ : ∃ g, goodB xs = g := ⟨_, rfl⟩
  have HGG := Lib.hid hg
  clear hg
  go_enter Try.func5, Try.ntmps5
  (go_wp2_with fail; go_fit (awake_walk _); rintro e w1 ⟨rfl, hb1⟩)
  have d0 : w1.cell? ⟨W.heap.size, 0, none⟩ = some (.string n) := cell_later hb1 (by simp)
  have d1 : w1.cell? ⟨W.heap.size, 1, none⟩ = some (.string k) := cell_later hb1 (by simp)
  have d2 : w1.cell? ⟨W.heap.size, 2, none⟩ = some (.int .i64 l) := cell_later hb1 (by simp)
  have HD := Lib.hid (And.intro d0 (And.intro d1 d2))
  have HB1 := Lib.hid (Ext.trans' (bel1' _ _) hb1)
  clear hb1 d0 d1 d2
  (go_wp2_with fail; go_fit (good_walk ((H.out.ext HB1.out).ext (bel1' _ _))); rintro e w2 ⟨rfl, hb2⟩)
  rw [HGG.out]
  have HB2 := Lib.hid (Below.trans (bel1' _ _) (hb2.mono (by simp)) : Below w1.heap.size w1 w2)
  have c7 : w2.cell? ⟨w1.heap.size, 0, none⟩ = some (.slice a xs.length c) := cell_later hb2 (by simp)
  clear hb2
  cases g
  · go_wp2
    go_ret
    exact ⟨rfl, Ext.trans' HB1.out HB2.out⟩
  have d0 : w2.cell? ⟨W.heap.size, 0, none⟩ = some (.string n) := cell_later HB2.out HD.out.1
  have d1 : w2.cell? ⟨W.heap.size, 1, none⟩ = some (.string k) := cell_later HB2.out HD.out.2.1
  have d2 : w2.cell? ⟨W.heap.size, 2, none⟩ = some (.int .i64 l) := cell_later HB2.out HD.out.2.2
  (go_wp2_with fail; go_fit (add_walk (H.out.ext (Ext.trans' HB1.out HB2.out)) ⟨n, k, l⟩); rintro e w3 ⟨v3, rfl, h3, hb3⟩)
  obtain ⟨a3, c3, rfl, hq1, hq2⟩ := h3.form
  unfold maxLen at hq2
  have HADD := Lib.hid (fun he => add_good (xs := xs) (o := ⟨n, k, l⟩) HGG.out (by omega) he)
  obtain ⟨E, hE⟩ : ∃ E, (addB xs ⟨n, k, l⟩).2 = E := ⟨_, rfl⟩
  rw [hE] at HADD ⊢
  obtain ⟨ys, hys⟩ : ∃ ys, (addB xs ⟨n, k, l⟩).1 = ys := ⟨_, rfl⟩
  rw [hys] at HADD h3 hq1 ⊢
  clear hE hys
  have HB3 := Lib.hid hb3
  have HY := Lib.hid h3
  clear hb3 h3
  cases hE0 : (E == 0)
  · go_wp2
    go_ret
    exact ⟨rfl, Ext.trans' (Ext.trans' (Ext.trans' HB1.out HB2.out) HB3.out) (bel1' _ _)⟩
  obtain rfl : E = 0 := by simpa using hE0
  obtain ⟨q1, q2, q3, q4⟩ := HADD.out rfl
  have HQ1 := Lib.hid q1; have HQ2 := Lib.hid q2; have HQ3 := Lib.hid q3; have HQ4 := Lib.hid q4
  have HC7 := Lib.hid c7
  clear HADD q1 q2 q3 q4 c7 d0 d1 d2
  have hst : Stand W w1 w3 (w3.alloc (.cells #[.slice a3 ys.length c3] 25)) n k l (.slice a xs.length c) (.slice a3 ys.length c3) xs ys := by
    have hb := Ext.trans' HB2.out HB3.out
    refine ⟨⟨cell_later (Ext.trans' hb (bel1' _ _)) HD.out.1, cell_later (Ext.trans' hb (bel1' _ _)) HD.out.2.1, cell_later (Ext.trans' hb (bel1' _ _)) HD.out.2.2, cell_later (Ext.trans' HB3.out (bel1' _ _)) HC7.out, by simp⟩,
      (H.out.ext (Ext.trans' HB1.out hb)).ext (bel1' _ _), HY.out.ext (bel1' _ _), Ext.trans' (Ext.trans' HB1.out hb) (bel1' _ _)⟩
  have HST := Lib.hid hst
  clear hst
  obtain ⟨⟨x, ok⟩, hr⟩ : ∃ r, oneB ys (bl n) (sideB (bl k)) = r := ⟨_, rfl⟩
  have HR := Lib.hid hr
  clear hr
  have hs12 : sideB (bl k) = 1 ∨ sideB (bl k) = 2 := by
    have := HQ3.out
    unfold sideB at this ⊢
    repeat' split
    all_goals first | exact Or.inl rfl | exact Or.inr rfl | skip
    all_goals simp_all
  have HS12 := Lib.hid hs12
  clear hs12
  obtain ⟨bt, hbt⟩ : ∃ b : Bool, (sideB (bl k) == 2) = b := ⟨_, rfl⟩
  have HBT := Lib.hid hbt
  clear hbt
  go_upto_region 9 with fail
  go_cut [10] from 43 to 55 (fun s wx => s = .bool bt ∧ Hid (wx = w3.alloc (.cells #[.slice a3 ys.length c3] 25)))
  case first =>
    have hb := HBT.out
    obtain ⟨w4, hw4⟩ : ∃ w4, w4 = w3.alloc (.cells #[.slice a3 ys.length c3] 25) := ⟨_, rfl⟩
    rw [← hw4] at HST ⊢
    have HW4 := Lib.hid hw4
    clear hw4
    obtain ⟨⟨c0, c1, c2, c3', c4⟩, _, _, _⟩ := HST.out
    cases h1 : (k.toList == [120, 102, 120])
    · cases h2 : (k.toList == [120, 102, 121])
      · cases h3 : (k.toList == [121, 102, 120])
        · rw [one_other h1 h2 h3 HQ3.out] at hb
          subst hb
          go_wp2
          go_meet
          exact ⟨rfl, HW4⟩
        · rw [two_yfx h1 h2 h3] at hb
          subst hb
          go_wp2
          go_meet
          exact ⟨rfl, HW4⟩
      · rw [two_xfy h1 h2] at hb
        subst hb
        go_wp2
        go_meet
        exact ⟨rfl, HW4⟩
    · rw [two_xfx h1] at hb
      subst hb
      go_wp2
      go_meet
      exact ⟨rfl, HW4⟩
  case rest =>
    obtain ⟨rfl, hw4⟩ := hcut
    rw [← hw4.out] at HST
    clear hw4
    have hpre := pre_walk HST.out.2.2.1 n
    have hin := fun (wq : World) (hq : Below wc.heap.size wc wq) => in_walk (HST.out.ext hq).2.2.1 n
    obtain ⟨⟨⟨xn, xk, xl⟩, ok1⟩, hx1⟩ : ∃ r, oneB ys (bl n) 1 = r := ⟨_, rfl⟩
    obtain ⟨⟨⟨yn, yk, yl⟩, ok2⟩, hx2⟩ : ∃ r, oneB ys (bl n) 2 = r := ⟨_, rfl⟩
    rw [hx1] at hpre
    rw [hx2] at hin
    have HX1 := Lib.hid hx1; have HX2 := Lib.hid hx2; have HPRE := Lib.hid hpre; have HIN := Lib.hid hin
    clear hx1 hx2 hpre hin
    obtain ⟨⟨c0, c1, c2, c3', c4⟩, _, _, _⟩ := HST.out
    (go_wp2_with fail; go_fit (HPRE.out); rintro e w5 ⟨rfl, hb5⟩)
    have HS5 := Lib.hid (HST.out.ext hb5)
    have HB5 := Lib.hid hb5
    clear hb5 c0 c1 c2 c3' c4
    obtain ⟨⟨c0, c1, c2, c3', c4⟩, _, _, _⟩ := HS5.out
    have c0' := fun o => Lib.cell?_alloc_some o c0
    have c1' := fun o => Lib.cell?_alloc_some o c1
    have c4' := fun o => Lib.cell?_alloc_some o c4
    (go_wp2_with fail; go_fit (HIN.out (w5.alloc (.cells #[.string xn, .string xk, .int .i64 xl] 28)) (Ext.trans' HB5.out (bel1' _ _))); rintro e w7 ⟨rfl, hb7⟩)
    have HB7 := Lib.hid (Ext.trans' (bel1' w5 (.cells #[.string xn, .string xk, .int .i64 xl] 28)) hb7)
    have f0 : w7.cell? ⟨w5.heap.size, 0, none⟩ = some (.string xn) := cell_later hb7 (by simp)
    have f1 : w7.cell? ⟨w5.heap.size, 1, none⟩ = some (.string xk) := cell_later hb7 (by simp)
    have f2 : w7.cell? ⟨w5.heap.size, 2, none⟩ = some (.int .i64 xl) := cell_later hb7 (by simp)
    have g0 : ∀ j, w7.frozen? ⟨w5.heap.size, j, none⟩ = false := fun j => (hb7.frozen (p := ⟨w5.heap.size, j, none⟩) (by simp)).trans (by simp)
    have hlt : w5.heap.size < w7.heap.size := by have := hb7.size; simp at this; omega
    have hne : ¬ w5.heap.size = w7.heap.size := by omega
    clear hb7 c0 c1 c2 c3' c4 c0' c1' c4'
    go_upto_if 70 with fail
    go_cut [12] from 70 to 72 (fun s wx => s = .bool ok ∧ Hid (Stand W w1 w3 wx n k l (.slice a xs.length c) (.slice a3 ys.length c3) xs ys ∧
      (wx.cell? ⟨w5.heap.size, 0, none⟩ = some (.string x.n) ∧ wx.cell? ⟨w5.heap.size, 1, none⟩ = some (.string x.k) ∧ wx.cell? ⟨w5.heap.size, 2, none⟩ = some (.int .i64 x.l))))
    case first =>
      have hr := HR.out
      cases bt
      · have h2 : sideB (bl k) = 1 := by
          rcases HS12.out with h | h
          · exact h
          · have := HBT.out; rw [h] at this; cases this
        rw [h2, HX1.out] at hr
        obtain ⟨rfl, rfl⟩ := Prod.mk.inj hr
        clear hr HR h2
        go_wp2
        go_meet
        exact ⟨rfl, Lib.hid ⟨(HS5.out.ext HB7.out).ext (bel1' _ _), Lib.cell?_alloc_some _ f0, Lib.cell?_alloc_some _ f1, Lib.cell?_alloc_some _ f2⟩⟩
      · have h2 : sideB (bl k) = 2 := by simpa using HBT.out
        rw [h2, HX2.out] at hr
        obtain ⟨rfl, rfl⟩ := Prod.mk.inj hr
        clear hr HR h2
        go_wp2
        go_meet
        have hbe : Below w5.heap.size w5 ((((w7.setCell ⟨w5.heap.size, 0, none⟩ (.string yn)).setCell ⟨w5.heap.size, 1, none⟩ (.string yk)).setCell ⟨w5.heap.size, 2, none⟩ (.int .i64 yl)).alloc (.cells #[.string yn, .string yk, .int .i64 yl] 28)) :=
          (((HB7.out.setCell (Nat.le_refl _) _).setCell (Nat.le_refl _) _).setCell (Nat.le_refl _) _).alloc (by simp [World.setCell]; omega) _
        have hce : ∀ (j : Nat) (u : Value), (((w7.setCell ⟨w5.heap.size, 0, none⟩ (.string yn)).setCell ⟨w5.heap.size, 1, none⟩ (.string yk)).setCell ⟨w5.heap.size, 2, none⟩ (.int .i64 yl)).cell? ⟨w5.heap.size, j, none⟩ = some u →
            ((((w7.setCell ⟨w5.heap.size, 0, none⟩ (.string yn)).setCell ⟨w5.heap.size, 1, none⟩ (.string yk)).setCell ⟨w5.heap.size, 2, none⟩ (.int .i64 yl)).alloc (.cells #[.string yn, .string yk, .int .i64 yl] 28)).cell? ⟨w5.heap.size, j, none⟩ = some u := fun j u hu => Lib.cell?_alloc_some _ hu
        refine ⟨rfl, Lib.hid ⟨HS5.out.ext hbe, hce 0 _ ?_, hce 1 _ ?_, hce 2 _ ?_⟩⟩
        · go_simp
        · go_simp
        · go_simp
    case rest =>
      obtain ⟨rfl, HT⟩ := hcut
      clear HB7 HB5 HIN HPRE f0 f1 f2 g0 hlt hne HS5 HST
      obtain ⟨⟨c0, c1, c2, c3', c4⟩, _, _, _⟩ := HT.out.1
      obtain ⟨f0, f1, f2⟩ := HT.out.2
      have HG8 := Lib.hid (good_walk HT.out.1.2.2.1)
      go_upto_region 14 with fail
      go_cut [90] from 73 to 89 (fun s wx => s = .bool false ∧ Hid (Stand W w1 w3 wx n k l (.slice a xs.length c) (.slice a3 ys.length c3) xs ys))
      case first =>
        rcases HQ4.out with ⟨h0, hno⟩ | ⟨hpos, hmem⟩
        · have hr := HR.out
          rw [one_none hno] at hr
          obtain ⟨rfl, rfl⟩ := Prod.mk.inj hr
          clear hr HR
          subst h0
          (go_wp2_with fail; go_fit (HG8.out); rintro e w9 ⟨rfl, hb9⟩)
          rw [HQ1.out]
          have HS9 := Lib.hid (HT.out.1.ext hb9)
          clear hb9
          go_wp2
          go_meet
          exact ⟨rfl, HS9⟩
        · have hr := HR.out
          rw [one_mem HQ1.out hmem rfl] at hr
          obtain ⟨rfl, rfl⟩ := Prod.mk.inj hr
          clear hr HR
          have hl : decide (l > 0) = true := by simpa using hpos
          have heq : ∀ wq, (Op.equalIn 10000 28 (.agg #[.string n, .string k, .int .i64 l]) (.agg #[.string n, .string k, .int .i64 l])).run Try.prog wq = .ok true wq := fun wq => by rw [eq_op]; simp
          simp only at f0 f1 f2
          (go_wp2_with fail; go_fit (HG8.out); rintro e w9 ⟨rfl, hb9⟩)
          rw [HQ1.out]
          have HS9 := Lib.hid (HT.out.1.ext hb9)
          clear hb9
          go_wp2
          go_meet
          exact ⟨rfl, HS9⟩
      case rest =>
        obtain ⟨rfl, HU⟩ := hcut
        clear HG8 HT c0 c1 c2 c3' c4 f0 f1 f2
        obtain ⟨⟨c0, c1, c2, c3', c4⟩, _, _, _⟩ := HU.out
        cases hb : (other.toList == n.toList)
        · have hnb : bl other ≠ bl n := fun e => by
            have h1 : (bl other == bl n) = false := by rw [Lib.toList_data, Lib.toList_data] at hb; exact hb
            rw [e] at h1
            simp at h1
          have e1 : oneB ys (bl other) 1 = oneB xs (bl other) 1 := (one_same HGG.out HQ1.out HQ2.out (fun e => hnb (congrArg Prod.fst e))).symm
          have e2 : oneB ys (bl other) 2 = oneB xs (bl other) 2 := (one_same HGG.out HQ1.out HQ2.out (fun e => hnb (congrArg Prod.fst e))).symm
          have hpx := fun (wq : World) (hq : Stand W w1 w3 wq n k l (.slice a xs.length c) (.slice a3 ys.length c3) xs ys) => pre_walk hq.2.1 other
          have hpy := fun (wq : World) (hq : Stand W w1 w3 wq n k l (.slice a xs.length c) (.slice a3 ys.length c3) xs ys) => pre_walk hq.2.2.1 other
          have hix := fun (wq : World) (hq : Stand W w1 w3 wq n k l (.slice a xs.length c) (.slice a3 ys.length c3) xs ys) => in_walk hq.2.1 other
          have hiy := fun (wq : World) (hq : Stand W w1 w3 wq n k l (.slice a xs.length c) (.slice a3 ys.length c3) xs ys) => in_walk hq.2.2.1 other
          rw [e1] at hpy
          rw [e2] at hiy
          obtain ⟨⟨⟨pn, pk, pl⟩, b1⟩, hp⟩ : ∃ r, oneB xs (bl other) 1 = r := ⟨_, rfl⟩
          obtain ⟨⟨⟨rn, rk, rl⟩, b2⟩, hr⟩ : ∃ r, oneB xs (bl other) 2 = r := ⟨_, rfl⟩
          rw [hp] at hpx hpy
          rw [hr] at hix hiy
          have HPX := Lib.hid hpx; have HPY := Lib.hid hpy; have HIX := Lib.hid hix; have HIY := Lib.hid hiy
          clear hpx hpy hix hiy hp hr e1 e2 hnb
          have heqp : ∀ wq, (Op.equalIn 10000 28 (.agg #[.string pn, .string pk, .int .i64 pl]) (.agg #[.string pn, .string pk, .int .i64 pl])).run Try.prog wq = .ok true wq := fun wq => by rw [eq_op]; simp
          have heqr : ∀ wq, (Op.equalIn 10000 28 (.agg #[.string rn, .string rk, .int .i64 rl]) (.agg #[.string rn, .string rk, .int .i64 rl])).run Try.prog wq = .ok true wq := fun wq => by rw [eq_op]; simp
          have hbb1 : (b1 == b1) = true := by simp
          have hbb2 : (b2 == b2) = true := by simp
          (go_wp2_with fail; go_fit (HPX.out _ HU.out); rintro e w10 ⟨rfl, hb10⟩)
          have HS10 := Lib.hid (HU.out.ext hb10)
          clear hb10 c0 c1 c2 c3' c4
          obtain ⟨⟨c0, c1, c2, c3', c4⟩, _, _, _⟩ := HS10.out
          have c3'' := fun o => Lib.cell?_alloc_some o c3'
          have c4'' := fun o => Lib.cell?_alloc_some o c4
          (go_wp2_with fail; go_fit (HPY.out (w10.alloc (.cells #[.string pn, .string pk, .int .i64 pl] 28)) (HS10.out.ext (bel1' _ _))); rintro e w11 ⟨rfl, hb11⟩)
          have HS11 := Lib.hid ((HS10.out.ext (bel1' _ _)).ext hb11)
          have HX10 : Hid (w11.cell? ⟨w10.heap.size, 0, none⟩ = some (.string pn) ∧ w11.cell? ⟨w10.heap.size, 1, none⟩ = some (.string pk) ∧ w11.cell? ⟨w10.heap.size, 2, none⟩ = some (.int .i64 pl)) :=
            Lib.hid ⟨cell_later hb11 (by simp), cell_later hb11 (by simp), cell_later hb11 (by simp)⟩
          have HB11 := Lib.hid (Ext.trans' (bel1' w10 (.cells #[.string pn, .string pk, .int .i64 pl] 28)) hb11)
          clear hb11 c0 c1 c2 c3' c4 c3'' c4''
          obtain ⟨⟨c0, c1, c2, c3', c4⟩, _, _, _⟩ := HS11.out
          have c3'' := fun o => Lib.cell?_alloc_some o c3'
          have c4'' := fun o => Lib.cell?_alloc_some o c4
          (go_wp2_with fail; go_fit (HIX.out (w11.alloc (.cells #[.string pn, .string pk, .int .i64 pl] 28)) (HS11.out.ext (bel1' _ _))); rintro e w12 ⟨rfl, hb12⟩)
          have HS12 := Lib.hid ((HS11.out.ext (bel1' _ _)).ext hb12)
          have HX11 : Hid (w12.cell? ⟨w11.heap.size, 0, none⟩ = some (.string pn) ∧ w12.cell? ⟨w11.heap.size, 1, none⟩ = some (.string pk) ∧ w12.cell? ⟨w11.heap.size, 2, none⟩ = some (.int .i64 pl)) :=
            Lib.hid ⟨cell_later hb12 (by simp), cell_later hb12 (by simp), cell_later hb12 (by simp)⟩
          have HB12 := Lib.hid (Ext.trans' (bel1' w11 (.cells #[.string pn, .string pk, .int .i64 pl] 28)) hb12)
          clear hb12 c0 c1 c2 c3' c4 c3'' c4''
          obtain ⟨⟨c0, c1, c2, c3', c4⟩, _, _, _⟩ := HS12.out
          have c3'' := fun o => Lib.cell?_alloc_some o c3'
          have c4'' := fun o => Lib.cell?_alloc_some o c4
          (go_wp2_with fail; go_fit (HIY.out (w12.alloc (.cells #[.string rn, .string rk, .int .i64 rl] 28)) (HS12.out.ext (bel1' _ _))); rintro e w13 ⟨rfl, hb13⟩)
          have HS13 := Lib.hid ((HS12.out.ext (bel1' _ _)).ext hb13)
          have HX12 : Hid (w13.cell? ⟨w12.heap.size, 0, none⟩ = some (.string rn) ∧ w13.cell? ⟨w12.heap.size, 1, none⟩ = some (.string rk) ∧ w13.cell? ⟨w12.heap.size, 2, none⟩ = some (.int .i64 rl)) :=
            Lib.hid ⟨cell_later hb13 (by simp), cell_later hb13 (by simp), cell_later hb13 (by simp)⟩
          have HB13 := Lib.hid (Ext.trans' (bel1' w12 (.cells #[.string rn, .string rk, .int .i64 rl] 28)) hb13)
          clear hb13 c0 c1 c2 c3' c4 c3'' c4''
          have g100 := fun o => Lib.cell?_alloc_some o (cell_later HB13.out (cell_later HB12.out HX10.out.1))
          have g101 := fun o => Lib.cell?_alloc_some o (cell_later HB13.out (cell_later HB12.out HX10.out.2.1))
          have g102 := fun o => Lib.cell?_alloc_some o (cell_later HB13.out (cell_later HB12.out HX10.out.2.2))
          have g110 := fun o => Lib.cell?_alloc_some o (cell_later HB13.out HX11.out.1)
          have g111 := fun o => Lib.cell?_alloc_some o (cell_later HB13.out HX11.out.2.1)
          have g112 := fun o => Lib.cell?_alloc_some o (cell_later HB13.out HX11.out.2.2)
          have g120 := fun o => Lib.cell?_alloc_some o HX12.out.1
          have g121 := fun o => Lib.cell?_alloc_some o HX12.out.2.1
          have g122 := fun o => Lib.cell?_alloc_some o HX12.out.2.2
          go_wp2
          go_ret
          exact ⟨rfl, Ext.trans' HS13.out.2.2.2 (bel1' _ _)⟩
        · go_wp2
          go_ret
          exact ⟨rfl, HU.out.2.2.2⟩
end Go.Proofs.Ythalpdjnclfleaa
