/- OpSides: what stands beside an operator of a good table is of its level at most, on one side at most of just it; and the table finds it. No condition. -/
import Derived.Test.YthalpdjnclfleaaOpI
import Derived.Test.YthalpdjnclfleaaOpJ
import Derived.Test.YthalpdjnclfleaaOpM
import Derived.Test.YthalpdjnclfleaaRows
namespace Go.Proofs.Ythalpdjnclfleaa
open Go.Shelf Go.RowKit

theorem may_level {n k : List UInt8} {l : Int} (h : mayB n k l = true) : (1 ≤ l ∧ l ≤ 1200) ∧ sideB k ≠ 0 := by
  unfold mayB at h
  split at h
  · simp at h
    obtain ⟨rfl, rfl⟩ := h
    exact ⟨by omega, by decide⟩
  · split at h
    · cases h
    · split at h
      · cases h
      · split at h
        · cases h
        · split at h
          · cases h
          · simp at h
            exact ⟨⟨h.1.2, h.2⟩, h.1.1.2⟩
theorem side_two (k : List UInt8) (h : sideB k ≠ 0) : sideB k = 1 ∨ sideB k = 2 := by
  unfold sideB at h ⊢
  repeat' split
  all_goals first | exact Or.inl rfl | exact Or.inr rfl | skip
  all_goals simp_all
/-- The sides of a level in bounds. -/
theorem sides_in (k : List UInt8) (l : Int) (h : 1 ≤ l ∧ l ≤ 1200) :
    ¬ (sidesB k l).1 > l ∧ ¬ (sidesB k l).2 > l ∧ ¬ ((sidesB k l).1 = l ∧ (sidesB k l).2 = l) ∧ ¬ (sidesB k l).1 < 0 ∧ ¬ (sidesB k l).2 < 0 := by
  have hw : wrap64 (l - 1) = l - 1 := IntWalk.wrap64_in _ (by omega)
  unfold sidesB
  rw [hw]
  repeat' split
  all_goals (simp only; omega)

set_option maxRecDepth 100000
set_option maxHeartbeats 1000000 in
theorem opsides_walk {W : World} {v : Value} {xs : List O} (h : Ops W v xs) :
    Calls Try.prog 6 #[v] W fun e w' => IsBool W true e w' := by
  obtain ⟨a, c, rfl, hl1, hl2⟩ := h.form
  unfold maxLen at hl2
  have H := Lib.hid h
  clear h
  by_cases h100 : 100 < xs.length
  · go_enter Try.func6, Try.ntmps6
    (go_wp2_with fail; go_fit (awake_walk _); rintro e w1 ⟨rfl, hb1⟩)
    have ht : decide ((xs.length : Int) > 100) = true := by simp; omega
    go_wp2
    go_ret
    exact ⟨rfl, hb1⟩
  have ht : decide ((xs.length : Int) > 100) = false := by simp; omega
  obtain ⟨g, hg⟩ : ∃ g, goodB xs = g := ⟨_, rfl⟩
  have HGG := Lib.hid hg
  clear hg
  go_enter Try.func6, Try.ntmps6
  (go_wp2_with fail; go_fit (awake_walk _); rintro e w1 ⟨rfl, hb1⟩)
  have HB1 := Lib.hid hb1
  clear hb1
  (go_wp2_with fail; go_fit (good_walk (H.out.ext HB1.out)); rintro e w2 ⟨rfl, hb2⟩)
  rw [HGG.out]
  have HB2 := Lib.hid (Ext.trans' HB1.out hb2)
  clear hb2
  cases g
  · go_wp2
    go_ret
    exact ⟨rfl, HB2.out⟩
  go_wp2_with fail
  go_loopw [3] (fun i wr => ∃ k : Nat, k ≤ xs.length ∧ i = .int .i64 k ∧ Hid (Below W.heap.size W wr)) (fun i _ => xs.length - (intOf i).toNat)
  case atStart => exact ⟨0, by omega, rfl, HB2⟩
  case round =>
    obtain ⟨k, hk, rfl, HB⟩ := hrel
    by_cases hlt : k < xs.length
    · obtain ⟨x, hx⟩ : ∃ x, xs[k]? = some x := ⟨_, List.getElem?_eq_getElem hlt⟩
      obtain ⟨b, off, rfl, hbs, _⟩ := H.out.cells hx
      have HDC := Lib.hid (fun (wq : World) (hb : Below W.heap.size W wq) => (show wq.cell? ⟨b, off + k * 3, none⟩ = some (.string x.n) ∧ wq.cell? ⟨b, off + k * 3 + 1, none⟩ = some (.string x.k) ∧ wq.cell? ⟨b, off + k * 3 + 2, none⟩ = some (.int .i64 x.l) from by
        obtain ⟨b', off', e, _, h⟩ := (H.out.ext hb).cells hx
        cases e
        exact h))
      have hxm : x ∈ xs := List.mem_of_getElem? hx
      obtain ⟨hlev, hsd⟩ := may_level (((good_iff xs).1 HGG.out).2.1 x hxm)
      have hone := fun (s : Int) (hs : sideB (bl x.k) = s) => one_mem HGG.out hxm (n := bl x.n) (s := s) (by unfold key; rw [hs])
      have hsi := sides_in (bl x.k) x.l hlev
      have h12 := side_two _ hsd
      rcases x with ⟨xn, xk, xl⟩
      have hsw := fun (wq : World) => sides_walk xn xk xl wq
      have hpw := fun (wq : World) (hb : Below W.heap.size W wq) => pre_walk (H.out.ext hb) xn
      have hiw := fun (wq : World) (hb : Below W.heap.size W wq) => in_walk (H.out.ext hb) xn
      simp only at HDC hlev hone hsi h12
      obtain ⟨sa, hsa⟩ : ∃ z, (sidesB (bl xk) xl).1 = z := ⟨_, rfl⟩
      obtain ⟨sb, hsb⟩ : ∃ z, (sidesB (bl xk) xl).2 = z := ⟨_, rfl⟩
      rw [hsa, hsb] at hsw hsi
      obtain ⟨i1, i2, i3, i4, i5⟩ := hsi
      have t1 : decide (sa > xl) = false := by simpa using i1
      have t2 : decide (sb > xl) = false := by simpa using i2
      have t4 : decide (sa < 0) = false := by simpa using i4
      have t5 : decide (sb < 0) = false := by simpa using i5
      obtain ⟨⟨⟨pn, pk, pl⟩, b1⟩, hp⟩ : ∃ r, oneB xs (bl xn) 1 = r := ⟨_, rfl⟩
      obtain ⟨⟨⟨rn, rk, rl⟩, b2⟩, hr⟩ : ∃ r, oneB xs (bl xn) 2 = r := ⟨_, rfl⟩
      rw [hp] at hpw
      rw [hr] at hiw
      have HSW := Lib.hid hsw; have HPW := Lib.hid hpw; have HIW := Lib.hid hiw
      have HI3 := Lib.hid i3
      have HOR : Hid ((b1 = true ∧ pn = xn ∧ pk = xk ∧ pl = xl) ∨ (b2 = true ∧ rn = xn ∧ rk = xk ∧ rl = xl)) := Lib.hid (by
        rcases h12 with h | h
        · have := hone 1 h
          rw [hp] at this
          simp at this
          exact Or.inl ⟨this.2, this.1⟩
        · have := hone 2 h
          rw [hr] at this
          simp at this
          exact Or.inr ⟨this.2, this.1⟩)
      clear hsw hpw hiw i1 i2 i3 i4 i5 hsa hsb hp hr hone h12 hsd hlev hx hxm
      obtain ⟨d0, d1, d2⟩ := HDC.out wr HB.out
      have hkk : (k : Int) < xs.length := by omega
      (go_wp2_with fail; go_fit (HSW.out _); rintro e w3 ⟨rfl, hb3⟩)
      have HB3 := Lib.hid (Ext.trans' HB.out hb3)
      clear hb3 d0 d1 d2
      obtain ⟨d0, d1, d2⟩ := HDC.out w3 HB3.out
      (go_wp2_with fail; go_fit (HPW.out w3 HB3.out); rintro e w4 ⟨rfl, hb4⟩)
      have HB4 := Lib.hid (Ext.trans' HB3.out hb4)
      clear hb4 d0 d1 d2
      obtain ⟨d0', d1', d2'⟩ := HDC.out w4 HB4.out
      have d0 := fun o => Lib.cell?_alloc_some o d0'
      (go_wp2_with fail; go_fit (HIW.out (w4.alloc (.cells #[.string pn, .string pk, .int .i64 pl] 28)) (Ext.trans' HB4.out (bel1' _ _))); rintro e w5 ⟨rfl, hb5⟩)
      have HB5 := Lib.hid (Ext.trans' (Ext.trans' HB4.out (bel1' _ _)) hb5)
      have p0' := fun o => Lib.cell?_alloc_some o (show w5.cell? ⟨w4.heap.size, 0, none⟩ = some (.string pn) from cell_later hb5 (by simp))
      have p1' := fun o => Lib.cell?_alloc_some o (show w5.cell? ⟨w4.heap.size, 1, none⟩ = some (.string pk) from cell_later hb5 (by simp))
      have p2' := fun o => Lib.cell?_alloc_some o (show w5.cell? ⟨w4.heap.size, 2, none⟩ = some (.int .i64 pl) from cell_later hb5 (by simp))
      clear hb5 d0 d0' d1' d2'
      obtain ⟨e0, e1, e2⟩ := HDC.out w5 HB5.out
      go_wp2_with fail
      obtain ⟨w6, hw6⟩ : ∃ w6, w6 = w5.alloc (.cells #[.string rn, .string rk, .int .i64 rl] 28) := ⟨_, rfl⟩
      rw [← hw6]
      have d0 : w6.cell? ⟨b, off + k * 3, none⟩ = some (.string xn) := by rw [hw6]; exact Lib.cell?_alloc_some _ e0
      have d1 : w6.cell? ⟨b, off + k * 3 + 1, none⟩ = some (.string xk) := by rw [hw6]; exact Lib.cell?_alloc_some _ e1
      have d2 : w6.cell? ⟨b, off + k * 3 + 2, none⟩ = some (.int .i64 xl) := by rw [hw6]; exact Lib.cell?_alloc_some _ e2
      have p0 : w6.cell? ⟨w4.heap.size, 0, none⟩ = some (.string pn) := by rw [hw6]; exact p0' _
      have p1 : w6.cell? ⟨w4.heap.size, 1, none⟩ = some (.string pk) := by rw [hw6]; exact p1' _
      have p2 : w6.cell? ⟨w4.heap.size, 2, none⟩ = some (.int .i64 pl) := by rw [hw6]; exact p2' _
      have r0 : w6.cell? ⟨w5.heap.size, 0, none⟩ = some (.string rn) := by rw [hw6]; simp
      have r1 : w6.cell? ⟨w5.heap.size, 1, none⟩ = some (.string rk) := by rw [hw6]; simp
      have r2 : w6.cell? ⟨w5.heap.size, 2, none⟩ = some (.int .i64 rl) := by rw [hw6]; simp
      have HB6 : Hid (Below W.heap.size W w6) := Lib.hid (by rw [hw6]; exact Ext.trans' HB5.out (bel1' _ _))
      clear e0 e1 e2 hw6 p0' p1' p2'
      obtain ⟨q1, hq1⟩ : ∃ q, ((pn.toList == xn.toList) && ((pk.toList == xk.toList) && (pl == xl))) = q := ⟨_, rfl⟩
      obtain ⟨q2, hq2⟩ : ∃ q, ((rn.toList == xn.toList) && ((rk.toList == xk.toList) && (rl == xl))) = q := ⟨_, rfl⟩
      have heq1 : ∀ wq, (Op.equalIn 10000 28 (.agg #[.string pn, .string pk, .int .i64 pl]) (.agg #[.string xn, .string xk, .int .i64 xl])).run Try.prog wq = .ok q1 wq := fun wq => by rw [eq_op, hq1]
      have heq2 : ∀ wq, (Op.equalIn 10000 28 (.agg #[.string rn, .string rk, .int .i64 rl]) (.agg #[.string xn, .string xk, .int .i64 xl])).run Try.prog wq = .ok q2 wq := fun wq => by rw [eq_op, hq2]
      have HQ : Hid ((b1 = true ∧ q1 = true) ∨ (b2 = true ∧ q2 = true)) := Lib.hid (by
        rcases HOR.out with ⟨h1, rfl, rfl, rfl⟩ | ⟨h1, rfl, rfl, rfl⟩
        · exact Or.inl ⟨h1, by rw [← hq1]; simp⟩
        · exact Or.inr ⟨h1, by rw [← hq2]; simp⟩)
      clear hq1 hq2 HOR
      cases h3 : (sa == xl)
      · rcases HQ.out with ⟨rfl, rfl⟩ | ⟨rfl, rfl⟩
        · simp only [List.append_eq, List.cons_append, List.nil_append]
          go_big_quiet (fail)
          go_wp2
          go_roundw
          case rel => exact ⟨k + 1, by omega, by go_num, Lib.hid (bel_drewN HB6.out _)⟩
          case measure => simp [intOf]; omega
        · cases b1
          · simp only [List.append_eq, List.cons_append, List.nil_append]
            go_big_quiet (fail)
            go_wp2
            go_roundw
            case rel => exact ⟨k + 1, by omega, by go_num, Lib.hid (bel_drewN HB6.out _)⟩
            case measure => simp [intOf]; omega
          · cases q1
            · simp only [List.append_eq, List.cons_append, List.nil_append]
              go_big_quiet (fail)
              go_wp2
              go_roundw
              case rel => exact ⟨k + 1, by omega, by go_num, Lib.hid (bel_drewN HB6.out _)⟩
              case measure => simp [intOf]; omega
            · simp only [List.append_eq, List.cons_append, List.nil_append]
              go_big_quiet (fail)
              go_wp2
              go_roundw
              case rel => exact ⟨k + 1, by omega, by go_num, Lib.hid (bel_drewN HB6.out _)⟩
              case measure => simp [intOf]; omega
      · have h4 : (sb == xl) = false := by
          have h5 : sa = xl := by simpa using h3
          rw [Bool.eq_false_iff]
          intro h6
          exact HI3.out ⟨h5, by simpa using h6⟩
        rcases HQ.out with ⟨rfl, rfl⟩ | ⟨rfl, rfl⟩
        · simp only [List.append_eq, List.cons_append, List.nil_append]
          go_big_quiet (fail)
          go_wp2
          go_roundw
          case rel => exact ⟨k + 1, by omega, by go_num, Lib.hid (bel_drewN HB6.out _)⟩
          case measure => simp [intOf]; omega
        · cases b1
          · simp only [List.append_eq, List.cons_append, List.nil_append]
            go_big_quiet (fail)
            go_wp2
            go_roundw
            case rel => exact ⟨k + 1, by omega, by go_num, Lib.hid (bel_drewN HB6.out _)⟩
            case measure => simp [intOf]; omega
          · cases q1
            · simp only [List.append_eq, List.cons_append, List.nil_append]
              go_big_quiet (fail)
              go_wp2
              go_roundw
              case rel => exact ⟨k + 1, by omega, by go_num, Lib.hid (bel_drewN HB6.out _)⟩
              case measure => simp [intOf]; omega
            · simp only [List.append_eq, List.cons_append, List.nil_append]
              go_big_quiet (fail)
              go_wp2
              go_roundw
              case rel => exact ⟨k + 1, by omega, by go_num, Lib.hid (bel_drewN HB6.out _)⟩
              case measure => simp [intOf]; omega
    · have hkk : ¬ (k : Int) < xs.length := by omega
      go_wp2
      go_ret
      exact ⟨rfl, HB.out⟩
end Go.Proofs.Ythalpdjnclfleaa
