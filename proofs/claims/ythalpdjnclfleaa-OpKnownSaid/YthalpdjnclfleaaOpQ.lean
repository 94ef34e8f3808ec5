/- The document's own: good tables, the sides, the table as its own. -/
import Derived.Test.YthalpdjnclfleaaOpP
namespace Go.Proofs.Ythalpdjnclfleaa
open Go.Shelf Go.RowKit

theorem may_level' {n k : List UInt8} {l : Int} (h : mayB n k l = true) : (1 ≤ l ∧ l ≤ 1200) ∧ sideB k ≠ 0 := by
  unfold mayB at h
  split at h
  · simp at h
    obtain ⟨rfl, rfl⟩ := h
    exact ⟨by omega, by decide⟩
  · split at h
    · cases h
    · split at h
      · cases h
      · split at h
        · cases h
        · split at h
          · cases h
          · simp at h
            exact ⟨⟨h.1.2, h.2⟩, h.1.1.2⟩
theorem side_two' (k : List UInt8) (h : sideB k ≠ 0) : sideB k = 1 ∨ sideB k = 2 := by
  unfold sideB at h ⊢
  repeat' split
  all_goals first | exact Or.inl rfl | exact Or.inr rfl | skip
  all_goals simp_all
/-- No key yet is that one. -/
def NoKey (xs : List O) (m : Nat) (K : List UInt8 × Int) : Prop := ∀ (j : Nat) (y : O), j < m → xs[j]? = some y → key y ≠ K
theorem NoKey.next {xs : List O} {m : Nat} {K : List UInt8 × Int} (h : NoKey xs m K) {x : O} (hx : xs[m]? = some x) (hn : key x ≠ K) : NoKey xs (m + 1) K := fun j y hj hy => by
  rcases Nat.lt_succ_iff_lt_or_eq.1 hj with h' | rfl
  · exact h j y h' hy
  · rw [hx] at hy
    cases hy
    exact hn
def AllOk (xs : List O) (k : Nat) : Prop := ∀ (j : Nat) (x : O), j < k → xs[j]? = some x → okB (xs.take j) x = true
theorem AllOk.next {xs : List O} {k : Nat} (h : AllOk xs k) {x : O} (hx : xs[k]? = some x) (hn : okB (xs.take k) x = true) : AllOk xs (k + 1) := fun j y hj hy => by
  rcases Nat.lt_succ_iff_lt_or_eq.1 hj with h' | rfl
  · exact h j y h' hy
  · rw [hx] at hy
    cases hy
    exact hn
theorem ok_iff (pre : List O) (x : O) : okB pre x = true ↔ mayO x = true ∧ ∀ y ∈ pre, key y ≠ key x := by
  unfold okB
  rw [Bool.and_eq_true, decide_eq_true_eq, place_neg]
  rfl
theorem key_bet {x y : O} (hx : sideB (bl x.k) ≠ 0) (hy : sideB (bl y.k) ≠ 0) : key x = key y ↔ (bl x.n == bl y.n) = true ∧ (betB (bl x.k) == betB (bl y.k)) = true := by
  unfold key
  rw [Prod.mk.injEq, bet_side, bet_side, beq_iff_eq]
  refine and_congr_right fun _ => ?_
  rcases side_two' _ hx with h1 | h1 <;> rcases side_two' _ hy with h2 | h2 <;> rw [h1, h2] <;> simp

set_option maxRecDepth 100000
set_option maxHeartbeats 1000000 in
theorem goodOps_walk {w : World} {v : Value} {xs : List O} (h : Ops w v xs) :
    Calls Try.prog 17 #[v] w fun e w' => e = .returned (.bool (goodB xs)) ∧ Below w.heap.size w w' := by
  obtain ⟨a, c, rfl, hl1, hl2⟩ := h.form
  unfold maxLen at hl2
  have H := Lib.hid h
  clear h
  obtain ⟨r, hr⟩ : ∃ r, goodB xs = r := ⟨_, rfl⟩
  have HR := Lib.hid hr
  rw [hr]
  clear hr
  go_enter Try.func17, Try.ntmps17
  go_wp2_with fail
  go_loopw [3] (fun i wr => ∃ k : Nat, k ≤ xs.length ∧ i = .int .i64 k ∧ Hid (AllOk xs k ∧ Below w.heap.size w wr)) (fun i _ => xs.length - (intOf i).toNat)
  case atStart => exact ⟨0, by omega, rfl, Lib.hid ⟨fun j x hj => by omega, Below.refl _ _⟩⟩
  case round =>
    obtain ⟨k, hk, rfl, HB⟩ := hrel
    by_cases hlt : k < xs.length
    · obtain ⟨x, hx⟩ : ∃ x, xs[k]? = some x := ⟨_, List.getElem?_eq_getElem hlt⟩
      obtain ⟨b, off, rfl, hbs, _⟩ := H.out.cells hx
      have HDC := Lib.hid (fun (wq : World) (hb : Below w.heap.size w wq) (j : Nat) (y : O) (hy : xs[j]? = some y) => (show wq.cell? ⟨b, off + j * 3, none⟩ = some (.string y.n) ∧ wq.cell? ⟨b, off + j * 3 + 1, none⟩ = some (.string y.k) ∧ wq.cell? ⟨b, off + j * 3 + 2, none⟩ = some (.int .i64 y.l) from by
        obtain ⟨b', off', e, _, h⟩ := (H.out.ext hb).cells hy
        cases e
        exact h))
      obtain ⟨d0, d1, d2⟩ := HDC.out wr HB.out.2 k x hx
      have HX := Lib.hid hx
      clear hx
      have hmay := goodOp_walk x.n x.k x.l
      have HO : Hid (mayO x = mayB (bl x.n) (bl x.k) x.l) := Lib.hid rfl
      obtain ⟨q, hq⟩ : ∃ q, mayB (bl x.n) (bl x.k) x.l = q := ⟨_, rfl⟩
      rw [hq] at hmay HO
      have HM := Lib.hid hmay
      have HQ := Lib.hid hq
      clear hmay hq
      have hbx := between_walk x.k
      have HKB : Hid (∀ y : O, sideB (bl y.k) ≠ 0 → sideB (bl x.k) ≠ 0 → (key y = key x ↔ (bl y.n == bl x.n) = true ∧ (betB (bl y.k) == betB (bl x.k)) = true)) := Lib.hid (fun y h1 h2 => key_bet h1 h2)
      obtain ⟨p, hp⟩ : ∃ p, betB (bl x.k) = p := ⟨_, rfl⟩
      rw [hp] at hbx HKB
      have HBX := Lib.hid hbx
      clear hbx hp
      rcases x with ⟨xn, xk, xl⟩
      simp only at d0 d1 d2
      obtain ⟨K, hK⟩ : ∃ K, key ⟨xn, xk, xl⟩ = K := ⟨_, rfl⟩
      have HK := Lib.hid hK
      rw [hK] at HKB
      clear hK
      have hkk : (k : Int) < xs.length := by omega
      (go_wp2_with fail; go_fit (HM.out _); rintro e w3 ⟨rfl, hb3⟩)
      have HB3 := Lib.hid (Ext.trans' HB.out.2 hb3)
      clear hb3 d0 d1 d2
      cases q
      · have HNO : Hid (r = false) := Lib.hid (by
          rw [← HR.out]
          refine good_no HX.out ?_
          cases ho : okB (xs.take k) ⟨xn, xk, xl⟩
          · rfl
          · have := ((ok_iff _ _).1 ho).1; rw [HO.out] at this; cases this)
        go_wp2
        go_ret
        exact ⟨ret_bool HNO.out.symm, HB3.out⟩
      · have HSX : Hid (sideB (bl xk) ≠ 0) := Lib.hid (may_level' HQ.out).2
        go_wp2_with fail
        go_loopw [4] (fun i wr => ∃ m : Nat, m ≤ k ∧ i = .int .i64 m ∧ Hid (NoKey xs m K ∧ Below w.heap.size w wr)) (fun i _ => k - (intOf i).toNat)
        case atStart => exact ⟨0, by omega, rfl, Lib.hid ⟨fun j y hj => by omega, HB3.out⟩⟩
        case round =>
          obtain ⟨m, hm, rfl, HI⟩ := hrel
          by_cases hml : m < k
          · obtain ⟨y, hy⟩ : ∃ y, xs[m]? = some y := ⟨_, List.getElem?_eq_getElem (by omega)⟩
            obtain ⟨e0, e1, _⟩ := HDC.out wr HI.out.2 m y hy
            obtain ⟨d0, d1, _⟩ := HDC.out wr HI.out.2 k _ HX.out
            have HY := Lib.hid hy
            have HSY : Hid (sideB (bl y.k) ≠ 0) := Lib.hid (may_level' (n := bl y.n) (l := y.l) ((ok_iff _ _).1 (HB.out.1 m y hml hy)).1).2
            clear hy
            have hby := between_walk y.k
            have HKY : Hid (key y = K ↔ (y.n.toList == xn.toList) = true ∧ (betB (bl y.k) == p) = true) := Lib.hid (by
              rw [HKB.out y HSY.out HSX.out, Lib.toList_data, Lib.toList_data])
            obtain ⟨q2, hq2⟩ : ∃ q2, betB (bl y.k) = q2 := ⟨_, rfl⟩
            rw [hq2] at hby HKY
            have HBY := Lib.hid hby
            clear hby hq2
            rcases y with ⟨yn, yk, yl⟩
            simp only at e0 e1 d0 d1
            have hmm : (m : Int) < k := by omega
            have hm1 : (m : Int) < xs.length := by omega
            cases h1 : (yn.toList == xn.toList)
            · have HNO : Hid (key ⟨yn, yk, yl⟩ ≠ K) := Lib.hid (fun e => by have := (HKY.out.1 e).1; rw [h1] at this; cases this)
              go_wp2_with fail
              go_big_quiet (fail)
              go_wp2
              go_roundw
              case rel => exact ⟨m + 1, by omega, by go_num, Lib.hid ⟨HI.out.1.next HY.out HNO.out, bel_drewN HI.out.2 _⟩⟩
              case measure => simp [intOf]; omega
            · cases h2 : (q2 == p)
              · have HNO : Hid (key ⟨yn, yk, yl⟩ ≠ K) := Lib.hid (fun e => by have := (HKY.out.1 e).2; rw [h2] at this; cases this)
                go_wp2_with fail
                go_big_quiet (first | (go_at_call_of 28 yk; exact Calls.quiet_of_same ((HBY.out _).mono fun _ _ ⟨a, b⟩ => ⟨a, b.symm⟩)) | (go_at_call_of 28 xk; exact Calls.quiet_of_same ((HBX.out _).mono fun _ _ ⟨a, b⟩ => ⟨a, b.symm⟩)))
                go_wp2
                go_roundw
                case rel => exact ⟨m + 1, by omega, by go_num, Lib.hid ⟨HI.out.1.next HY.out HNO.out, bel_drewN HI.out.2 _⟩⟩
                case measure => simp [intOf]; omega
              · have HNO : Hid (r = false) := Lib.hid (by
                  rw [← HR.out]
                  refine good_no HX.out ?_
                  cases ho : okB (xs.take k) ⟨xn, xk, xl⟩
                  · rfl
                  · exact absurd ((HKY.out.2 ⟨h1, h2⟩).trans HK.out.symm) (((ok_iff _ _).1 ho).2 _ (List.mem_of_getElem? (show (xs.take k)[m]? = _ by rw [List.getElem?_take, if_pos hml]; exact HY.out))))
                go_wp2_with fail
                go_big_quiet (first | (go_at_call_of 28 yk; exact Calls.quiet_of_same ((HBY.out _).mono fun _ _ ⟨a, b⟩ => ⟨a, b.symm⟩)) | (go_at_call_of 28 xk; exact Calls.quiet_of_same ((HBX.out _).mono fun _ _ ⟨a, b⟩ => ⟨a, b.symm⟩)))
                go_wp2
                go_ret
                exact ⟨ret_bool HNO.out.symm, bel_drewN HI.out.2 _⟩
          · have hmm : ¬ (m : Int) < k := by omega
            have hmk : m = k := by omega
            have HNX : Hid (AllOk xs (k + 1)) := Lib.hid (HB.out.1.next HX.out ((ok_iff _ _).2 ⟨HQ.out, fun z hz => by
              obtain ⟨i, hi, rfl⟩ := List.mem_take_iff_getElem.1 hz
              have := HI.out.1 i _ (by omega) (List.getElem?_eq_getElem (by omega))
              rw [HK.out]
              exact this⟩))
            go_wp2
            go_roundw
            case rel => exact ⟨k + 1, by omega, by go_num, Lib.hid ⟨HNX.out, HI.out.2⟩⟩
            case measure => simp [intOf]; omega
    · have hkk : ¬ (k : Int) < xs.length := by omega
      have HF : Hid (r = decide ((xs.length : Int) ≤ 128)) := Lib.hid (by
        rw [← HR.out]
        by_cases h128 : xs.length ≤ 128
        · rw [good_yes h128 (fun j x hx => HB.out.1 j x (by have := (List.getElem?_eq_some_iff.1 hx).1; omega) hx)]
          symm
          simp
          omega
        · have : goodB xs = false := by
            cases hg : goodB xs
            · rfl
            · exact absurd (good_len hg) h128
          rw [this]
          symm
          simp
          omega)
      go_wp2
      go_ret
      exact ⟨ret_bool HF.out.symm, HB.out.2⟩
end Go.Proofs.Ythalpdjnclfleaa
