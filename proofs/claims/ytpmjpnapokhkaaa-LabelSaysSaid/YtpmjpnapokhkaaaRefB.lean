/- The document's GoodNames and Fits. -/
import Derived.Test.YtpmjpnapokhkaaaRefA
namespace Go.Proofs.Ytpmjpnapokhkaaa
open Go.RowKit
set_option linter.unusedVariables false
set_option maxRecDepth 100000
theorem okAt_is {ss : List ByteArray} {k : Nat} {x : ByteArray} (hx : ss[k]? = some x) : okAt (ss.map bl) k = (goodName (bl x) && !((ss.map bl).take k).contains (bl x)) := by simp [okAt, hx]
theorem okAt_name {ss : List ByteArray} {k : Nat} {x : ByteArray} (hx : ss[k]? = some x) (h : goodName (bl x) = false) : okAt (ss.map bl) k = false := by rw [okAt_is hx, h]; rfl
theorem okAt_twice {ss : List ByteArray} {k m : Nat} {x y : ByteArray} (hx : ss[k]? = some x) (hm : m < k) (hy : ss[m]? = some y) (e : bl y = bl x) : okAt (ss.map bl) k = false := by
  rw [okAt_is hx]
  have : ((ss.map bl).take k).contains (bl x) = true := by
    rw [List.contains_iff_mem, List.mem_iff_getElem?]
    exact ⟨m, by rw [List.getElem?_take, if_pos hm]; simp [hy, e]⟩
  rw [this]; simp
theorem okAt_once {ss : List ByteArray} {k : Nat} {x : ByteArray} (hx : ss[k]? = some x) (h : goodName (bl x) = true) (ho : ∀ (m : Nat) (y : ByteArray), m < k → ss[m]? = some y → bl y ≠ bl x) : okAt (ss.map bl) k = true := by
  rw [okAt_is hx, h]
  have : ((ss.map bl).take k).contains (bl x) = false := by
    cases hc : ((ss.map bl).take k).contains (bl x)
    · rfl
    · rw [List.contains_iff_mem, List.mem_iff_getElem?] at hc
      obtain ⟨m, hm⟩ := hc
      rw [List.getElem?_take] at hm
      split at hm
      · rename_i hlt
        rw [List.getElem?_map] at hm
        cases hy : ss[m]? with
        | none => rw [hy] at hm; cases hm
        | some y => rw [hy] at hm; exact absurd (by simpa using hm) (ho m y hlt hy)
      · cases hm
  rw [this]; rfl
theorem bel_drewN {B : Nat} {a w : World} (h : Below B a w) (n : Nat) : Below B a (w.drewN n) := ⟨h.os, h.tape, h.output, h.size, h.block⟩
set_option maxHeartbeats 2000000 in
theorem rgood_some (b off n cap : Nat) (ss : List ByteArray) (w : World) (hn : ss.length = n) (hcap : n ≤ cap) (hz : n * 16 ≤ 140737488351232) (hs : ∀ s ∈ ss, s.size ≤ 140737488351232)
    (hc : ∀ (i : Nat) (x : ByteArray), ss[i]? = some x → w.cell? ⟨b, off + i, none⟩ = some (.string x)) :
    Calls Try.prog 7 #[.slice (some ⟨b, off, none⟩) n cap] w fun e w' => e = .returned (.bool (goodNames (ss.map bl))) ∧ Below w.heap.size w w' := by
  have HC := Lib.hid hc; clear hc
  have HS := Lib.hid hs; clear hs
  have HN := Lib.hid (show (ss.map bl).length = n by simpa using hn)
  have HM := Lib.hid hn; clear hn
  go_enter Try.func7, Try.ntmps7
  go_wp2
  go_loopw [3] (fun i wr => ∃ k : Nat, k ≤ n ∧ i = .int .i64 k ∧ Hid (∀ j, j < k → okAt (ss.map bl) j = true) ∧ Hid (Below w.heap.size w wr)) (fun i _ => n - (intOf i).toNat)
  case atStart => exact ⟨0, Nat.zero_le _, rfl, Lib.hid (fun j h => by omega), Lib.hid (Below.refl _ _)⟩
  case round =>
    obtain ⟨k, hk, rfl, H, HB⟩ := hrel
    by_cases hlt : k < n
    · obtain ⟨x, hx⟩ : ∃ x, ss[k]? = some x := ⟨_, List.getElem?_eq_getElem (by rw [HM.out]; exact hlt)⟩
      have HX := Lib.hid hx
      have hcx := cell_later HB.out (HC.out k x hx)
      have hsx := HS.out x (List.mem_of_getElem? hx)
      clear hx
      by_cases h0 : x.size < 1
      · have hb := Lib.hid (goodNames_bad (by rw [HN.out]; exact hlt) (okAt_name HX.out (by rw [bl_nil (by omega)]; rfl)))
        go_wp2
        go_ret
        exact ⟨ret_bool hb.out.symm, HB.out⟩
      by_cases h1 : 16 < x.size
      · have hb := Lib.hid (goodNames_bad (by rw [HN.out]; exact hlt) (okAt_name HX.out (goodName_long _ h1)))
        go_wp2
        go_ret
        exact ⟨ret_bool hb.out.symm, HB.out⟩
      have D := fun w => rsmall x[0] w
      cases hsm : isSmall x[0]
      · have hb := Lib.hid (goodNames_bad (by rw [HN.out]; exact hlt) (okAt_name HX.out (goodName_head (bl x) (show 0 < x.size by omega) (by show (!isSmall x[0]) = true; rw [hsm]; rfl))))
        rw [hsm] at D
        clear hsm
        go_wp2_with (go_at_call 21; go_fit (D _); rintro e w' ⟨rfl, rfl⟩)
        go_ret
        exact ⟨ret_bool hb.out.symm, HB.out⟩
      have HSM := Lib.hid hsm
      rw [hsm] at D
      clear hsm
      go_wp2_with (go_at_call 21; go_fit (D _); rintro e w' ⟨rfl, rfl⟩)
      go_loop [4] (fun i => ∃ m : Nat, 1 ≤ m ∧ m ≤ x.size ∧ i = .int .i64 m ∧ Hid (∀ j (h : j < x.size), 1 ≤ j → j < m → isWord x[j] = true)) (fun i => x.size - (intOf i).toNat)
      case atStart => exact ⟨1, by omega, by omega, rfl, Lib.hid (fun j _ h1 h2 => by omega)⟩
      case round =>
        obtain ⟨m, hm1, hm, rfl, HW⟩ := hrel
        by_cases hml : m < x.size
        · have next (hw : isWord x[m] = true) : ∀ j (h : j < x.size), 1 ≤ j → j < m + 1 → isWord x[j] = true := fun j hj h1 h2 => by
            by_cases e : j = m
            · subst e; exact hw
            · exact HW.out j hj h1 (by omega)
          have N := Lib.hid next; clear next
          cases h2 : isSmall x[m]
          · cases h3 : isDigit x[m]
            · cases h4 : ((x[m].toNat : Int) != 95)
              · have hw := Lib.hid (word_bar h4)
                go_wp2_with (first | (go_at_call 21; go_fit (rsmall _ _); rintro e w' ⟨rfl, rfl⟩) | (go_at_call 22; go_fit (rdigit _ _); rintro e w' ⟨rfl, rfl⟩))
                go_round
                case rel => exact ⟨m + 1, by omega, by omega, by go_num, Lib.hid (N.out hw.out)⟩
                case measure => simp [intOf]; omega
              · have hw := Lib.hid (word_no h2 h3 h4)
                have hb := Lib.hid (goodNames_bad (by rw [HN.out]; exact hlt) (okAt_name HX.out (goodName_bad (bl x) m hm1 hml hw.out)))
                go_wp2_with (first | (go_at_call 21; go_fit (rsmall _ _); rintro e w' ⟨rfl, rfl⟩) | (go_at_call 22; go_fit (rdigit _ _); rintro e w' ⟨rfl, rfl⟩))
                go_ret
                exact ⟨ret_bool hb.out.symm, HB.out⟩
            · have hw := Lib.hid (word_digit h3)
              go_wp2_with (first | (go_at_call 21; go_fit (rsmall _ _); rintro e w' ⟨rfl, rfl⟩) | (go_at_call 22; go_fit (rdigit _ _); rintro e w' ⟨rfl, rfl⟩))
              go_round
              case rel => exact ⟨m + 1, by omega, by omega, by go_num, Lib.hid (N.out hw.out)⟩
              case measure => simp [intOf]; omega
          · have hw := Lib.hid (word_small h2)
            go_wp2_with (first | (go_at_call 21; go_fit (rsmall _ _); rintro e w' ⟨rfl, rfl⟩) | (go_at_call 22; go_fit (rdigit _ _); rintro e w' ⟨rfl, rfl⟩))
            go_round
            case rel => exact ⟨m + 1, by omega, by omega, by go_num, Lib.hid (N.out hw.out)⟩
            case measure => simp [intOf]; omega
        · have hgn := Lib.hid (goodName_ok (bl x) (show 0 < x.size by omega) (show x.size ≤ 16 by omega) (by show (!isSmall x[0]) = false; rw [HSM.out]; rfl) (fun j h h1 => HW.out j h h1 (by have : j < x.size := h; omega)))
          clear HW
          go_wp2
          go_loopw [6] (fun i wr => ∃ m : Nat, m ≤ k ∧ i = .int .i64 m ∧ Hid (∀ (j : Nat) (y : ByteArray), j < m → ss[j]? = some y → bl y ≠ bl x) ∧ Hid (Below w.heap.size w wr)) (fun i _ => k - (intOf i).toNat)
          case atStart => exact ⟨0, Nat.zero_le _, rfl, Lib.hid (fun j y h => by omega), HB⟩
          case round =>
            obtain ⟨m, hm, rfl, HW, HB2⟩ := hrel
            by_cases hml : m < k
            · obtain ⟨y, hy⟩ : ∃ y, ss[m]? = some y := ⟨_, List.getElem?_eq_getElem (by rw [HM.out]; omega)⟩
              have HY := Lib.hid hy
              have hcx2 := cell_later HB2.out (HC.out k x HX.out)
              have hcy := cell_later HB2.out (HC.out m y hy)
              clear hy
              have hmn : (m : Int) < n := by omega
              cases hq : (y.toList == x.toList)
              · have hne : bl y ≠ bl x := fun e => by rw [Lib.toList_data, Lib.toList_data, show y.data.toList = x.data.toList from e] at hq; simp at hq
                have HQ := Lib.hid hne; clear hne
                go_wp2_with fail
                go_quiet (fail)
                go_wp2
                go_roundw
                case rel =>
                  refine ⟨m + 1, by omega, by go_num, Lib.hid (fun j y' h1 h2 => ?_), Lib.hid (bel_drewN HB2.out _)⟩
                  by_cases e : j = m
                  · subst e; rw [HY.out] at h2; cases h2; exact HQ.out
                  · exact HW.out j y' (by omega) h2
                case measure => simp [intOf]; omega
              · have he : bl y = bl x := by rw [Lib.toList_data, Lib.toList_data] at hq; exact (by simpa using hq : y.data.toList = x.data.toList)
                have hb := Lib.hid (goodNames_bad (by rw [HN.out]; exact hlt) (okAt_twice HX.out hml HY.out he)); clear he
                go_wp2_with fail
                go_quiet (fail)
                go_wp2
                go_ret
                exact ⟨ret_bool hb.out.symm, bel_drewN HB2.out _⟩
            · have HO := Lib.hid (okAt_once HX.out hgn.out (fun j y h1 h2 => HW.out j y (by omega) h2))
              clear HW
              go_wp2
              go_roundw
              case rel =>
                refine ⟨k + 1, by omega, by go_num, Lib.hid (fun j h => ?_), HB2⟩
                by_cases e : j = k
                · subst e; exact HO.out
                · exact H.out j (by omega)
              case measure => simp [intOf]; omega
    · by_cases h0 : n < 1
      · have hb := Lib.hid (goodNames_none (n := ss.map bl) (by rw [HN.out]; exact h0))
        go_wp2
        go_ret
        exact ⟨ret_bool (by rw [hb.out]; first | done | (simp; done) | (simp; omega)), HB.out⟩
      · by_cases h1 : 64 < n
        · have hb := Lib.hid (goodNames_many (n := ss.map bl) (by rw [HN.out]; exact h1))
          go_wp2
          go_ret
          exact ⟨ret_bool (by rw [hb.out]; first | done | (simp; done) | (simp; omega)), HB.out⟩
        · have hb := Lib.hid (goodNames_ok (n := ss.map bl) (by rw [HN.out]; omega) (by rw [HN.out]; omega) (fun j h => H.out j (by rw [HN.out] at h; omega)))
          go_wp2
          go_ret
          exact ⟨ret_bool (by rw [hb.out]; first | done | (simp; done) | (simp; omega)), HB.out⟩
theorem rgood_none (a : Option Addr) (cap : Nat) (w : World) : Calls Try.prog 7 #[.slice a 0 cap] w fun e w' => e = .returned (.bool false) ∧ w = w' := by
  go_enter Try.func7, Try.ntmps7
  go_wp2
  refine wp_loop_rounds 1 ?_
  rw [rounds_succ]
  go_wp2
  go_ret
  exact ⟨rfl, rfl⟩
theorem rgood_any {v : Value} {ss : List ByteArray} {w : World} (h : Strs w v ss) :
    Calls Try.prog 7 #[v] w fun e w' => e = .returned (.bool (goodNames (ss.map bl))) ∧ Below w.heap.size w w' := by
  obtain ⟨a, cap, rfl, hl, hm, hz, hs, rfl | ⟨b, off, rfl, hb, hc⟩⟩ := h
  · exact (rgood_none a cap w).mono fun e w' ⟨h1, h2⟩ => ⟨by rw [h1]; exact ret_bool rfl, by rw [← h2]; exact Below.refl _ _⟩
  · exact rgood_some b off _ cap ss w rfl hl hz hs hc
/-- What is above the names is no part of a label that fits. -/
theorem fits_high {n : List (List UInt8)} {l i : Nat} (h1 : n.length ≤ i) (hb : l.testBit i = true) : fits n l = false := by
  cases h : fits n l
  · rfl
  · simp [fits] at h
    rw [testBit_low h.2 h1] at hb; cases hb
theorem fits_low {n : List (List UInt8)} {l : Nat} (hl : l < 18446744073709551616) (h : ∀ i, n.length ≤ i → i < 64 → l.testBit i = false) : fits n l = goodNames n := by
  unfold fits
  cases hg : goodNames n
  · rfl
  · have hle := (goodNames_len hg).2
    have : l < 2 ^ n.length := by
      apply Nat.lt_pow_two_of_testBit
      intro i hi
      by_cases h64 : i < 64
      · exact h i hi h64
      · exact testBit_low (i := 64) (by omega) (by omega)
    simp [this]
set_option maxHeartbeats 1000000 in
theorem rfits_any {v : Value} {ss : List ByteArray} {w : World} (l : Nat) (hl : l < 18446744073709551616) (h : Strs w v ss) :
    Calls Try.prog 10 #[v, .int .u64 l] w fun e w' => e = .returned (.bool (fits (ss.map bl) l)) ∧ Below w.heap.size w w' := by
  have G := fun w h => @rgood_any v ss w h
  obtain ⟨a, cap, hv, h2, h3, h4, h5, h6⟩ := h
  have HS := Lib.hid (show Strs w v ss from ⟨a, cap, hv, h2, h3, h4, h5, h6⟩)
  subst hv
  have HL := Lib.hid (show (ss.map bl).length = ss.length by simp)
  generalize hn : ss.length = n at *
  go_enter Try.func10, Try.ntmps10
  go_wp2
  go_loop [5] (fun i => ∃ k : Nat, n ≤ k ∧ (k ≤ 64 ∨ k = n) ∧ i = .int .i64 k ∧ Hid (∀ j, n ≤ j → j < k → l.testBit j = false)) (fun i => 64 - (intOf i).toNat)
  case atStart => exact ⟨n, by omega, by omega, rfl, Lib.hid (fun j _ h => by omega)⟩
  case round =>
    obtain ⟨k, hk1, hk, rfl, H⟩ := hrel
    by_cases hlt : k < 64
    · have D := fun w => rhas l k w hl (by omega)
      cases hb : l.testBit k
      · rw [hb] at D
        have HN : Hid (∀ j, n ≤ j → j < k + 1 → l.testBit j = false) := Lib.hid (fun j h1 h2 => by
          by_cases e : j = k
          · subst e; exact hb
          · exact H.out j h1 (by omega))
        clear hb
        (go_wp2_with fail; go_fit (D _); rintro e w' ⟨rfl, rfl⟩)
        go_wp2
        go_round
        case rel => exact ⟨k + 1, by omega, by omega, by go_num, HN⟩
        case measure => simp [intOf]; omega
      · rw [hb] at D
        have HF := Lib.hid (fits_high (n := ss.map bl) (by rw [HL.out]; exact hk1) hb)
        clear hb
        (go_wp2_with fail; go_fit (D _); rintro e w' ⟨rfl, rfl⟩)
        go_wp2
        go_ret
        exact ⟨ret_bool HF.out.symm, Below.refl _ _⟩
    · have HF := Lib.hid (fits_low (n := ss.map bl) hl (fun i h1 h2 => H.out i (by rw [HL.out] at h1; exact h1) (by omega)))
      have GG := G w HS.out
      rw [← HF.out] at GG
      generalize hr : fits (ss.map bl) l = r at GG
      have HR := Lib.hid hr; clear hr HF
      (go_wp2_with fail; go_fit (GG); rintro e w1 ⟨rfl, b1⟩)
      go_wp2
      go_ret
      exact ⟨ret_bool HR.out.symm, b1⟩
end Go.Proofs.Ytpmjpnapokhkaaa
