import Derived.Test.YtljgkfdnmikpfaaGreatDoorHomaq
import Derived.Test.YtljgkfdnmikpfaaGreatDoorHomab
import Derived.Test.YtljgkfdnmikpfaaGreatDoorHomaf
import Derived.Lib.ItoaLen
import Derived.Lib.AppendIntMem
set_option linter.unusedVariables false
set_option linter.unusedSimpArgs false
/- The project's writer: where a variable stands among others; a term's head. -/
namespace Go.Proofs.YtljgkfdnmikpfaaGreatDoor
open Go.RowKit
set_option linter.unusedVariables false
set_option maxRecDepth 100000

theorem idx_none {vs : List Int} {n : Int} (h : ∀ (i : Nat) (x : Int), vs[i]? = some x → ¬ x = n) : idxW vs n = -1 := by
  unfold idxW
  have : vs.findIdx? (fun v => v == n) = none := by
    rw [List.findIdx?_eq_none_iff]
    intro x hx
    obtain ⟨i, hi, rfl⟩ := List.getElem_of_mem hx
    simp only [beq_eq_false_iff_ne]
    exact h i _ (List.getElem?_eq_getElem hi)
  rw [this]
theorem idx_some {vs : List Int} {n : Int} {j : Nat} (hj : vs[j]? = some n) (h : ∀ (i : Nat) (x : Int), i < j → vs[i]? = some x → ¬ x = n) : idxW vs n = (j : Nat) := by
  unfold idxW
  have : vs.findIdx? (fun v => v == n) = some j := by
    rw [List.findIdx?_eq_some_iff_getElem]
    have hjl := List.getElem?_eq_some_iff.1 hj
    refine ⟨hjl.1, by rw [hjl.2]; exact beq_self_eq_true n, fun i hi => ?_⟩
    have hil : i < vs.length := Nat.lt_trans hi hjl.1
    have := h i (vs[i]'hil) hi (List.getElem?_eq_getElem hil)
    simpa using this
  rw [this]
set_option maxHeartbeats 2000000 in
theorem windex_at {vs : List Int} {w : World} {v : Value} (hv : Nums w v vs) (n : Int) : Calls Tryz.prog 112 #[v, .int .i64 n] w fun e w' => e = .returned (.int .i64 (idxW vs n)) ∧ w = w' := by
  obtain ⟨ao, cv, rfl, hl1, hl2⟩ := hv.len
  unfold maxLen at hl2
  have HV := Lib.hid hv
  obtain ⟨L, hL⟩ : ∃ L, vs.length = L := ⟨_, rfl⟩
  have HL := Lib.hid hL
  rw [hL] at hl1
  rw [hL]
  obtain ⟨X, hX⟩ : ∃ X, idxW vs n = X := ⟨_, rfl⟩
  rw [hX]
  have HX := Lib.hid hX
  rw [hL] at HV
  clear hv hL hX
  go_enter Tryz.func112, Tryz.ntmps112
  go_wp2_with fail
  go_loop [8] (fun v => ∃ j : Nat, j ≤ L ∧ v = .int .i64 j ∧ Hid (∀ (i : Nat) (x : Int), i < j → vs[i]? = some x → ¬ x = n)) (fun v => L - (intOf v).toNat)
  case atStart => exact ⟨0, Nat.zero_le _, rfl, Lib.hid (fun i x h => by omega)⟩
  case round =>
    obtain ⟨j, hj, rfl, HNO⟩ := hrel
    by_cases hlt : j < L
    · obtain ⟨x, hx⟩ : ∃ x, vs[j]? = some x := ⟨_, List.getElem?_eq_getElem (by rw [HL.out]; exact hlt)⟩
      obtain ⟨b, off, rfl, hbb, d0⟩ := HV.out.get hx
      have HXJ := Lib.hid hx
      clear hx
      have hjj : decide ((j : Int) < (L : Int)) = true := decide_eq_true (by omega)
      by_cases hxn : n = x
      · subst hxn
        have hxe : (n == n) = true := beq_self_eq_true n
        go_wp2
        go_ret
        exact ⟨ret_int ((idx_some HXJ.out HNO.out).symm.trans HX.out), rfl⟩
      · have hxe : (n == x) = false := beq_false_of_ne hxn
        have HNE := Lib.hid (fun e : x = n => hxn e.symm)
        clear hxn
        go_wp2
        go_round
        case rel =>
          refine ⟨j + 1, by omega, by go_num, Lib.hid (fun i y hi hy => ?_)⟩
          by_cases e : i = j
          · rw [e, HXJ.out] at hy
            cases hy
            exact HNE.out
          · exact HNO.out i y (by omega) hy
        case measure => simp [intOf]; omega
    · obtain rfl : L = j := by omega
      have hjj : decide ((L : Int) < (L : Int)) = false := decide_eq_false (by omega)
      have HF := Lib.hid (idx_none (vs := vs) (n := n) (fun i x hi => HNO.out i x (by rw [← HL.out]; exact (List.getElem?_eq_some_iff.1 hi).1) hi))
      go_wp2
      go_ret
      exact ⟨ret_int (HF.out.symm.trans HX.out), rfl⟩
theorem numW_itoa {n : Int} (h : n.natAbs < 10000000000000000000000000) : numW n = Lib.itoa n := by
  unfold numW digW Lib.itoa
  by_cases h0 : n < 0
  · rw [if_pos h0]
    rw [digF_eq 24 n.natAbs (by simpa using h)]
    simp [h0]
  · rw [if_neg h0]
    rw [digF_eq 24 n.toNat (by have : n.toNat = n.natAbs := by omega
                               rw [this]; simpa using h)]
    simp [h0]
theorem itoa_any {n : Int} (h1 : -9223372036854775808 ≤ n) (h2 : n ≤ 9223372036854775807) {w : World} (hc : Con w) : Calls Tryz.prog 137 #[.int .i64 n] w fun e w' => e = .returned (.string ⟨(numW n).toArray⟩) ∧ Below w.heap.size w w' :=
  (Tryz.strconv_Itoa n h1 h2 w hc.pow).mono fun e w' h => ⟨by rw [numW_itoa (by omega)]; exact h.1, by obtain ⟨k, os, rfl⟩ := h.2; exact Lib.below_grow _ _ (Nat.le_refl _) _ _⟩
theorem format_any {n : Int} (h1 : -9223372036854775808 ≤ n) (h2 : n ≤ 9223372036854775807) {w : World} (hc : Con w) : Calls Tryz.prog 138 #[.int .i64 n, .int .i64 10] w fun e w' => e = .returned (.string ⟨(numW n).toArray⟩) ∧ Below w.heap.size w w' :=
  (Tryz.strconv_FormatInt_10 n h1 h2 w hc.pow).mono fun e w' h => ⟨by rw [numW_itoa (by omega)]; exact h.1, by obtain ⟨k, os, rfl⟩ := h.2; exact Lib.below_grow _ _ (Nat.le_refl _) _ _⟩
end Go.Proofs.YtljgkfdnmikpfaaGreatDoor
/- The project's writer: terms with commas between; a term with its name ahead. -/
namespace Go.Proofs.YtljgkfdnmikpfaaGreatDoor
open Go.RowKit
set_option linter.unusedVariables false
set_option maxRecDepth 100000

/-- What a way of writing an Arg does. -/
def ArgC (f : Nat) (W : Tm → List UInt8) (n : Nat) (wb : Nat) (xs : List O) (vs : List Int) : Prop :=
  ∀ (y : Tm), sizeN y < n → goodT y = true → ∀ (M : Nat → Bool) (w : World) (out : List UInt8) (v : Value), Wr M w wb xs vs out → TmV (hide M w) y v → out.length + (W y).length ≤ 1000000000 → Calls Tryz.prog f #[.pointer (some ⟨wb, 0, none⟩), v] w (WPost M w wb xs vs (out ++ W y))
theorem row_take {W : Tm → List UInt8} : ∀ {l : List Tm} {i : Nat} {y : Tm}, l[i]? = some y → rowW W (l.take (i + 1)) = if i = 0 then W y else rowW W (l.take i) ++ 44 :: W y
  | [], i, y, h => by simp at h
  | x :: r, 0, y, h => by
    simp at h
    subst h
    simp [rowW]
  | x :: r, i + 1, y, h => by
    have h' : r[i]? = some y := by simpa using h
    have ih := row_take (W := W) h'
    rw [if_neg (by omega), List.take_succ_cons, List.take_succ_cons]
    obtain ⟨a, t, hat⟩ : ∃ a t, r.take (i + 1) = a :: t := by
      cases r with
      | nil => simp at h'
      | cons a r => exact ⟨a, r.take i, rfl⟩
    have e : rowW W (x :: r.take (i + 1)) = W x ++ 44 :: rowW W (r.take (i + 1)) := by rw [hat]; rfl
    rw [e, ih]
    by_cases h0 : i = 0
    · subst h0
      simp [rowW]
    · rw [if_neg h0]
      obtain ⟨b, u, hbu⟩ : ∃ b u, r.take i = b :: u := by
        cases r with
        | nil => simp at h'
        | cons b r =>
          cases i with
          | zero => exact absurd rfl h0
          | succ i => exact ⟨b, r.take i, rfl⟩
      have e2 : rowW W (x :: r.take i) = W x ++ 44 :: rowW W (r.take i) := by rw [hbu]; rfl
      rw [e2]
      simp
theorem row_len {W : Tm → List UInt8} : ∀ (l : List Tm) (i : Nat), (rowW W (l.take i)).length ≤ (rowW W l).length
  | [], i => by simp [rowW]
  | [x], 0 => by simp [rowW]
  | [x], i + 1 => by simp
  | x :: y :: r, 0 => by simp [rowW]
  | x :: y :: r, 1 => by simp [rowW]
  | x :: y :: r, i + 2 => by
    have := row_len (W := W) (y :: r) (i + 1)
    show (W x ++ 44 :: rowW W (y :: r.take i)).length ≤ (W x ++ 44 :: rowW W (y :: r)).length
    rw [List.length_append, List.length_append, List.length_cons, List.length_cons]
    have e : rowW W ((y :: r).take (i + 1)) = rowW W (y :: r.take i) := rfl
    rw [e] at this
    omega
theorem comma_bl : bl (⟨#[44]⟩ : ByteArray) = [44] := rfl
theorem open_bl1 : bl (⟨#[40]⟩ : ByteArray) = [40] := rfl
theorem shut_bl1 : bl (⟨#[41]⟩ : ByteArray) = [41] := rfl
set_option maxHeartbeats 4000000 in
theorem row_item {W : Tm → List UInt8} {n wb : Nat} {xs : List O} {vs : List Int} (HA : ArgC 136 W n wb xs vs) {l : List Tm} (hl : ∀ x ∈ l, sizeN x < n ∧ goodT x = true) {M : Nat → Bool} {w : World} {out : List UInt8} (h : Wr M w wb xs vs out) {v : Value} (ht : Tms (hide M w) v l) (hz : out.length + (rowW W l).length ≤ 1000000000) :
    Calls Tryz.prog 139 #[.pointer (some ⟨wb, 0, none⟩), v, .func (.func 136) #[.pointer (some ⟨wb, 0, none⟩)] #[]] w (WPost M w wb xs vs (out ++ rowW W l)) := by
  obtain ⟨a, c, rfl, h1, h2, h3⟩ := ht.len
  unfold BIG at h3
  unfold maxLen at h2
  obtain ⟨m, hm⟩ : ∃ m, l.length = m := ⟨_, rfl⟩
  have HT := Lib.hid ht
  have HM := Lib.hid hm
  rw [hm] at h1 h3 HT ⊢
  have HL := Lib.hid hl
  have HZ := Lib.hid hz
  have HAA := Lib.hid HA
  have HW := Lib.hid h
  clear h ht hm hl hz HA
  go_enter Tryz.func139, Tryz.ntmps139
  go_wp2_with fail
  go_loopw [10] (fun v wr => ∃ (i : Nat) (M1 : Nat → Bool), i ≤ m ∧ v = .int .i64 i ∧ Hid (Wr M1 wr wb xs vs (out ++ rowW W (l.take i))) ∧ Hid (Turn M M M1 M1 w wr)) (fun v _ => m - (intOf v).toNat)
  case atStart => exact ⟨0, M, Nat.zero_le _, rfl, Lib.hid (by simpa [rowW] using HW.out), Lib.hid (Turn.refl _ _ _)⟩
  case round =>
    obtain ⟨i, M1, hi, rfl, HR, HTU⟩ := hrel
    by_cases hil : i < m
    · have hdl : decide ((i : Int) < (m : Int)) = true := decide_eq_true (by omega)
      obtain ⟨y, hy⟩ : ∃ y, l[i]? = some y := ⟨_, List.getElem?_eq_getElem (by rw [HM.out]; exact hil)⟩
      have hmem := List.mem_of_getElem? hy
      have htm := HT.out.turn HTU.out
      obtain ⟨b, off, k', n', s', u', rfl, hbb, _, _, _, c0, c1, c2, c3, htu, hty⟩ := htm.get hy
      obtain ⟨au, cu, rfl, _⟩ := htu.len
      have hst := (Stays.unhide M1 wr).2
      have c0 := hst _ _ c0
      have c1 := hst _ _ c1
      have c2 := hst _ _ c2
      have c3 := hst _ _ c3
      obtain ⟨q, hq⟩ : ∃ q, y.args.length = q := ⟨_, rfl⟩
      rw [hq] at c3 hty
      have HTY := Lib.hid hty
      obtain ⟨w1, hw1, hb1, hz1, hx1⟩ := box_new wr #[.int .i64 k', .int .i64 n', .string s', .slice au q cu] 27
      have hrt := row_take (W := W) hy
      have hrl := row_len (W := W) l (i + 1)
      have HS := Lib.hid (HL.out y hmem)
      by_cases h0 : i = 0
      · subst h0
        simp only [Nat.zero_mul, Nat.add_zero] at c0 c1 c2 c3
        rw [if_pos rfl] at hrt
        rw [hrt] at hrl
        have HC := Lib.hid (HAA.out y HS.out.1 HS.out.2 M1 w1 _ _ (HR.out.later hb1) (TmV.later hb1 HTY.out) (by have := HZ.out; rw [show rowW W (l.take 0) = [] from rfl, List.append_nil]; omega))
        have HRT := Lib.hid hrt
        have hd0 : decide ((0 : Int) > 0) = false := by decide
        obtain ⟨b0, b1, b2, b3, bf⟩ := hx1.four
        have HB1 := Lib.hid hb1
        clear hy hmem htm htu hty hst hz1 hx1 hrt hrl hq hb1
        go_wp2_with fail
        (try rw [hw1])
        clear hw1
        go_wp2_with (go_at_call 136; go_fit (HC.out); rintro e w2 ⟨rfl, M2, g1, g2⟩; have G1 := Lib.hid g1; have G2 := Lib.hid (HTU.out.trans ((Turn.below HB1.out).trans g2)); clear g1 g2)
        go_roundw
        case rel => exact ⟨1, M2, by omega, by go_num, Lib.hid (by rw [HRT.out]; simpa [rowW] using G1.out), G2⟩
        case measure => simp [intOf]; omega
      · rw [if_neg h0] at hrt
        rw [hrt, List.length_append, List.length_cons] at hrl
        have HPT := Lib.hid (put_at (HR.out.later hb1) ⟨#[44]⟩ (by have := HZ.out; rw [comma_bl, List.length_append, List.length_singleton]; omega))
        have HRT := Lib.hid hrt
        have hd0 : decide ((i : Int) > 0) = true := decide_eq_true (by omega)
        have HX1 := Lib.hid hx1
        have HB1 := Lib.hid hb1
        have HTY1 := Lib.hid (TmV.later hb1 HTY.out)
        have HMB := Lib.hid (HR.out.new (Nat.le_refl _))
        have HRL := Lib.hid hrl
        clear hy hmem htm htu hty hst hz1 hx1 hrt hrl hq hb1
        go_wp2_with fail
        (try rw [hw1])
        clear hw1
        (go_wp2_with fail; go_fit (HPT.out); rintro e w2 ⟨rfl, M2, g1, g2⟩)
        have HC := Lib.hid (HAA.out y HS.out.1 HS.out.2 M2 w2 _ _ g1 (TmV.turn HTY1.out g2) (by have := HZ.out; have := HRL.out; rw [comma_bl, List.length_append, List.length_append, List.length_singleton]; omega))
        obtain ⟨b0, b1, b2, b3, bf⟩ := (HX1.out.turn g2 HMB.out).four
        have G2 := Lib.hid (HTU.out.trans ((Turn.below HB1.out).trans g2))
        clear g1 g2
        go_wp2_with (go_at_call 136; go_fit (HC.out); rintro e w3 ⟨rfl, M3, g3, g4⟩; have G3 := Lib.hid g3; have G4 := Lib.hid (G2.out.trans g4); clear g3 g4)
        go_roundw
        case rel => exact ⟨i + 1, M3, by omega, by go_num, Lib.hid (by rw [HRT.out]; have := G3.out; rw [comma_bl] at this; simpa using this), G4⟩
        case measure => simp [intOf]; omega
    · obtain rfl : m = i := by omega
      have hdl : decide ((m : Int) < (m : Int)) = false := decide_eq_false (by omega)
      have HE := Lib.hid (show l.take m = l from List.take_of_length_le (by rw [HM.out]; omega))
      go_wp2
      go_end0
      exact ⟨rfl, M1, by rw [← HE.out]; exact HR.out, HTU.out⟩
set_option maxHeartbeats 4000000 in
theorem row_plain {W : Tm → List UInt8} {n wb : Nat} {xs : List O} {vs : List Int} (HA : ArgC 57 W n wb xs vs) {l : List Tm} (hl : ∀ x ∈ l, sizeN x < n ∧ goodT x = true) {M : Nat → Bool} {w : World} {out : List UInt8} (h : Wr M w wb xs vs out) {v : Value} (ht : Tms (hide M w) v l) (hz : out.length + (rowW W l).length ≤ 1000000000) :
    Calls Tryz.prog 139 #[.pointer (some ⟨wb, 0, none⟩), v, .func (.func 57) #[.pointer (some ⟨wb, 0, none⟩)] #[]] w (WPost M w wb xs vs (out ++ rowW W l)) := by
  obtain ⟨a, c, rfl, h1, h2, h3⟩ := ht.len
  unfold BIG at h3
  unfold maxLen at h2
  obtain ⟨m, hm⟩ : ∃ m, l.length = m := ⟨_, rfl⟩
  have HT := Lib.hid ht
  have HM := Lib.hid hm
  rw [hm] at h1 h3 HT ⊢
  have HL := Lib.hid hl
  have HZ := Lib.hid hz
  have HAA := Lib.hid HA
  have HW := Lib.hid h
  clear h ht hm hl hz HA
  go_enter Tryz.func139, Tryz.ntmps139
  go_wp2_with fail
  go_loopw [10] (fun v wr => ∃ (i : Nat) (M1 : Nat → Bool), i ≤ m ∧ v = .int .i64 i ∧ Hid (Wr M1 wr wb xs vs (out ++ rowW W (l.take i))) ∧ Hid (Turn M M M1 M1 w wr)) (fun v _ => m - (intOf v).toNat)
  case atStart => exact ⟨0, M, Nat.zero_le _, rfl, Lib.hid (by simpa [rowW] using HW.out), Lib.hid (Turn.refl _ _ _)⟩
  case round =>
    obtain ⟨i, M1, hi, rfl, HR, HTU⟩ := hrel
    by_cases hil : i < m
    · have hdl : decide ((i : Int) < (m : Int)) = true := decide_eq_true (by omega)
      obtain ⟨y, hy⟩ : ∃ y, l[i]? = some y := ⟨_, List.getElem?_eq_getElem (by rw [HM.out]; exact hil)⟩
      have hmem := List.mem_of_getElem? hy
      have htm := HT.out.turn HTU.out
      obtain ⟨b, off, k', n', s', u', rfl, hbb, _, _, _, c0, c1, c2, c3, htu, hty⟩ := htm.get hy
      obtain ⟨au, cu, rfl, _⟩ := htu.len
      have hst := (Stays.unhide M1 wr).2
      have c0 := hst _ _ c0
      have c1 := hst _ _ c1
      have c2 := hst _ _ c2
      have c3 := hst _ _ c3
      obtain ⟨q, hq⟩ : ∃ q, y.args.length = q := ⟨_, rfl⟩
      rw [hq] at c3 hty
      have HTY := Lib.hid hty
      obtain ⟨w1, hw1, hb1, hz1, hx1⟩ := box_new wr #[.int .i64 k', .int .i64 n', .string s', .slice au q cu] 27
      have hrt := row_take (W := W) hy
      have hrl := row_len (W := W) l (i + 1)
      have HS := Lib.hid (HL.out y hmem)
      by_cases h0 : i = 0
      · subst h0
        simp only [Nat.zero_mul, Nat.add_zero] at c0 c1 c2 c3
        rw [if_pos rfl] at hrt
        rw [hrt] at hrl
        have HC := Lib.hid (HAA.out y HS.out.1 HS.out.2 M1 w1 _ _ (HR.out.later hb1) (TmV.later hb1 HTY.out) (by have := HZ.out; rw [show rowW W (l.take 0) = [] from rfl, List.append_nil]; omega))
        have HRT := Lib.hid hrt
        have hd0 : decide ((0 : Int) > 0) = false := by decide
        obtain ⟨b0, b1, b2, b3, bf⟩ := hx1.four
        have HB1 := Lib.hid hb1
        clear hy hmem htm htu hty hst hz1 hx1 hrt hrl hq hb1
        go_wp2_with fail
        (try rw [hw1])
        clear hw1
        go_wp2_with (go_at_call 57; go_fit (HC.out); rintro e w2 ⟨rfl, M2, g1, g2⟩; have G1 := Lib.hid g1; have G2 := Lib.hid (HTU.out.trans ((Turn.below HB1.out).trans g2)); clear g1 g2)
        go_roundw
        case rel => exact ⟨1, M2, by omega, by go_num, Lib.hid (by rw [HRT.out]; simpa [rowW] using G1.out), G2⟩
        case measure => simp [intOf]; omega
      · rw [if_neg h0] at hrt
        rw [hrt, List.length_append, List.length_cons] at hrl
        have HPT := Lib.hid (put_at (HR.out.later hb1) ⟨#[44]⟩ (by have := HZ.out; rw [comma_bl, List.length_append, List.length_singleton]; omega))
        have HRT := Lib.hid hrt
        have hd0 : decide ((i : Int) > 0) = true := decide_eq_true (by omega)
        have HX1 := Lib.hid hx1
        have HB1 := Lib.hid hb1
        have HTY1 := Lib.hid (TmV.later hb1 HTY.out)
        have HMB := Lib.hid (HR.out.new (Nat.le_refl _))
        have HRL := Lib.hid hrl
        clear hy hmem htm htu hty hst hz1 hx1 hrt hrl hq hb1
        go_wp2_with fail
        (try rw [hw1])
        clear hw1
        (go_wp2_with fail; go_fit (HPT.out); rintro e w2 ⟨rfl, M2, g1, g2⟩)
        have HC := Lib.hid (HAA.out y HS.out.1 HS.out.2 M2 w2 _ _ g1 (TmV.turn HTY1.out g2) (by have := HZ.out; have := HRL.out; rw [comma_bl, List.length_append, List.length_append, List.length_singleton]; omega))
        obtain ⟨b0, b1, b2, b3, bf⟩ := (HX1.out.turn g2 HMB.out).four
        have G2 := Lib.hid (HTU.out.trans ((Turn.below HB1.out).trans g2))
        clear g1 g2
        go_wp2_with (go_at_call 57; go_fit (HC.out); rintro e w3 ⟨rfl, M3, g3, g4⟩; have G3 := Lib.hid g3; have G4 := Lib.hid (G2.out.trans g4); clear g3 g4)
        go_roundw
        case rel => exact ⟨i + 1, M3, by omega, by go_num, Lib.hid (by rw [HRT.out]; have := G3.out; rw [comma_bl] at this; simpa using this), G4⟩
        case measure => simp [intOf]; omega
    · obtain rfl : m = i := by omega
      have hdl : decide ((m : Int) < (m : Int)) = false := decide_eq_false (by omega)
      have HE := Lib.hid (show l.take m = l from List.take_of_length_le (by rw [HM.out]; omega))
      go_wp2
      go_end0
      exact ⟨rfl, M1, by rw [← HE.out]; exact HR.out, HTU.out⟩
end Go.Proofs.YtljgkfdnmikpfaaGreatDoor
/- The project's writer: a term with its name ahead. -/
namespace Go.Proofs.YtljgkfdnmikpfaaGreatDoor
open Go.RowKit
set_option linter.unusedVariables false
set_option maxRecDepth 100000

theorem bl_mk (l : List UInt8) : bl (⟨l.toArray⟩ : ByteArray) = l := by simp [bl]
theorem idx_bound {vs : List Int} {n : Int} : -1 ≤ idxW vs n ∧ idxW vs n < (vs.length : Int) ∨ idxW vs n = -1 := by
  unfold idxW
  cases h : vs.findIdx? (fun v => v == n) with
  | none => exact Or.inr rfl
  | some i =>
    left
    have := (List.findIdx?_eq_some_iff_getElem.1 h).1
    simp only
    omega
theorem numW_len {n : Int} (h1 : -9223372036854775808 ≤ n) (h2 : n ≤ 9223372036854775807) : (numW n).length ≤ 1000 := by
  unfold numW
  split
  · have := (digW_ok n.natAbs (by omega)).2.2.2
    rw [List.length_cons]; omega
  · have := (digW_ok n.toNat (by omega)).2.2.2
    omega
set_option maxHeartbeats 8000000 in
theorem called_item_2 {W : Tm → List UInt8} {n' wb : Nat} {xs : List O} {vs : List Int} (HA : ArgC 136 W n' wb xs vs) {n : Int} {s : ByteArray} {ts : List Tm} (hl : ∀ x ∈ ts, sizeN x < n' ∧ goodT x = true) {M : Nat → Bool} {w : World} {out : List UInt8} (h : Wr M w wb xs vs out) {v : Value} (hv : TmV (hide M w) (.mk 2 n s ts) v) (hz : out.length + (calledW vs W (.mk 2 n s ts)).length ≤ 1000000000) :
    Calls Tryz.prog 92 #[.pointer (some ⟨wb, 0, none⟩), v, .func (.func 136) #[.pointer (some ⟨wb, 0, none⟩)] #[]] w (WPost M w wb xs vs (out ++ calledW vs W (.mk 2 n s ts))) := by
  obtain ⟨u, rfl, hs, hk64, hn64, hu⟩ := tmV_iff.1 hv
  obtain ⟨au, cu, rfl, hu1, hu2, hu3⟩ := hu.len
  unfold BIG at hu3 hs
  unfold maxLen at hu2
  unfold I64 at hn64
  obtain ⟨m, hm⟩ : ∃ m, ts.length = m := ⟨_, rfl⟩
  have HM := Lib.hid hm
  rw [hm] at hu hu1 hu3
  rw [hm]
  obtain ⟨w1, hw1, hb1, hz1, hx1⟩ := box_new w #[.int .i64 2, .int .i64 n, .string s, .slice au m cu] 27
  obtain ⟨b0, b1, b2, b3, bf⟩ := hx1.four
  have h1 := h.later hb1
  have HTS := Lib.hid (Tms.later hb1 hu)
  have HZ := Lib.hid hz
  have HL := Lib.hid hl
  have HAA := Lib.hid HA
  have HMB := Lib.hid (h.new (Nat.le_refl w.heap.size))
  have HT1 := Lib.hid (show Turn M M M M w w1 from Turn.below hb1)
  have HX1 := Lib.hid hx1
  have HLA := Lib.hid (show headW vs (.mk 2 n s ts) ++ (if ts.isEmpty then [] else 40 :: (rowW W ts ++ [41])) = calledW vs W (.mk 2 n s ts) from rfl)
  have HZH := Lib.hid (show out.length + (headW vs (.mk 2 n s ts)).length ≤ 1000000000 by have := HLA.out; rw [← this, List.length_append] at hz; omega)
  have HQ := Lib.hid (quote_any s w1 h1.con.err (by omega))
  have H1 := Lib.hid h1
  clear h hv hu hm hl hz hb1 hz1 hx1 HA
  go_enter Tryz.func92, Tryz.ntmps92
  go_wp2_with fail
  (try rw [hw1])
  clear hw1
  (go_wp2_with fail; go_fit (HQ.out); rintro e w2 ⟨rfl, hb2⟩)
  have HP := Lib.hid (put_at (H1.out.later hb2) ⟨(quoteB (bl s)).toArray⟩ (by rw [bl_mk]; exact HZH.out))
  have HB2 := Lib.hid hb2
  clear hb2
  (go_wp2_with fail; go_fit (HP.out); rintro e w3 ⟨rfl, M3, g3, g4⟩)
  have G3 := Lib.hid (show Wr M3 w3 wb xs vs (out ++ headW vs (.mk 2 n s ts)) by rw [bl_mk] at g3; exact g3)
  have G34 := Lib.hid ((show Turn M M M M w1 w2 from Turn.below HB2.out).trans g4)
  clear g3 g4
  have HX3 := Lib.hid (HX1.out.turn G34.out HMB.out)
  have HTS3 := Lib.hid (HTS.out.turn G34.out)
  have HMB3 := Lib.hid ((G34.out.mm _ HX1.out.lt).trans HMB.out)
  have G4 := Lib.hid (HT1.out.trans G34.out)
  clear b0 b1 b2 b3 bf
  obtain ⟨b0, b1, b2, b3, bf⟩ := HX3.out.four
  by_cases h0 : m = 0
  · have HE := Lib.hid (show calledW vs W (.mk 2 n s ts) = headW vs (.mk 2 n s ts) by
      rw [← HLA.out, show ts = [] from List.length_eq_zero_iff.1 (by rw [HM.out]; exact h0)]; simp)
    subst h0
    have hd0 : decide ((0 : Int) > 0) = false := by decide
    go_wp2
    go_end0
    exact ⟨rfl, M3, by rw [HE.out]; exact G3.out, G4.out⟩
  · have hd0 : decide ((m : Int) > 0) = true := decide_eq_true (by omega)
    have HE := Lib.hid (show calledW vs W (.mk 2 n s ts) = headW vs (.mk 2 n s ts) ++ 40 :: (rowW W ts ++ [41]) by
      rw [← HLA.out, if_neg (by intro e; rw [List.isEmpty_iff] at e; rw [← HM.out, e] at h0; exact h0 rfl)])
    have hzz := HZ.out
    rw [HE.out, List.length_append, List.length_cons, List.length_append, List.length_singleton] at hzz
    have HP1 := Lib.hid (put_at G3.out ⟨#[40]⟩ (by rw [open_bl1, List.length_append, List.length_singleton]; omega))
    have HZZ := Lib.hid hzz
    clear hzz
    (go_wp2_with fail; go_fit (HP1.out); rintro e w4 ⟨rfl, M4, g5, g6⟩)
    have HX4 := Lib.hid (HX3.out.turn g6 HMB3.out)
    have HMB4 := Lib.hid ((g6.mm _ HX3.out.lt).trans HMB3.out)
    have HRW := Lib.hid (row_item HAA.out HL.out g5 (HTS3.out.turn g6) (by have := HZZ.out; rw [open_bl1, List.length_append, List.length_append, List.length_singleton]; omega))
    have G6 := Lib.hid (G4.out.trans g6)
    clear g5 g6 b0 b1 b2 b3 bf
    obtain ⟨b0, b1, b2, b3, bf⟩ := HX4.out.four
    (go_wp2_with fail; go_fit (HRW.out); rintro e w5 ⟨rfl, M5, g7, g8⟩)
    have HP2 := Lib.hid (put_at g7 ⟨#[41]⟩ (by have := HZZ.out; rw [open_bl1, shut_bl1, List.length_append, List.length_append, List.length_append, List.length_singleton, List.length_singleton]; omega))
    have G8 := Lib.hid (G6.out.trans g8)
    clear g7 g8
    (go_wp2_with fail; go_fit (HP2.out); rintro e w6 ⟨rfl, M6, g9, g10⟩)
    have G10 := Lib.hid (G8.out.trans g10)
    have G9 := Lib.hid g9
    clear g9 g10
    go_wp2
    go_end0
    exact ⟨rfl, M6, by have := G9.out; rw [HE.out]; rw [open_bl1, shut_bl1] at this; simpa using this, G10.out⟩
set_option maxHeartbeats 8000000 in
theorem called_item_1 {W : Tm → List UInt8} {n' wb : Nat} {xs : List O} {vs : List Int} (HA : ArgC 136 W n' wb xs vs) {n : Int} {s : ByteArray} {ts : List Tm} (hl : ∀ x ∈ ts, sizeN x < n' ∧ goodT x = true) {M : Nat → Bool} {w : World} {out : List UInt8} (h : Wr M w wb xs vs out) {v : Value} (hv : TmV (hide M w) (.mk 1 n s ts) v) (hz : out.length + (calledW vs W (.mk 1 n s ts)).length ≤ 1000000000) :
    Calls Tryz.prog 92 #[.pointer (some ⟨wb, 0, none⟩), v, .func (.func 136) #[.pointer (some ⟨wb, 0, none⟩)] #[]] w (WPost M w wb xs vs (out ++ calledW vs W (.mk 1 n s ts))) := by
  obtain ⟨u, rfl, hs, hk64, hn64, hu⟩ := tmV_iff.1 hv
  obtain ⟨au, cu, rfl, hu1, hu2, hu3⟩ := hu.len
  unfold BIG at hu3 hs
  unfold maxLen at hu2
  unfold I64 at hn64
  obtain ⟨m, hm⟩ : ∃ m, ts.length = m := ⟨_, rfl⟩
  have HM := Lib.hid hm
  rw [hm] at hu hu1 hu3
  rw [hm]
  obtain ⟨w1, hw1, hb1, hz1, hx1⟩ := box_new w #[.int .i64 1, .int .i64 n, .string s, .slice au m cu] 27
  obtain ⟨b0, b1, b2, b3, bf⟩ := hx1.four
  have h1 := h.later hb1
  have HTS := Lib.hid (Tms.later hb1 hu)
  have HZ := Lib.hid hz
  have HL := Lib.hid hl
  have HAA := Lib.hid HA
  have HMB := Lib.hid (h.new (Nat.le_refl w.heap.size))
  have HT1 := Lib.hid (show Turn M M M M w w1 from Turn.below hb1)
  have HX1 := Lib.hid hx1
  have HLA := Lib.hid (show headW vs (.mk 1 n s ts) ++ (if ts.isEmpty then [] else 40 :: (rowW W ts ++ [41])) = calledW vs W (.mk 1 n s ts) from rfl)
  have HZH := Lib.hid (show out.length + (headW vs (.mk 1 n s ts)).length ≤ 1000000000 by have := HLA.out; rw [← this, List.length_append] at hz; omega)
  have HQ := Lib.hid (format_any hn64.1 hn64.2 h1.con)
  have H1 := Lib.hid h1
  clear h hv hu hm hl hz hb1 hz1 hx1 HA
  go_enter Tryz.func92, Tryz.ntmps92
  go_wp2_with fail
  (try rw [hw1])
  clear hw1
  (go_wp2_with fail; go_fit (HQ.out); rintro e w2 ⟨rfl, hb2⟩)
  have HP := Lib.hid (put_at (H1.out.later hb2) ⟨(numW n).toArray⟩ (by rw [bl_mk]; exact HZH.out))
  have HB2 := Lib.hid hb2
  clear hb2
  (go_wp2_with fail; go_fit (HP.out); rintro e w3 ⟨rfl, M3, g3, g4⟩)
  have G3 := Lib.hid (show Wr M3 w3 wb xs vs (out ++ headW vs (.mk 1 n s ts)) by rw [bl_mk] at g3; exact g3)
  have G34 := Lib.hid ((show Turn M M M M w1 w2 from Turn.below HB2.out).trans g4)
  clear g3 g4
  have HX3 := Lib.hid (HX1.out.turn G34.out HMB.out)
  have HTS3 := Lib.hid (HTS.out.turn G34.out)
  have HMB3 := Lib.hid ((G34.out.mm _ HX1.out.lt).trans HMB.out)
  have G4 := Lib.hid (HT1.out.trans G34.out)
  clear b0 b1 b2 b3 bf
  obtain ⟨b0, b1, b2, b3, bf⟩ := HX3.out.four
  by_cases h0 : m = 0
  · have HE := Lib.hid (show calledW vs W (.mk 1 n s ts) = headW vs (.mk 1 n s ts) by
      rw [← HLA.out, show ts = [] from List.length_eq_zero_iff.1 (by rw [HM.out]; exact h0)]; simp)
    subst h0
    have hd0 : decide ((0 : Int) > 0) = false := by decide
    go_wp2
    go_end0
    exact ⟨rfl, M3, by rw [HE.out]; exact G3.out, G4.out⟩
  · have hd0 : decide ((m : Int) > 0) = true := decide_eq_true (by omega)
    have HE := Lib.hid (show calledW vs W (.mk 1 n s ts) = headW vs (.mk 1 n s ts) ++ 40 :: (rowW W ts ++ [41]) by
      rw [← HLA.out, if_neg (by intro e; rw [List.isEmpty_iff] at e; rw [← HM.out, e] at h0; exact h0 rfl)])
    have hzz := HZ.out
    rw [HE.out, List.length_append, List.length_cons, List.length_append, List.length_singleton] at hzz
    have HP1 := Lib.hid (put_at G3.out ⟨#[40]⟩ (by rw [open_bl1, List.length_append, List.length_singleton]; omega))
    have HZZ := Lib.hid hzz
    clear hzz
    (go_wp2_with fail; go_fit (HP1.out); rintro e w4 ⟨rfl, M4, g5, g6⟩)
    have HX4 := Lib.hid (HX3.out.turn g6 HMB3.out)
    have HMB4 := Lib.hid ((g6.mm _ HX3.out.lt).trans HMB3.out)
    have HRW := Lib.hid (row_item HAA.out HL.out g5 (HTS3.out.turn g6) (by have := HZZ.out; rw [open_bl1, List.length_append, List.length_append, List.length_singleton]; omega))
    have G6 := Lib.hid (G4.out.trans g6)
    clear g5 g6 b0 b1 b2 b3 bf
    obtain ⟨b0, b1, b2, b3, bf⟩ := HX4.out.four
    (go_wp2_with fail; go_fit (HRW.out); rintro e w5 ⟨rfl, M5, g7, g8⟩)
    have HP2 := Lib.hid (put_at g7 ⟨#[41]⟩ (by have := HZZ.out; rw [open_bl1, shut_bl1, List.length_append, List.length_append, List.length_append, List.length_singleton, List.length_singleton]; omega))
    have G8 := Lib.hid (G6.out.trans g8)
    clear g7 g8
    (go_wp2_with fail; go_fit (HP2.out); rintro e w6 ⟨rfl, M6, g9, g10⟩)
    have G10 := Lib.hid (G8.out.trans g10)
    have G9 := Lib.hid g9
    clear g9 g10
    go_wp2
    go_end0
    exact ⟨rfl, M6, by have := G9.out; rw [HE.out]; rw [open_bl1, shut_bl1] at this; simpa using this, G10.out⟩
set_option maxHeartbeats 8000000 in
theorem called_item_0 {W : Tm → List UInt8} {n' wb : Nat} {xs : List O} {vs : List Int} (HA : ArgC 136 W n' wb xs vs) {n : Int} {s : ByteArray} {ts : List Tm} (hl : ∀ x ∈ ts, sizeN x < n' ∧ goodT x = true) {M : Nat → Bool} {w : World} {out : List UInt8} (h : Wr M w wb xs vs out) {v : Value} (hv : TmV (hide M w) (.mk 0 n s ts) v) (hz : out.length + (calledW vs W (.mk 0 n s ts)).length ≤ 1000000000) :
    Calls Tryz.prog 92 #[.pointer (some ⟨wb, 0, none⟩), v, .func (.func 136) #[.pointer (some ⟨wb, 0, none⟩)] #[]] w (WPost M w wb xs vs (out ++ calledW vs W (.mk 0 n s ts))) := by
  obtain ⟨u, rfl, hs, hk64, hn64, hu⟩ := tmV_iff.1 hv
  obtain ⟨au, cu, rfl, hu1, hu2, hu3⟩ := hu.len
  unfold BIG at hu3 hs
  unfold maxLen at hu2
  unfold I64 at hn64
  obtain ⟨m, hm⟩ : ∃ m, ts.length = m := ⟨_, rfl⟩
  have HM := Lib.hid hm
  rw [hm] at hu hu1 hu3
  rw [hm]
  obtain ⟨w1, hw1, hb1, hz1, hx1⟩ := box_new w #[.int .i64 0, .int .i64 n, .string s, .slice au m cu] 27
  obtain ⟨b0, b1, b2, b3, bf⟩ := hx1.four
  have h1 := h.later hb1
  have HTS := Lib.hid (Tms.later hb1 hu)
  have HZ := Lib.hid hz
  have HL := Lib.hid hl
  have HAA := Lib.hid HA
  have HMB := Lib.hid (h.new (Nat.le_refl w.heap.size))
  have HT1 := Lib.hid (show Turn M M M M w w1 from Turn.below hb1)
  have HX1 := Lib.hid hx1
  have HLA := Lib.hid (show headW vs (.mk 0 n s ts) ++ (if ts.isEmpty then [] else 40 :: (rowW W ts ++ [41])) = calledW vs W (.mk 0 n s ts) from rfl)
  have HZH := Lib.hid (show out.length + (headW vs (.mk 0 n s ts)).length ≤ 1000000000 by have := HLA.out; rw [← this, List.length_append] at hz; omega)
  obtain ⟨_, vv, _, _, v1, _, _, _, hnv, _⟩ := h1.parts
  have HIX := Lib.hid (fun wq (hb : Below w1.heap.size w1 wq) => windex_at (hnv.ext hb) n)
  obtain ⟨_, _, hvl, hvl1, hvl2⟩ := hnv.len
  have hib := idx_bound (vs := vs) (n := n)
  unfold maxLen at hvl2
  have HIR := Lib.hid (show -9223372036854775808 ≤ idxW vs n ∧ idxW vs n ≤ 9223372036854775807 by rcases hib with h | h <;> omega)
  have HIT := Lib.hid (fun wq (hb : Below w1.heap.size w1 wq) => itoa_any HIR.out.1 HIR.out.2 (h1.con.ext hb))
  obtain ⟨Z, hZ⟩ : ∃ Z : ByteArray, (⟨(numW (idxW vs n)).toArray⟩ : ByteArray) = Z := ⟨_, rfl⟩
  have hzb : bl Z = numW (idxW vs n) := by rw [← hZ, bl_mk]
  have hzs : Z.size ≤ 1000 := by
    rw [show Z.size = (bl Z).length from (bl_len Z).symm, hzb]
    exact numW_len HIR.out.1 HIR.out.2
  have HZB := Lib.hid (show bl ((⟨#[95]⟩ : ByteArray) ++ Z) = headW vs (.mk 0 n s ts) by
    rw [show bl ((⟨#[95]⟩ : ByteArray) ++ Z) = 95 :: bl Z by simp [bl], hzb]
    rfl)
  rw [hZ] at HIT
  have H1 := Lib.hid h1
  have hzc : ¬ 9223372036854775807 < 1 + Z.size := by omega
  clear hvl hvl1 hvl2 hib hnv hZ hzb
  clear h hv hu hm hl hz hb1 hz1 hx1 HA
  go_enter Tryz.func92, Tryz.ntmps92
  go_wp2_with fail
  (try rw [hw1])
  clear hw1
  refine wp_region_held_drew (S := fun w' => w'.cell? ⟨wb, 1, none⟩ = some vv ∧ w'.cell? ⟨w.heap.size, 1, none⟩ = some (.int .i64 n)) (by kernel_rfl) ⟨v1, b1⟩ (fun hHeld => ?_)
  first | (refine held_t (i := 0) hHeld ?_; apply Exists.intro; refine ⟨fun wq hq => ?_, ?_⟩; (focus ((try dsimp only at hq); go_simp; (first | done | with_reducible rfl | fail)))) | refine held_s (i := 0) hHeld ?_ | fail
  first | (refine held_t (i := 1) hHeld ?_; apply Exists.intro; refine ⟨fun wq hq => ?_, ?_⟩; (focus ((try dsimp only at hq); go_simp; (first | done | with_reducible rfl | fail)))) | refine held_s (i := 1) hHeld ?_ | fail
  first | (refine held_t (i := 2) hHeld ?_; apply Exists.intro; refine ⟨fun wq hq => ?_, ?_⟩; (focus ((try dsimp only at hq); go_simp; (first | done | with_reducible rfl | fail)))) | refine held_s (i := 2) hHeld ?_ | fail
  first | (refine held_t (i := 3) hHeld ?_; apply Exists.intro; refine ⟨fun wq hq => ?_, ?_⟩; (focus ((try dsimp only at hq); go_simp; (first | done | with_reducible rfl | fail)))) | refine held_s (i := 3) hHeld ?_ | fail
  first | (refine held_t (i := 4) hHeld ?_; apply Exists.intro; refine ⟨fun wq hq => ?_, ?_⟩; (focus ((try dsimp only at hq); go_simp; (first | done | with_reducible rfl | fail)))) | refine held_s (i := 4) hHeld ?_ | fail
  first | (refine held_t (i := 5) hHeld ?_; apply Exists.intro; refine ⟨fun wq hq => ?_, ?_⟩; (focus ((try dsimp only at hq); go_simp; (first | done | with_reducible rfl | fail)))) | refine held_s (i := 5) hHeld ?_ | fail
  first | (refine held_t (i := 6) hHeld ?_; apply Exists.intro; refine ⟨fun wq hq => ?_, ?_⟩; (focus ((try dsimp only at hq); go_simp; (first | done | with_reducible rfl | fail)))) | refine held_s (i := 6) hHeld ?_ | fail
  try simp only [Act.put, List.setIfInBounds_toArray, List.set_cons_zero, List.set_cons_succ]
  refine held_c 7 fun K hK => ?_
  go_simp
  (go_at_call 112; refine (HIX.out _ (Below.refl _ _).drew).mono ?_; rintro e w2 ⟨rfl, rfl⟩)
  refine hK.out _ _ (hHeld) (fun hHeld => ?_)
  clear hK K
  try simp only [Act.put, List.setIfInBounds_toArray, List.set_cons_zero, List.set_cons_succ]
  refine held_c 8 fun K hK => ?_
  go_simp
  (go_at_call 137; refine (HIT.out _ (Below.refl _ _).drew).mono ?_; rintro e w2 ⟨rfl, hb2⟩)
  refine hK.out _ _ (⟨cell_later hb2 hHeld.1, cell_later hb2 hHeld.2⟩) (fun hHeld => ?_)
  clear hK K
  try simp only [Act.put, List.setIfInBounds_toArray, List.set_cons_zero, List.set_cons_succ]
  first | (refine held_t (i := 9) hHeld ?_; apply Exists.intro; refine ⟨fun wq hq => ?_, ?_⟩; (focus ((try dsimp only at hq); go_simp; (first | done | with_reducible rfl | fail)))) | refine held_s (i := 9) hHeld ?_ | fail
  try simp only [Act.put, List.setIfInBounds_toArray, List.set_cons_zero, List.set_cons_succ]
  refine held_c 10 fun K hK => ?_
  go_simp
  (go_at_call 91; refine (put_keeps (H1.out.later (Ext.trans' (Below.refl _ _).drew hb2)) _ (by rw [HZB.out]; exact HZH.out)).mono ?_; rintro e w3 ⟨⟨rfl, M3, g3, g4⟩, g5⟩)
  refine hK.out _ _ (⟨(g5 1 (by decide)).trans hHeld.1, g4.cell HMB.out hHeld.2⟩) (fun hHeld => ?_)
  clear hK K
  try simp only [Act.put, List.setIfInBounds_toArray, List.set_cons_zero, List.set_cons_succ]
  refine wpAnyH_done (by kernel_rfl) ?_ _
  have G3 := Lib.hid (show Wr M3 w3 wb xs vs (out ++ headW vs (.mk 0 n s ts)) by rw [HZB.out] at g3; exact g3)
  have G34 := Lib.hid ((show Turn M M M M w1 w2 from Turn.below (Ext.trans' (Below.refl _ _).drew hb2)).trans g4)
  clear g3 g4 g5 hb2 hHeld
  have HX3 := Lib.hid (HX1.out.turn G34.out HMB.out)
  have HTS3 := Lib.hid (HTS.out.turn G34.out)
  have HMB3 := Lib.hid ((G34.out.mm _ HX1.out.lt).trans HMB.out)
  have G4 := Lib.hid (HT1.out.trans G34.out)
  clear b0 b1 b2 b3 bf
  obtain ⟨b0, b1, b2, b3, bf⟩ := HX3.out.four
  by_cases h0 : m = 0
  · have HE := Lib.hid (show calledW vs W (.mk 0 n s ts) = headW vs (.mk 0 n s ts) by
      rw [← HLA.out, show ts = [] from List.length_eq_zero_iff.1 (by rw [HM.out]; exact h0)]; simp)
    subst h0
    have hd0 : decide ((0 : Int) > 0) = false := by decide
    go_wp2
    go_end0
    exact ⟨rfl, M3, by rw [HE.out]; exact G3.out, G4.out⟩
  · have hd0 : decide ((m : Int) > 0) = true := decide_eq_true (by omega)
    have HE := Lib.hid (show calledW vs W (.mk 0 n s ts) = headW vs (.mk 0 n s ts) ++ 40 :: (rowW W ts ++ [41]) by
      rw [← HLA.out, if_neg (by intro e; rw [List.isEmpty_iff] at e; rw [← HM.out, e] at h0; exact h0 rfl)])
    have hzz := HZ.out
    rw [HE.out, List.length_append, List.length_cons, List.length_append, List.length_singleton] at hzz
    have HP1 := Lib.hid (put_at G3.out ⟨#[40]⟩ (by rw [open_bl1, List.length_append, List.length_singleton]; omega))
    have HZZ := Lib.hid hzz
    clear hzz
    (go_wp2_with fail; go_fit (HP1.out); rintro e w4 ⟨rfl, M4, g5, g6⟩)
    have HX4 := Lib.hid (HX3.out.turn g6 HMB3.out)
    have HMB4 := Lib.hid ((g6.mm _ HX3.out.lt).trans HMB3.out)
    have HRW := Lib.hid (row_item HAA.out HL.out g5 (HTS3.out.turn g6) (by have := HZZ.out; rw [open_bl1, List.length_append, List.length_append, List.length_singleton]; omega))
    have G6 := Lib.hid (G4.out.trans g6)
    clear g5 g6 b0 b1 b2 b3 bf
    obtain ⟨b0, b1, b2, b3, bf⟩ := HX4.out.four
    (go_wp2_with fail; go_fit (HRW.out); rintro e w5 ⟨rfl, M5, g7, g8⟩)
    have HP2 := Lib.hid (put_at g7 ⟨#[41]⟩ (by have := HZZ.out; rw [open_bl1, shut_bl1, List.length_append, List.length_append, List.length_append, List.length_singleton, List.length_singleton]; omega))
    have G8 := Lib.hid (G6.out.trans g8)
    clear g7 g8
    (go_wp2_with fail; go_fit (HP2.out); rintro e w6 ⟨rfl, M6, g9, g10⟩)
    have G10 := Lib.hid (G8.out.trans g10)
    have G9 := Lib.hid g9
    clear g9 g10
    go_wp2
    go_end0
    exact ⟨rfl, M6, by have := G9.out; rw [HE.out]; rw [open_bl1, shut_bl1] at this; simpa using this, G10.out⟩
set_option maxHeartbeats 8000000 in
theorem called_plain_2 {W : Tm → List UInt8} {n' wb : Nat} {xs : List O} {vs : List Int} (HA : ArgC 57 W n' wb xs vs) {n : Int} {s : ByteArray} {ts : List Tm} (hl : ∀ x ∈ ts, sizeN x < n' ∧ goodT x = true) {M : Nat → Bool} {w : World} {out : List UInt8} (h : Wr M w wb xs vs out) {v : Value} (hv : TmV (hide M w) (.mk 2 n s ts) v) (hz : out.length + (calledW vs W (.mk 2 n s ts)).length ≤ 1000000000) :
    Calls Tryz.prog 92 #[.pointer (some ⟨wb, 0, none⟩), v, .func (.func 57) #[.pointer (some ⟨wb, 0, none⟩)] #[]] w (WPost M w wb xs vs (out ++ calledW vs W (.mk 2 n s ts))) := by
  obtain ⟨u, rfl, hs, hk64, hn64, hu⟩ := tmV_iff.1 hv
  obtain ⟨au, cu, rfl, hu1, hu2, hu3⟩ := hu.len
  unfold BIG at hu3 hs
  unfold maxLen at hu2
  unfold I64 at hn64
  obtain ⟨m, hm⟩ : ∃ m, ts.length = m := ⟨_, rfl⟩
  have HM := Lib.hid hm
  rw [hm] at hu hu1 hu3
  rw [hm]
  obtain ⟨w1, hw1, hb1, hz1, hx1⟩ := box_new w #[.int .i64 2, .int .i64 n, .string s, .slice au m cu] 27
  obtain ⟨b0, b1, b2, b3, bf⟩ := hx1.four
  have h1 := h.later hb1
  have HTS := Lib.hid (Tms.later hb1 hu)
  have HZ := Lib.hid hz
  have HL := Lib.hid hl
  have HAA := Lib.hid HA
  have HMB := Lib.hid (h.new (Nat.le_refl w.heap.size))
  have HT1 := Lib.hid (show Turn M M M M w w1 from Turn.below hb1)
  have HX1 := Lib.hid hx1
  have HLA := Lib.hid (show headW vs (.mk 2 n s ts) ++ (if ts.isEmpty then [] else 40 :: (rowW W ts ++ [41])) = calledW vs W (.mk 2 n s ts) from rfl)
  have HZH := Lib.hid (show out.length + (headW vs (.mk 2 n s ts)).length ≤ 1000000000 by have := HLA.out; rw [← this, List.length_append] at hz; omega)
  have HQ := Lib.hid (quote_any s w1 h1.con.err (by omega))
  have H1 := Lib.hid h1
  clear h hv hu hm hl hz hb1 hz1 hx1 HA
  go_enter Tryz.func92, Tryz.ntmps92
  go_wp2_with fail
  (try rw [hw1])
  clear hw1
  (go_wp2_with fail; go_fit (HQ.out); rintro e w2 ⟨rfl, hb2⟩)
  have HP := Lib.hid (put_at (H1.out.later hb2) ⟨(quoteB (bl s)).toArray⟩ (by rw [bl_mk]; exact HZH.out))
  have HB2 := Lib.hid hb2
  clear hb2
  (go_wp2_with fail; go_fit (HP.out); rintro e w3 ⟨rfl, M3, g3, g4⟩)
  have G3 := Lib.hid (show Wr M3 w3 wb xs vs (out ++ headW vs (.mk 2 n s ts)) by rw [bl_mk] at g3; exact g3)
  have G34 := Lib.hid ((show Turn M M M M w1 w2 from Turn.below HB2.out).trans g4)
  clear g3 g4
  have HX3 := Lib.hid (HX1.out.turn G34.out HMB.out)
  have HTS3 := Lib.hid (HTS.out.turn G34.out)
  have HMB3 := Lib.hid ((G34.out.mm _ HX1.out.lt).trans HMB.out)
  have G4 := Lib.hid (HT1.out.trans G34.out)
  clear b0 b1 b2 b3 bf
  obtain ⟨b0, b1, b2, b3, bf⟩ := HX3.out.four
  by_cases h0 : m = 0
  · have HE := Lib.hid (show calledW vs W (.mk 2 n s ts) = headW vs (.mk 2 n s ts) by
      rw [← HLA.out, show ts = [] from List.length_eq_zero_iff.1 (by rw [HM.out]; exact h0)]; simp)
    subst h0
    have hd0 : decide ((0 : Int) > 0) = false := by decide
    go_wp2
    go_end0
    exact ⟨rfl, M3, by rw [HE.out]; exact G3.out, G4.out⟩
  · have hd0 : decide ((m : Int) > 0) = true := decide_eq_true (by omega)
    have HE := Lib.hid (show calledW vs W (.mk 2 n s ts) = headW vs (.mk 2 n s ts) ++ 40 :: (rowW W ts ++ [41]) by
      rw [← HLA.out, if_neg (by intro e; rw [List.isEmpty_iff] at e; rw [← HM.out, e] at h0; exact h0 rfl)])
    have hzz := HZ.out
    rw [HE.out, List.length_append, List.length_cons, List.length_append, List.length_singleton] at hzz
    have HP1 := Lib.hid (put_at G3.out ⟨#[40]⟩ (by rw [open_bl1, List.length_append, List.length_singleton]; omega))
    have HZZ := Lib.hid hzz
    clear hzz
    (go_wp2_with fail; go_fit (HP1.out); rintro e w4 ⟨rfl, M4, g5, g6⟩)
    have HX4 := Lib.hid (HX3.out.turn g6 HMB3.out)
    have HMB4 := Lib.hid ((g6.mm _ HX3.out.lt).trans HMB3.out)
    have HRW := Lib.hid (row_plain HAA.out HL.out g5 (HTS3.out.turn g6) (by have := HZZ.out; rw [open_bl1, List.length_append, List.length_append, List.length_singleton]; omega))
    have G6 := Lib.hid (G4.out.trans g6)
    clear g5 g6 b0 b1 b2 b3 bf
    obtain ⟨b0, b1, b2, b3, bf⟩ := HX4.out.four
    (go_wp2_with fail; go_fit (HRW.out); rintro e w5 ⟨rfl, M5, g7, g8⟩)
    have HP2 := Lib.hid (put_at g7 ⟨#[41]⟩ (by have := HZZ.out; rw [open_bl1, shut_bl1, List.length_append, List.length_append, List.length_append, List.length_singleton, List.length_singleton]; omega))
    have G8 := Lib.hid (G6.out.trans g8)
    clear g7 g8
    (go_wp2_with fail; go_fit (HP2.out); rintro e w6 ⟨rfl, M6, g9, g10⟩)
    have G10 := Lib.hid (G8.out.trans g10)
    have G9 := Lib.hid g9
    clear g9 g10
    go_wp2
    go_end0
    exact ⟨rfl, M6, by have := G9.out; rw [HE.out]; rw [open_bl1, shut_bl1] at this; simpa using this, G10.out⟩
set_option maxHeartbeats 8000000 in
theorem called_plain_1 {W : Tm → List UInt8} {n' wb : Nat} {xs : List O} {vs : List Int} (HA : ArgC 57 W n' wb xs vs) {n : Int} {s : ByteArray} {ts : List Tm} (hl : ∀ x ∈ ts, sizeN x < n' ∧ goodT x = true) {M : Nat → Bool} {w : World} {out : List UInt8} (h : Wr M w wb xs vs out) {v : Value} (hv : TmV (hide M w) (.mk 1 n s ts) v) (hz : out.length + (calledW vs W (.mk 1 n s ts)).length ≤ 1000000000) :
    Calls Tryz.prog 92 #[.pointer (some ⟨wb, 0, none⟩), v, .func (.func 57) #[.pointer (some ⟨wb, 0, none⟩)] #[]] w (WPost M w wb xs vs (out ++ calledW vs W (.mk 1 n s ts))) := by
  obtain ⟨u, rfl, hs, hk64, hn64, hu⟩ := tmV_iff.1 hv
  obtain ⟨au, cu, rfl, hu1, hu2, hu3⟩ := hu.len
  unfold BIG at hu3 hs
  unfold maxLen at hu2
  unfold I64 at hn64
  obtain ⟨m, hm⟩ : ∃ m, ts.length = m := ⟨_, rfl⟩
  have HM := Lib.hid hm
  rw [hm] at hu hu1 hu3
  rw [hm]
  obtain ⟨w1, hw1, hb1, hz1, hx1⟩ := box_new w #[.int .i64 1, .int .i64 n, .string s, .slice au m cu] 27
  obtain ⟨b0, b1, b2, b3, bf⟩ := hx1.four
  have h1 := h.later hb1
  have HTS := Lib.hid (Tms.later hb1 hu)
  have HZ := Lib.hid hz
  have HL := Lib.hid hl
  have HAA := Lib.hid HA
  have HMB := Lib.hid (h.new (Nat.le_refl w.heap.size))
  have HT1 := Lib.hid (show Turn M M M M w w1 from Turn.below hb1)
  have HX1 := Lib.hid hx1
  have HLA := Lib.hid (show headW vs (.mk 1 n s ts) ++ (if ts.isEmpty then [] else 40 :: (rowW W ts ++ [41])) = calledW vs W (.mk 1 n s ts) from rfl)
  have HZH := Lib.hid (show out.length + (headW vs (.mk 1 n s ts)).length ≤ 1000000000 by have := HLA.out; rw [← this, List.length_append] at hz; omega)
  have HQ := Lib.hid (format_any hn64.1 hn64.2 h1.con)
  have H1 := Lib.hid h1
  clear h hv hu hm hl hz hb1 hz1 hx1 HA
  go_enter Tryz.func92, Tryz.ntmps92
  go_wp2_with fail
  (try rw [hw1])
  clear hw1
  (go_wp2_with fail; go_fit (HQ.out); rintro e w2 ⟨rfl, hb2⟩)
  have HP := Lib.hid (put_at (H1.out.later hb2) ⟨(numW n).toArray⟩ (by rw [bl_mk]; exact HZH.out))
  have HB2 := Lib.hid hb2
  clear hb2
  (go_wp2_with fail; go_fit (HP.out); rintro e w3 ⟨rfl, M3, g3, g4⟩)
  have G3 := Lib.hid (show Wr M3 w3 wb xs vs (out ++ headW vs (.mk 1 n s ts)) by rw [bl_mk] at g3; exact g3)
  have G34 := Lib.hid ((show Turn M M M M w1 w2 from Turn.below HB2.out).trans g4)
  clear g3 g4
  have HX3 := Lib.hid (HX1.out.turn G34.out HMB.out)
  have HTS3 := Lib.hid (HTS.out.turn G34.out)
  have HMB3 := Lib.hid ((G34.out.mm _ HX1.out.lt).trans HMB.out)
  have G4 := Lib.hid (HT1.out.trans G34.out)
  clear b0 b1 b2 b3 bf
  obtain ⟨b0, b1, b2, b3, bf⟩ := HX3.out.four
  by_cases h0 : m = 0
  · have HE := Lib.hid (show calledW vs W (.mk 1 n s ts) = headW vs (.mk 1 n s ts) by
      rw [← HLA.out, show ts = [] from List.length_eq_zero_iff.1 (by rw [HM.out]; exact h0)]; simp)
    subst h0
    have hd0 : decide ((0 : Int) > 0) = false := by decide
    go_wp2
    go_end0
    exact ⟨rfl, M3, by rw [HE.out]; exact G3.out, G4.out⟩
  · have hd0 : decide ((m : Int) > 0) = true := decide_eq_true (by omega)
    have HE := Lib.hid (show calledW vs W (.mk 1 n s ts) = headW vs (.mk 1 n s ts) ++ 40 :: (rowW W ts ++ [41]) by
      rw [← HLA.out, if_neg (by intro e; rw [List.isEmpty_iff] at e; rw [← HM.out, e] at h0; exact h0 rfl)])
    have hzz := HZ.out
    rw [HE.out, List.length_append, List.length_cons, List.length_append, List.length_singleton] at hzz
    have HP1 := Lib.hid (put_at G3.out ⟨#[40]⟩ (by rw [open_bl1, List.length_append, List.length_singleton]; omega))
    have HZZ := Lib.hid hzz
    clear hzz
    (go_wp2_with fail; go_fit (HP1.out); rintro e w4 ⟨rfl, M4, g5, g6⟩)
    have HX4 := Lib.hid (HX3.out.turn g6 HMB3.out)
    have HMB4 := Lib.hid ((g6.mm _ HX3.out.lt).trans HMB3.out)
    have HRW := Lib.hid (row_plain HAA.out HL.out g5 (HTS3.out.turn g6) (by have := HZZ.out; rw [open_bl1, List.length_append, List.length_append, List.length_singleton]; omega))
    have G6 := Lib.hid (G4.out.trans g6)
    clear g5 g6 b0 b1 b2 b3 bf
    obtain ⟨b0, b1, b2, b3, bf⟩ := HX4.out.four
    (go_wp2_with fail; go_fit (HRW.out); rintro e w5 ⟨rfl, M5, g7, g8⟩)
    have HP2 := Lib.hid (put_at g7 ⟨#[41]⟩ (by have := HZZ.out; rw [open_bl1, shut_bl1, List.length_append, List.length_append, List.length_append, List.length_singleton, List.length_singleton]; omega))
    have G8 := Lib.hid (G6.out.trans g8)
    clear g7 g8
    (go_wp2_with fail; go_fit (HP2.out); rintro e w6 ⟨rfl, M6, g9, g10⟩)
    have G10 := Lib.hid (G8.out.trans g10)
    have G9 := Lib.hid g9
    clear g9 g10
    go_wp2
    go_end0
    exact ⟨rfl, M6, by have := G9.out; rw [HE.out]; rw [open_bl1, shut_bl1] at this; simpa using this, G10.out⟩
set_option maxHeartbeats 8000000 in
theorem called_plain_0 {W : Tm → List UInt8} {n' wb : Nat} {xs : List O} {vs : List Int} (HA : ArgC 57 W n' wb xs vs) {n : Int} {s : ByteArray} {ts : List Tm} (hl : ∀ x ∈ ts, sizeN x < n' ∧ goodT x = true) {M : Nat → Bool} {w : World} {out : List UInt8} (h : Wr M w wb xs vs out) {v : Value} (hv : TmV (hide M w) (.mk 0 n s ts) v) (hz : out.length + (calledW vs W (.mk 0 n s ts)).length ≤ 1000000000) :
    Calls Tryz.prog 92 #[.pointer (some ⟨wb, 0, none⟩), v, .func (.func 57) #[.pointer (some ⟨wb, 0, none⟩)] #[]] w (WPost M w wb xs vs (out ++ calledW vs W (.mk 0 n s ts))) := by
  obtain ⟨u, rfl, hs, hk64, hn64, hu⟩ := tmV_iff.1 hv
  obtain ⟨au, cu, rfl, hu1, hu2, hu3⟩ := hu.len
  unfold BIG at hu3 hs
  unfold maxLen at hu2
  unfold I64 at hn64
  obtain ⟨m, hm⟩ : ∃ m, ts.length = m := ⟨_, rfl⟩
  have HM := Lib.hid hm
  rw [hm] at hu hu1 hu3
  rw [hm]
  obtain ⟨w1, hw1, hb1, hz1, hx1⟩ := box_new w #[.int .i64 0, .int .i64 n, .string s, .slice au m cu] 27
  obtain ⟨b0, b1, b2, b3, bf⟩ := hx1.four
  have h1 := h.later hb1
  have HTS := Lib.hid (Tms.later hb1 hu)
  have HZ := Lib.hid hz
  have HL := Lib.hid hl
  have HAA := Lib.hid HA
  have HMB := Lib.hid (h.new (Nat.le_refl w.heap.size))
  have HT1 := Lib.hid (show Turn M M M M w w1 from Turn.below hb1)
  have HX1 := Lib.hid hx1
  have HLA := Lib.hid (show headW vs (.mk 0 n s ts) ++ (if ts.isEmpty then [] else 40 :: (rowW W ts ++ [41])) = calledW vs W (.mk 0 n s ts) from rfl)
  have HZH := Lib.hid (show out.length + (headW vs (.mk 0 n s ts)).length ≤ 1000000000 by have := HLA.out; rw [← this, List.length_append] at hz; omega)
  obtain ⟨_, vv, _, _, v1, _, _, _, hnv, _⟩ := h1.parts
  have HIX := Lib.hid (fun wq (hb : Below w1.heap.size w1 wq) => windex_at (hnv.ext hb) n)
  obtain ⟨_, _, hvl, hvl1, hvl2⟩ := hnv.len
  have hib := idx_bound (vs := vs) (n := n)
  unfold maxLen at hvl2
  have HIR := Lib.hid (show -9223372036854775808 ≤ idxW vs n ∧ idxW vs n ≤ 9223372036854775807 by rcases hib with h | h <;> omega)
  have HIT := Lib.hid (fun wq (hb : Below w1.heap.size w1 wq) => itoa_any HIR.out.1 HIR.out.2 (h1.con.ext hb))
  obtain ⟨Z, hZ⟩ : ∃ Z : ByteArray, (⟨(numW (idxW vs n)).toArray⟩ : ByteArray) = Z := ⟨_, rfl⟩
  have hzb : bl Z = numW (idxW vs n) := by rw [← hZ, bl_mk]
  have hzs : Z.size ≤ 1000 := by
    rw [show Z.size = (bl Z).length from (bl_len Z).symm, hzb]
    exact numW_len HIR.out.1 HIR.out.2
  have HZB := Lib.hid (show bl ((⟨#[95]⟩ : ByteArray) ++ Z) = headW vs (.mk 0 n s ts) by
    rw [show bl ((⟨#[95]⟩ : ByteArray) ++ Z) = 95 :: bl Z by simp [bl], hzb]
    rfl)
  rw [hZ] at HIT
  have H1 := Lib.hid h1
  have hzc : ¬ 9223372036854775807 < 1 + Z.size := by omega
  clear hvl hvl1 hvl2 hib hnv hZ hzb
  clear h hv hu hm hl hz hb1 hz1 hx1 HA
  go_enter Tryz.func92, Tryz.ntmps92
  go_wp2_with fail
  (try rw [hw1])
  clear hw1
  refine wp_region_held_drew (S := fun w' => w'.cell? ⟨wb, 1, none⟩ = some vv ∧ w'.cell? ⟨w.heap.size, 1, none⟩ = some (.int .i64 n)) (by kernel_rfl) ⟨v1, b1⟩ (fun hHeld => ?_)
  first | (refine held_t (i := 0) hHeld ?_; apply Exists.intro; refine ⟨fun wq hq => ?_, ?_⟩; (focus ((try dsimp only at hq); go_simp; (first | done | with_reducible rfl | fail)))) | refine held_s (i := 0) hHeld ?_ | fail
  first | (refine held_t (i := 1) hHeld ?_; apply Exists.intro; refine ⟨fun wq hq => ?_, ?_⟩; (focus ((try dsimp only at hq); go_simp; (first | done | with_reducible rfl | fail)))) | refine held_s (i := 1) hHeld ?_ | fail
  first | (refine held_t (i := 2) hHeld ?_; apply Exists.intro; refine ⟨fun wq hq => ?_, ?_⟩; (focus ((try dsimp only at hq); go_simp; (first | done | with_reducible rfl | fail)))) | refine held_s (i := 2) hHeld ?_ | fail
  first | (refine held_t (i := 3) hHeld ?_; apply Exists.intro; refine ⟨fun wq hq => ?_, ?_⟩; (focus ((try dsimp only at hq); go_simp; (first | done | with_reducible rfl | fail)))) | refine held_s (i := 3) hHeld ?_ | fail
  first | (refine held_t (i := 4) hHeld ?_; apply Exists.intro; refine ⟨fun wq hq => ?_, ?_⟩; (focus ((try dsimp only at hq); go_simp; (first | done | with_reducible rfl | fail)))) | refine held_s (i := 4) hHeld ?_ | fail
  first | (refine held_t (i := 5) hHeld ?_; apply Exists.intro; refine ⟨fun wq hq => ?_, ?_⟩; (focus ((try dsimp only at hq); go_simp; (first | done | with_reducible rfl | fail)))) | refine held_s (i := 5) hHeld ?_ | fail
  first | (refine held_t (i := 6) hHeld ?_; apply Exists.intro; refine ⟨fun wq hq => ?_, ?_⟩; (focus ((try dsimp only at hq); go_simp; (first | done | with_reducible rfl | fail)))) | refine held_s (i := 6) hHeld ?_ | fail
  try simp only [Act.put, List.setIfInBounds_toArray, List.set_cons_zero, List.set_cons_succ]
  refine held_c 7 fun K hK => ?_
  go_simp
  (go_at_call 112; refine (HIX.out _ (Below.refl _ _).drew).mono ?_; rintro e w2 ⟨rfl, rfl⟩)
  refine hK.out _ _ (hHeld) (fun hHeld => ?_)
  clear hK K
  try simp only [Act.put, List.setIfInBounds_toArray, List.set_cons_zero, List.set_cons_succ]
  refine held_c 8 fun K hK => ?_
  go_simp
  (go_at_call 137; refine (HIT.out _ (Below.refl _ _).drew).mono ?_; rintro e w2 ⟨rfl, hb2⟩)
  refine hK.out _ _ (⟨cell_later hb2 hHeld.1, cell_later hb2 hHeld.2⟩) (fun hHeld => ?_)
  clear hK K
  try simp only [Act.put, List.setIfInBounds_toArray, List.set_cons_zero, List.set_cons_succ]
  first | (refine held_t (i := 9) hHeld ?_; apply Exists.intro; refine ⟨fun wq hq => ?_, ?_⟩; (focus ((try dsimp only at hq); go_simp; (first | done | with_reducible rfl | fail)))) | refine held_s (i := 9) hHeld ?_ | fail
  try simp only [Act.put, List.setIfInBounds_toArray, List.set_cons_zero, List.set_cons_succ]
  refine held_c 10 fun K hK => ?_
  go_simp
  (go_at_call 91; refine (put_keeps (H1.out.later (Ext.trans' (Below.refl _ _).drew hb2)) _ (by rw [HZB.out]; exact HZH.out)).mono ?_; rintro e w3 ⟨⟨rfl, M3, g3, g4⟩, g5⟩)
  refine hK.out _ _ (⟨(g5 1 (by decide)).trans hHeld.1, g4.cell HMB.out hHeld.2⟩) (fun hHeld => ?_)
  clear hK K
  try simp only [Act.put, List.setIfInBounds_toArray, List.set_cons_zero, List.set_cons_succ]
  refine wpAnyH_done (by kernel_rfl) ?_ _
  have G3 := Lib.hid (show Wr M3 w3 wb xs vs (out ++ headW vs (.mk 0 n s ts)) by rw [HZB.out] at g3; exact g3)
  have G34 := Lib.hid ((show Turn M M M M w1 w2 from Turn.below (Ext.trans' (Below.refl _ _).drew hb2)).trans g4)
  clear g3 g4 g5 hb2 hHeld
  have HX3 := Lib.hid (HX1.out.turn G34.out HMB.out)
  have HTS3 := Lib.hid (HTS.out.turn G34.out)
  have HMB3 := Lib.hid ((G34.out.mm _ HX1.out.lt).trans HMB.out)
  have G4 := Lib.hid (HT1.out.trans G34.out)
  clear b0 b1 b2 b3 bf
  obtain ⟨b0, b1, b2, b3, bf⟩ := HX3.out.four
  by_cases h0 : m = 0
  · have HE := Lib.hid (show calledW vs W (.mk 0 n s ts) = headW vs (.mk 0 n s ts) by
      rw [← HLA.out, show ts = [] from List.length_eq_zero_iff.1 (by rw [HM.out]; exact h0)]; simp)
    subst h0
    have hd0 : decide ((0 : Int) > 0) = false := by decide
    go_wp2
    go_end0
    exact ⟨rfl, M3, by rw [HE.out]; exact G3.out, G4.out⟩
  · have hd0 : decide ((m : Int) > 0) = true := decide_eq_true (by omega)
    have HE := Lib.hid (show calledW vs W (.mk 0 n s ts) = headW vs (.mk 0 n s ts) ++ 40 :: (rowW W ts ++ [41]) by
      rw [← HLA.out, if_neg (by intro e; rw [List.isEmpty_iff] at e; rw [← HM.out, e] at h0; exact h0 rfl)])
    have hzz := HZ.out
    rw [HE.out, List.length_append, List.length_cons, List.length_append, List.length_singleton] at hzz
    have HP1 := Lib.hid (put_at G3.out ⟨#[40]⟩ (by rw [open_bl1, List.length_append, List.length_singleton]; omega))
    have HZZ := Lib.hid hzz
    clear hzz
    (go_wp2_with fail; go_fit (HP1.out); rintro e w4 ⟨rfl, M4, g5, g6⟩)
    have HX4 := Lib.hid (HX3.out.turn g6 HMB3.out)
    have HMB4 := Lib.hid ((g6.mm _ HX3.out.lt).trans HMB3.out)
    have HRW := Lib.hid (row_plain HAA.out HL.out g5 (HTS3.out.turn g6) (by have := HZZ.out; rw [open_bl1, List.length_append, List.length_append, List.length_singleton]; omega))
    have G6 := Lib.hid (G4.out.trans g6)
    clear g5 g6 b0 b1 b2 b3 bf
    obtain ⟨b0, b1, b2, b3, bf⟩ := HX4.out.four
    (go_wp2_with fail; go_fit (HRW.out); rintro e w5 ⟨rfl, M5, g7, g8⟩)
    have HP2 := Lib.hid (put_at g7 ⟨#[41]⟩ (by have := HZZ.out; rw [open_bl1, shut_bl1, List.length_append, List.length_append, List.length_append, List.length_singleton, List.length_singleton]; omega))
    have G8 := Lib.hid (G6.out.trans g8)
    clear g7 g8
    (go_wp2_with fail; go_fit (HP2.out); rintro e w6 ⟨rfl, M6, g9, g10⟩)
    have G10 := Lib.hid (G8.out.trans g10)
    have G9 := Lib.hid g9
    clear g9 g10
    go_wp2
    go_end0
    exact ⟨rfl, M6, by have := G9.out; rw [HE.out]; rw [open_bl1, shut_bl1] at this; simpa using this, G10.out⟩
theorem called_item {W : Tm → List UInt8} {n' wb : Nat} {xs : List O} {vs : List Int} (HA : ArgC 136 W n' wb xs vs) {x : Tm} (hg : goodT x = true) (hl : ∀ y ∈ x.args, sizeN y < n') {M : Nat → Bool} {w : World} {out : List UInt8} (h : Wr M w wb xs vs out) {v : Value} (hv : TmV (hide M w) x v) (hz : out.length + (calledW vs W x).length ≤ 1000000000) :
    Calls Tryz.prog 92 #[.pointer (some ⟨wb, 0, none⟩), v, .func (.func 136) #[.pointer (some ⟨wb, 0, none⟩)] #[]] w (WPost M w wb xs vs (out ++ calledW vs W x)) := by
  cases x with
  | mk k n s ts =>
    have hl2 : ∀ y ∈ ts, sizeN y < n' ∧ goodT y = true := fun y hy => ⟨hl y hy, good_arg hg hy⟩
    have hf := (good_parts hg).2.2
    rw [formedT, Bool.and_eq_true] at hf
    have hp := hf.1
    unfold plainT at hp
    by_cases h0 : k = 0
    · subst h0; exact called_item_0 HA hl2 h hv hz
    · by_cases h1 : k = 1
      · subst h1; exact called_item_1 HA hl2 h hv hz
      · by_cases h2 : k = 2
        · subst h2; exact called_item_2 HA hl2 h hv hz
        · rw [if_neg h0, if_neg h1, if_neg h2] at hp; cases hp
theorem called_plain {W : Tm → List UInt8} {n' wb : Nat} {xs : List O} {vs : List Int} (HA : ArgC 57 W n' wb xs vs) {x : Tm} (hg : goodT x = true) (hl : ∀ y ∈ x.args, sizeN y < n') {M : Nat → Bool} {w : World} {out : List UInt8} (h : Wr M w wb xs vs out) {v : Value} (hv : TmV (hide M w) x v) (hz : out.length + (calledW vs W x).length ≤ 1000000000) :
    Calls Tryz.prog 92 #[.pointer (some ⟨wb, 0, none⟩), v, .func (.func 57) #[.pointer (some ⟨wb, 0, none⟩)] #[]] w (WPost M w wb xs vs (out ++ calledW vs W x)) := by
  cases x with
  | mk k n s ts =>
    have hl2 : ∀ y ∈ ts, sizeN y < n' ∧ goodT y = true := fun y hy => ⟨hl y hy, good_arg hg hy⟩
    have hf := (good_parts hg).2.2
    rw [formedT, Bool.and_eq_true] at hf
    have hp := hf.1
    unfold plainT at hp
    by_cases h0 : k = 0
    · subst h0; exact called_plain_0 HA hl2 h hv hz
    · by_cases h1 : k = 1
      · subst h1; exact called_plain_1 HA hl2 h hv hz
      · by_cases h2 : k = 2
        · subst h2; exact called_plain_2 HA hl2 h hv hz
        · rw [if_neg h0, if_neg h1, if_neg h2] at hp; cases hp
end Go.Proofs.YtljgkfdnmikpfaaGreatDoor
