import Derived.Test.YtaojalicnnnkmaaGreatDoorHgraa
import Derived.Lib.Strings
import Derived.Test.YtaojalicnnnkmaaGreatDoorHgram
import Derived.Test.YtaojalicnnnkmaaGreatDoorHgrap
import Derived.Test.YtaojalicnnnkmaaGreatDoorHgrab
set_option linter.unusedVariables false
set_option linter.unusedSimpArgs false
/- Terms: the document's Size, Depth. -/
namespace Go.Proofs.YtaojalicnnnkmaaGreatDoor
open Go.RowKit
set_option linter.unusedVariables false

theorem sizes_drop : ∀ {ts : List Tm} {i : Nat} {y : Tm}, ts[i]? = some y → sizesN (ts.take (i + 1)) = sizesN (ts.take i) + sizeN y
  | x :: r, 0, y, h => by
    simp at h; subst h
    simp [sizesN]
  | x :: r, i + 1, y, h => by
    have := sizes_drop (ts := r) (i := i) (y := y) (by simpa using h)
    simp only [List.take_succ_cons, sizesN, this]
    omega
  | [], i, y, h => by simp at h
theorem depths_drop : ∀ {ts : List Tm} {i : Nat} {y : Tm}, ts[i]? = some y → depthsN (ts.take (i + 1)) = max (depthsN (ts.take i)) (depthN y)
  | x :: r, 0, y, h => by
    simp at h; subst h
    simp [depthsN]
  | x :: r, i + 1, y, h => by
    have := depths_drop (ts := r) (i := i) (y := y) (by simpa using h)
    simp only [List.take_succ_cons, depthsN, this]
    omega
  | [], i, y, h => by simp at h
theorem sizes_take (ts : List Tm) (i : Nat) : sizesN (ts.take i) ≤ sizesN ts := by
  induction ts generalizing i with
  | nil => simp
  | cons x r ih =>
    cases i with
    | zero => simp [sizesN]
    | succ i =>
      simp only [List.take_succ_cons, sizesN]
      have := ih i
      omega
set_option maxHeartbeats 2000000 in
set_option maxRecDepth 100000 in
theorem rsize_at : ∀ (N : Nat) (x : Tm), sizeN x ≤ N → ∀ (q : Nat), q ≤ 1000000 → ∀ (w : World) (v : Value), TmV w x v →
    Calls Tryz.prog 55 #[v, .int .i64 q] w fun e w' => e = .returned (.int .i64 (min (sizeN x) (q + 1) : Nat)) ∧ Below w.heap.size w w'
  | 0, x, h, q, hq, w, v, hv => by have := size_pos x; omega
  | N + 1, .mk k n s ts, h, q, hq, w, v, hv => by
    obtain ⟨u, rfl, hs, hk, hn, hu⟩ := tmV_iff.1 hv
    obtain ⟨a, c, rfl, h1, h2, h3⟩ := hu.len
    unfold BIG at h3
    obtain ⟨m, hm⟩ : ∃ m, ts.length = m := ⟨_, rfl⟩
    have IH := Lib.hid (fun (y : Tm) (hy : y ∈ ts) => rsize_at N y (mem_size h hy))
    have HU := Lib.hid hu
    have HM := Lib.hid hm
    rw [hm] at h1 h3 hu HU ⊢
    obtain ⟨r, hr⟩ : ∃ r, min (sizeN (.mk k n s ts)) (q + 1) = r := ⟨_, rfl⟩
    rw [hr]
    have HR := Lib.hid (show min (sizesN ts + 1) (q + 1) = r by rw [← hr, sizeN])
    clear hv hu hm hr h
    go_enter Tryz.func55, Tryz.ntmps55
    go_wp2_with fail
    go_loopw [5, 6] (fun z v wr => ∃ i t : Nat, i ≤ m ∧ v = .int .i64 i ∧ z = .int .i64 t ∧ Hid (t = min (sizesN (ts.take i) + 1) (q + 1)) ∧ t ≤ q + 1 ∧ Hid (Below (w.alloc (.cells #[.int .i64 k, .int .i64 n, .string s, .slice a m c] 46)).heap.size (w.alloc (.cells #[.int .i64 k, .int .i64 n, .string s, .slice a m c] 46)) wr)) (fun _ v _ => m - (intOf v).toNat)
    case atStart => exact ⟨0, 1, Nat.zero_le _, rfl, rfl, Lib.hid (by simp [sizesN]), by omega, Lib.hid (Below.refl _ _)⟩
    case round =>
      obtain ⟨i, t, hi, rfl, rfl, HT, ht, HB⟩ := hrel
      obtain ⟨e0, e1, e2, e3⟩ := box_cells w 46 _ _ _ _ HB.out
      have HBW := Lib.hid (Ext.trans' (bel1' w _) HB.out)
      by_cases hil : i < m
      · obtain ⟨y, hy⟩ : ∃ y, ts[i]? = some y := ⟨_, List.getElem?_eq_getElem (by rw [HM.out]; exact hil)⟩
        have hst := sizes_take ts (i + 1)
        have hds := sizes_drop hy
        by_cases htq : t ≤ q
        · obtain ⟨b, off, k', n', s', u', rfl, hbb, _, _, _, c0, c1, c2, c3, _, hty⟩ := (HU.out.ext HBW.out).get hy
          obtain ⟨d, hd⟩ : ∃ d, q - t = d := ⟨_, rfl⟩
          have hqt : (q : Int) - t = d := by omega
          have ih := IH.out y (List.mem_of_getElem? hy) d (by omega) wr _ hty
          obtain ⟨z, hz⟩ : ∃ z, min (sizeN y) (d + 1) = z := ⟨_, rfl⟩
          rw [hz] at ih
          have HN : Hid (t + z = min (sizesN (ts.take (i + 1)) + 1) (q + 1)) := Lib.hid (by
            have := HT.out
            rw [hds]
            omega)
          have hzd : z ≤ d + 1 := by omega
          have hzq : t + z ≤ q + 1 := by omega
          clear hst hds hz hy hty hd HT
          (go_wp2_with fail; go_fit (ih); rintro e w2 ⟨rfl, b2⟩)
          have B2 := Lib.hid (Ext.trans' HB.out b2)
          clear b2
          go_wp2
          go_roundw
          case rel => exact ⟨i + 1, t + z, by omega, by go_num, by go_num, HN, hzq, B2⟩
          case measure => simp [intOf]; omega
        · have hrt : t = r := by
            have a1 := HT.out
            have a2 := HR.out
            have a3 := sizes_take ts i
            omega
          subst hrt
          clear hst hds hy
          go_wp2
          go_ret
          exact ⟨rfl, HBW.out⟩
      · have hrt : t = r := by
          have a1 := HT.out
          have a2 := HR.out
          rw [List.take_of_length_le (by rw [HM.out]; omega)] at a1
          omega
        subst hrt
        go_wp2
        go_ret
        exact ⟨rfl, HBW.out⟩
set_option maxHeartbeats 2000000 in
set_option maxRecDepth 100000 in
theorem rdepth_at : ∀ (q : Nat) (x : Tm), q ≤ 1000000 → ∀ (w : World) (v : Value), TmV w x v →
    Calls Tryz.prog 56 #[v, .int .i64 q] w fun e w' => e = .returned (.int .i64 (min (depthN x) (q + 1) : Nat)) ∧ Below w.heap.size w w'
  | 0, .mk k n s ts, hq, w, v, hv => by
    obtain ⟨u, rfl, hs, hk, hn, hu⟩ := tmV_iff.1 hv
    rw [show min (depthN (.mk k n s ts)) (0 + 1) = 1 by have := depth_pos (.mk k n s ts); omega]
    go_enter Tryz.func56, Tryz.ntmps56
    go_wp2
    go_ret
    exact ⟨rfl, bel1' _ _⟩
  | q + 1, .mk k n s ts, hq, w, v, hv => by
    obtain ⟨u, rfl, hs, hk, hn, hu⟩ := tmV_iff.1 hv
    obtain ⟨a, c, rfl, h1, h2, h3⟩ := hu.len
    unfold BIG at h3
    obtain ⟨m, hm⟩ : ∃ m, ts.length = m := ⟨_, rfl⟩
    have IH := Lib.hid (fun (y : Tm) => rdepth_at q y (by omega))
    have HU := Lib.hid hu
    have HM := Lib.hid hm
    rw [hm] at h1 h3 hu HU ⊢
    obtain ⟨r, hr⟩ : ∃ r, min (depthN (.mk k n s ts)) (q + 1 + 1) = r := ⟨_, rfl⟩
    rw [hr]
    have HR := Lib.hid (show min (depthsN ts + 1) (q + 2) = r by rw [← hr, depthN])
    clear hv hu hm hr
    obtain ⟨Q, hQ⟩ : ∃ Q : Int, ((q + 1 : Nat) : Int) = Q := ⟨_, rfl⟩
    rw [hQ]
    have hq1 : Q - 1 = q := by omega
    have hQ0 : ¬ Q ≤ 0 := by omega
    have hQb : Q ≤ 1000000 := by omega
    clear hQ
    go_enter Tryz.func56, Tryz.ntmps56
    go_wp2_with fail
    go_loopw [5, 6] (fun z v wr => ∃ i t : Nat, i ≤ m ∧ v = .int .i64 i ∧ z = .int .i64 t ∧ Hid (t = min (depthsN (ts.take i)) (q + 1)) ∧ t ≤ q + 1 ∧ Hid (Below (w.alloc (.cells #[.int .i64 k, .int .i64 n, .string s, .slice a m c] 46)).heap.size (w.alloc (.cells #[.int .i64 k, .int .i64 n, .string s, .slice a m c] 46)) wr)) (fun _ v _ => m - (intOf v).toNat)
    case atStart => exact ⟨0, 0, Nat.zero_le _, rfl, rfl, Lib.hid (by simp [depthsN]), by omega, Lib.hid (Below.refl _ _)⟩
    case round =>
      obtain ⟨i, t, hi, rfl, rfl, HT, ht, HB⟩ := hrel
      obtain ⟨e0, e1, e2, e3⟩ := box_cells w 46 _ _ _ _ HB.out
      have HBW := Lib.hid (Ext.trans' (bel1' w _) HB.out)
      by_cases hil : i < m
      · obtain ⟨y, hy⟩ : ∃ y, ts[i]? = some y := ⟨_, List.getElem?_eq_getElem (by rw [HM.out]; exact hil)⟩
        have hds := depths_drop hy
        obtain ⟨b, off, k', n', s', u', rfl, hbb, _, _, _, c0, c1, c2, c3, _, hty⟩ := (HU.out.ext HBW.out).get hy
        have ih := IH.out y wr _ hty
        obtain ⟨z, hz⟩ : ∃ z, min (depthN y) (q + 1) = z := ⟨_, rfl⟩
        rw [hz] at ih
        have HN : Hid (max t z = min (depthsN (ts.take (i + 1))) (q + 1)) := Lib.hid (by
          have := HT.out
          rw [hds]
          omega)
        have hzd : z ≤ q + 1 := by omega
        clear hds hz hy hty HT
        by_cases htz : t < z
        · have HM2 := Lib.hid (show max t z = z by omega)
          (go_wp2_with fail; go_fit (ih); rintro e w2 ⟨rfl, b2⟩)
          have B2 := Lib.hid (Ext.trans' HB.out b2)
          clear b2
          go_wp2
          go_roundw
          case rel => exact ⟨i + 1, z, by omega, by go_num, rfl, Lib.hid (by rw [← HN.out, HM2.out]), hzd, B2⟩
          case measure => simp [intOf]; omega
        · have HM2 := Lib.hid (show max t z = t by omega)
          (go_wp2_with fail; go_fit (ih); rintro e w2 ⟨rfl, b2⟩)
          have B2 := Lib.hid (Ext.trans' HB.out b2)
          clear b2
          go_wp2
          go_roundw
          case rel => exact ⟨i + 1, t, by omega, by go_num, rfl, Lib.hid (by rw [← HN.out, HM2.out]), ht, B2⟩
          case measure => simp [intOf]; omega
      · have hrt : t + 1 = r := by
          have a1 := HT.out
          have a2 := HR.out
          rw [List.take_of_length_le (by rw [HM.out]; omega)] at a1
          omega
        subst hrt
        go_wp2
        go_ret
        exact ⟨ret_int (by omega), HBW.out⟩
end Go.Proofs.YtaojalicnnnkmaaGreatDoor
/- Terms: which the document's own calls good. -/
namespace Go.Proofs.YtaojalicnnnkmaaGreatDoor
open Go.RowKit
set_option linter.unusedVariables false

theorem formed_mk (k n : Int) (s : ByteArray) (ts : List Tm) : formedT (.mk k n s ts) = (plainT k n s.data.toList ts.length && formedL ts) := by rw [formedT]
theorem formed_no {k n : Int} {s : ByteArray} {ts : List Tm} (h : plainT k n s.data.toList ts.length = false) : formedT (.mk k n s ts) = false := by rw [formed_mk, h]; rfl
theorem formed_leaf {k n : Int} {s : ByteArray} (h : plainT k n s.data.toList 0 = true) : formedT (.mk k n s []) = true := by rw [formed_mk]; show (plainT k n s.data.toList 0 && formedL []) = true; rw [h, formedL]; rfl
theorem isEmpty_size (s : ByteArray) : s.data.toList.isEmpty = decide (s.size = 0) := by
  have h : s.data.toList.length = s.size := rfl
  cases hq : s.data.toList with
  | nil => rw [hq] at h; simp at h; simp [← h]
  | cons a r =>
    rw [hq, List.length_cons] at h
    rw [decide_eq_false (by omega)]
    rfl
theorem toList_empty {s : ByteArray} (h : s.size = 0) : s.toList.isEmpty = true := by rw [Lib.toList_data, isEmpty_size]; simpa using h
theorem toList_some {s : ByteArray} (h : ¬ s.size = 0) : s.toList.isEmpty = false := by rw [Lib.toList_data, isEmpty_size]; simpa using h
theorem letter_eq : ∀ c : UInt8, letterB c = (((c.toNat : Int) == 9) || ((c.toNat : Int) == 10) || (!decide ((c.toNat : Int) < 32) && !decide (126 < (c.toNat : Int)))) := by
  intro c
  have h : ((List.range 256).all fun n => letterB (UInt8.ofNat n) == ((((UInt8.ofNat n).toNat : Int) == 9) || (((UInt8.ofNat n).toNat : Int) == 10) || (!decide (((UInt8.ofNat n).toNat : Int) < 32) && !decide (126 < ((UInt8.ofNat n).toNat : Int))))) = true := by decide +kernel
  have h1 := List.all_eq_true.1 h c.toNat (List.mem_range.2 c.toNat_lt)
  have e : UInt8.ofNat c.toNat = c := by simp
  rw [e] at h1
  exact eq_of_beq h1
set_option maxHeartbeats 4000000 in
set_option maxRecDepth 100000 in
/-- A name with its Args: the letters, then the Args. -/
theorem rformed_two {s : ByteArray} {ts : List Tm} {w : World} {a : Option Addr} {m c : Nat} (hs : s.size ≤ 140737488351232) (h1 : m ≤ c) (h2 : c ≤ maxLen) (h3 : m * 56 ≤ 140737488351232) (g2 : ¬ 64 < s.size) (g3 : ¬ 8 < m) (HM : Hid (ts.length = m)) (HU : Hid (Tms w (.slice a m c) ts))
    (HP : Hid (formedT (.mk 2 0 s ts) = (s.data.toList.all letterB && formedL ts)))
    (IH : Hid (∀ y ∈ ts, ∀ (w : World) (v : Value), TmV w y v → Calls Tryz.prog 57 #[v] w fun e w' => e = .returned (.bool (formedT y)) ∧ Below w.heap.size w w')) :
    Calls Tryz.prog 57 #[.agg #[.int .i64 2, .int .i64 0, .string s, .slice a m c]] w fun e w' => e = .returned (.bool (formedT (.mk 2 0 s ts))) ∧ Below w.heap.size w w' := by
  obtain ⟨r, hr⟩ : ∃ r, formedT (.mk 2 0 s ts) = r := ⟨_, rfl⟩
  rw [hr]
  have HR := Lib.hid (HP.out.symm.trans hr)
  clear hr HP
  go_enter Tryz.func57, Tryz.ntmps57
  go_wp2_with fail
  go_loopw [3] (fun z wr => ∃ i : Nat, i ≤ s.size ∧ z = .int .i64 i ∧ Hid (∀ j (hj : j < s.size), j < i → letterB s[j] = true) ∧ wr = w.alloc (.cells #[.int .i64 2, .int .i64 0, .string s, .slice a m c] 46)) (fun z _ => s.size - (intOf z).toNat)
  case atStart => exact ⟨0, Nat.zero_le _, rfl, Lib.hid (fun j _ h => by omega), rfl⟩
  case round =>
    obtain ⟨i, hi, rfl, HL, rfl⟩ := hrel
    by_cases hil : i < s.size
    · cases hq : letterB s[i]
      · have hlq := letter_eq s[i]
        rw [hq] at hlq
        have hall : s.data.toList.all letterB = false := by
          rw [List.all_eq_false]
          exact ⟨s.data.toList[i]'hil, List.getElem_mem _, by show ¬ letterB s[i] = true; rw [hq]; simp⟩
        have hrf : r = false := by rw [← HR.out, hall]; rfl
        subst hrf
        obtain ⟨z, hz⟩ : ∃ z : Int, (s[i].toNat : Int) = z := ⟨_, rfl⟩
        rw [hz] at hlq
        have e9 : (z == 9) = false := by
          cases h : (z == 9)
          · rfl
          · rw [h] at hlq; cases hlq
        have e10 : (z == 10) = false := by
          cases h : (z == 10)
          · rfl
          · rw [h, Bool.or_true] at hlq; cases hlq
        rw [e9, e10, Bool.false_or, Bool.false_or] at hlq
        have n9 : (z != 9) = true := by unfold bne; rw [e9]; rfl
        have n10 : (z != 10) = true := by unfold bne; rw [e10]; rfl
        clear e9 e10
        clear hall hq HR HL
        by_cases h32 : z < 32
        · clear hlq
          go_wp2
          go_ret
          exact ⟨rfl, bel1' _ _⟩
        · have h126 : 126 < z := by
            simp [h32] at hlq
            omega
          clear hlq
          go_wp2
          go_ret
          exact ⟨rfl, bel1' _ _⟩
      · have hlq := letter_eq s[i]
        rw [hq] at hlq
        have HN : Hid (∀ j (hj : j < s.size), j < i + 1 → letterB s[j] = true) := Lib.hid (fun j hj h => by
          by_cases e : j = i
          · subst e; exact hq
          · exact HL.out j hj (by omega))
        obtain ⟨z, hz⟩ : ∃ z : Int, (s[i].toNat : Int) = z := ⟨_, rfl⟩
        rw [hz] at hlq
        clear hq HL
        by_cases e9 : z = 9
        · subst e9
          clear hlq
          go_wp2
          go_roundw
          case rel => exact ⟨i + 1, by omega, by go_num, HN, trivial⟩
          case measure => simp [intOf]; omega
        have e9' : (z == 9) = false := beq_false_of_ne e9
        by_cases e10 : z = 10
        · subst e10
          clear hlq
          go_wp2
          go_roundw
          case rel => exact ⟨i + 1, by omega, by go_num, HN, trivial⟩
          case measure => simp [intOf]; omega
        have e10' : (z == 10) = false := beq_false_of_ne e10
        rw [e9', e10'] at hlq
        have h32 : ¬ z < 32 := fun hh => by simp [hh] at hlq
        have h126 : ¬ 126 < z := fun hh => by simp [hh] at hlq
        have n9 : (z != 9) = true := by unfold bne; rw [e9']; rfl
        have n10 : (z != 10) = true := by unfold bne; rw [e10']; rfl
        clear hlq e9 e10 e9' e10'
        go_wp2
        go_roundw
        case rel => exact ⟨i + 1, by omega, by go_num, HN, trivial⟩
        case measure => simp [intOf]; omega
    · have hall : s.data.toList.all letterB = true := by
        rw [List.all_eq_true]
        intro x hx
        obtain ⟨j, hj, rfl⟩ := List.getElem_of_mem hx
        exact HL.out j hj (by have : j < s.size := hj; omega)
      have HR2 := Lib.hid (show formedL ts = r by rw [← HR.out, hall]; rfl)
      clear hall HR HL
      go_wp2_with fail
      go_loopw [5] (fun v wr => ∃ i : Nat, i ≤ m ∧ v = .int .i64 i ∧ Hid (formedL (ts.drop i) = r) ∧ Hid (Below (w.alloc (.cells #[.int .i64 2, .int .i64 0, .string s, .slice a m c] 46)).heap.size (w.alloc (.cells #[.int .i64 2, .int .i64 0, .string s, .slice a m c] 46)) wr)) (fun v _ => m - (intOf v).toNat)
      case atStart => exact ⟨0, Nat.zero_le _, rfl, Lib.hid (by rw [List.drop_zero]; exact HR2.out), Lib.hid (Below.refl _ _)⟩
      case round =>
        obtain ⟨i, hi, rfl, HD, HB⟩ := hrel
        obtain ⟨e0, e1, e2, e3⟩ := box_cells w 46 _ _ _ _ HB.out
        by_cases hil : i < m
        · obtain ⟨y, hy⟩ : ∃ y, ts[i]? = some y := ⟨_, List.getElem?_eq_getElem (by rw [HM.out]; exact hil)⟩
          have hdr : ts.drop i = y :: ts.drop (i + 1) := by
            obtain ⟨hlt', rfl⟩ := List.getElem?_eq_some_iff.1 hy
            exact List.drop_eq_getElem_cons hlt'
          have hd := HD.out
          rw [hdr, formedL] at hd
          have HBW := Lib.hid (Ext.trans' (bel1' w _) HB.out)
          obtain ⟨b, off, k', n', s', u', rfl, hbb, _, _, _, c0, c1, c2, c3, _, ht⟩ := (HU.out.ext HBW.out).get hy
          have ih := IH.out y (List.mem_of_getElem? hy) wr _ ht
          clear hdr HD ht
          cases hq : formedT y
          · rw [hq, Bool.false_and] at hd
            rw [hq] at ih
            subst hd
            clear hq hy HR2
            (go_wp2_with fail; go_fit (ih); rintro e w2 ⟨rfl, b2⟩)
            have B2 := Lib.hid (Ext.trans' HBW.out b2)
            clear b2
            go_wp2
            go_ret
            exact ⟨rfl, B2.out⟩
          · rw [hq, Bool.true_and] at hd
            rw [hq] at ih
            have HD := Lib.hid hd
            clear hq hd hy
            (go_wp2_with fail; go_fit (ih); rintro e w2 ⟨rfl, b2⟩)
            have B2 := Lib.hid (Ext.trans' HB.out b2)
            clear b2
            go_wp2
            go_roundw
            case rel => exact ⟨i + 1, by omega, by go_num, HD, B2⟩
            case measure => simp [intOf]; omega
        · have hd := HD.out
          rw [List.drop_eq_nil_of_le (by rw [HM.out]; omega), formedL] at hd
          subst hd
          clear HR2 HD
          go_wp2
          go_ret
          exact ⟨rfl, Ext.trans' (bel1' w _) HB.out⟩
end Go.Proofs.YtaojalicnnnkmaaGreatDoor
/- Terms: which the document's own calls good: all of it. -/
namespace Go.Proofs.YtaojalicnnnkmaaGreatDoor
open Go.RowKit
set_option linter.unusedVariables false

set_option maxHeartbeats 4000000 in
set_option maxRecDepth 100000 in
theorem rformed_at : ∀ (N : Nat) (x : Tm), sizeN x ≤ N → ∀ (w : World) (v : Value), TmV w x v →
    Calls Tryz.prog 57 #[v] w fun e w' => e = .returned (.bool (formedT x)) ∧ Below w.heap.size w w'
  | 0, x, h, w, v, hv => by have := size_pos x; omega
  | N + 1, .mk k n s ts, h, w, v, hv => by
    obtain ⟨u, rfl, hs, hk, hn, hu⟩ := tmV_iff.1 hv
    obtain ⟨a, c, rfl, h1, h2, h3⟩ := hu.len
    unfold BIG at h3 hs
    obtain ⟨m, hm⟩ : ∃ m, ts.length = m := ⟨_, rfl⟩
    by_cases k0 : k = 0
    · subst k0
      have hp : plainT 0 n s.data.toList ts.length = (decide (0 ≤ n) && decide (n < 2147483648) && decide (s.size = 0) && decide (m = 0)) := by
        unfold plainT; rw [if_pos rfl, isEmpty_size, hm]
      by_cases g1 : 0 ≤ n
      · by_cases g2 : n < 2147483648
        · by_cases g3 : s.size = 0
          · have g3' := toList_empty g3
            by_cases g4 : m = 0
            · obtain rfl : ts = [] := List.length_eq_zero_iff.1 (by rw [hm, g4])
              rw [formed_leaf (by rw [List.length_nil] at hp; rw [hp]; simp [g1, g2, g3, g4])]
              rw [g4] at hm
              clear hp hv hu hm g3
              go_enter Tryz.func57, Tryz.ntmps57
              go_wp2
              go_ret
              exact ⟨rfl, bel1' _ _⟩
            · rw [formed_no (by rw [hp]; simp [g4])]
              have g4' : ((m : Int) == 0) = false := by apply beq_false_of_ne; omega
              rw [hm] at h1 h3 ⊢
              clear hp hv hu hm g3 h
              go_enter Tryz.func57, Tryz.ntmps57
              go_wp2
              go_ret
              exact ⟨rfl, bel1' _ _⟩
          · rw [formed_no (by rw [hp]; simp [g3])]
            have g3' := toList_some g3
            clear hp hv hu h
            go_enter Tryz.func57, Tryz.ntmps57
            go_wp2
            go_ret
            exact ⟨rfl, bel1' _ _⟩
        · rw [formed_no (by rw [hp]; simp [g2])]
          clear hp hv hu h
          go_enter Tryz.func57, Tryz.ntmps57
          go_wp2
          go_ret
          exact ⟨rfl, bel1' _ _⟩
      · rw [formed_no (by rw [hp]; simp [g1])]
        clear hp hv hu h
        go_enter Tryz.func57, Tryz.ntmps57
        go_wp2
        go_ret
        exact ⟨rfl, bel1' _ _⟩
    by_cases k1 : k = 1
    · subst k1
      have hp : plainT 1 n s.data.toList ts.length = (decide (s.size = 0) && decide (m = 0)) := by
        unfold plainT; rw [if_neg (by decide), if_pos rfl, isEmpty_size, hm]
      by_cases g3 : s.size = 0
      · have g3' := toList_empty g3
        by_cases g4 : m = 0
        · obtain rfl : ts = [] := List.length_eq_zero_iff.1 (by rw [hm, g4])
          rw [formed_leaf (by rw [List.length_nil] at hp; rw [hp]; simp [g3, g4])]
          clear hp hv hu hm g3
          go_enter Tryz.func57, Tryz.ntmps57
          go_wp2
          go_ret
          exact ⟨rfl, bel1' _ _⟩
        · rw [formed_no (by rw [hp]; simp [g4])]
          have g4' : ((m : Int) == 0) = false := by apply beq_false_of_ne; omega
          rw [hm] at h1 h3 ⊢
          clear hp hv hu hm g3 h
          go_enter Tryz.func57, Tryz.ntmps57
          go_wp2
          go_ret
          exact ⟨rfl, bel1' _ _⟩
      · rw [formed_no (by rw [hp]; simp [g3])]
        have g3' := toList_some g3
        clear hp hv hu h
        go_enter Tryz.func57, Tryz.ntmps57
        go_wp2
        go_ret
        exact ⟨rfl, bel1' _ _⟩
    have k0' : (k == 0) = false := beq_false_of_ne k0
    have k1' : (k == 1) = false := beq_false_of_ne k1
    by_cases k2 : k = 2
    · subst k2
      have hp : plainT 2 n s.data.toList ts.length = (decide (n = 0) && decide (s.size ≤ 64) && decide (m ≤ 8) && s.data.toList.all letterB) := by
        unfold plainT; rw [if_neg (by decide), if_neg (by decide), if_pos rfl, hm]; rfl
      by_cases g1 : n = 0
      · subst g1
        by_cases g2 : 64 < s.size
        · rw [formed_no (by rw [hp]; simp; omega)]
          clear hp hv hu h k0 k1 k0' k1'
          go_enter Tryz.func57, Tryz.ntmps57
          go_wp2
          go_ret
          exact ⟨rfl, bel1' _ _⟩
        · by_cases g3 : 8 < m
          · rw [formed_no (by rw [hp]; simp; omega)]
            rw [hm] at h1 h3 ⊢
            clear hp hv hu hm h k0 k1 k0' k1'
            go_enter Tryz.func57, Tryz.ntmps57
            go_wp2
            go_ret
            exact ⟨rfl, bel1' _ _⟩
          · have IH := Lib.hid (fun (y : Tm) (hy : y ∈ ts) => rformed_at N y (mem_size h hy))
            have HP := Lib.hid (show formedT (.mk 2 0 s ts) = (s.data.toList.all letterB && formedL ts) by
              rw [formed_mk, hp]
              have e1 : decide (s.size ≤ 64) = true := decide_eq_true (by omega)
              have e2 : decide (m ≤ 8) = true := decide_eq_true (by omega)
              rw [e1, e2]
              simp)
            rw [hm] at h1 h3 hu ⊢
            exact rformed_two hs h1 h2 h3 g2 g3 (Lib.hid hm) (Lib.hid hu) HP IH
      · rw [formed_no (by rw [hp]; simp [g1])]
        have g1' : (n == 0) = false := beq_false_of_ne g1
        clear hp hv hu h k0 k1 k0' k1'
        go_enter Tryz.func57, Tryz.ntmps57
        go_wp2
        go_ret
        exact ⟨rfl, bel1' _ _⟩
    · rw [formed_no (by unfold plainT; rw [if_neg k0, if_neg k1, if_neg k2])]
      have k2' : (k == 2) = false := beq_false_of_ne k2
      clear hv hu h k0 k1 k2
      go_enter Tryz.func57, Tryz.ntmps57
      go_wp2
      go_ret
      exact ⟨rfl, bel1' _ _⟩
theorem rgood_at (x : Tm) (w : World) (v : Value) (hv : TmV w x v) : Calls Tryz.prog 37 #[v] w fun e w' => e = .returned (.bool (goodT x)) ∧ Below w.heap.size w w' := by
  obtain ⟨k, n, s, ts, rfl⟩ : ∃ k n s ts, x = .mk k n s ts := by cases x; exact ⟨_, _, _, _, rfl⟩
  obtain ⟨u, rfl, _, _, _, _⟩ := tmV_iff.1 hv
  obtain ⟨x, hxe⟩ : ∃ x, Tm.mk k n s ts = x := ⟨_, rfl⟩
  rw [hxe] at hv ⊢
  clear hxe
  obtain ⟨v, hve⟩ : ∃ v, Value.agg #[.int .i64 k, .int .i64 n, .string s, u] = v := ⟨_, rfl⟩
  have S := fun w (h : TmV w x v) => rsize_at _ x (Nat.le_refl _) 2000 (by omega) w v h
  have D := fun w (h : TmV w x v) => rdepth_at 64 x (by omega) w v h
  have F := fun w (h : TmV w x v) => rformed_at _ x (Nat.le_refl _) w v h
  rw [← hve] at S D F
  subst hve
  have hg : goodT x = (decide (sizeN x ≤ 2000) && decide (depthN x ≤ 64) && formedT x) := rfl
  have HG := Lib.hid hg
  clear hg
  generalize formedT x = f at F HG
  obtain ⟨p, hp⟩ : ∃ p, min (sizeN x) (2000 + 1) = p := ⟨_, rfl⟩
  obtain ⟨q, hq⟩ : ∃ q, min (depthN x) (64 + 1) = q := ⟨_, rfl⟩
  rw [hp] at S
  rw [hq] at D
  have hP := Lib.hid (show (sizeN x ≤ 2000) ↔ p ≤ 2000 by omega)
  have hQ := Lib.hid (show (depthN x ≤ 64) ↔ q ≤ 64 by omega)
  clear hp hq
  by_cases h1 : p ≤ 2000
  · by_cases h2 : q ≤ 64
    · have hr : goodT x = f := by rw [HG.out, decide_eq_true (hP.out.2 h1), decide_eq_true (hQ.out.2 h2)]; rfl
      rw [hr]
      clear hr HG hP hQ
      go_enter Tryz.func37, Tryz.ntmps37
      have hv0 := TmV.ext (bel1' w (.cells #[.int .i64 k, .int .i64 n, .string s, u] 46)) _ _ hv
      (go_wp2_with fail; go_fit (S _ hv0); rintro e w1 ⟨rfl, b1⟩)
      obtain ⟨e0, e1, e2, e3⟩ := box_cells w 46 _ _ _ _ b1
      have hv1 := TmV.ext b1 _ _ hv0
      (go_wp2_with fail; go_fit (D _ hv1); rintro e w2 ⟨rfl, b2⟩)
      have e0 := cell_later b2 e0
      have e1 := cell_later b2 e1
      have e2 := cell_later b2 e2
      have e3 := cell_later b2 e3
      (go_wp2_with fail; go_fit (F _ (TmV.ext b2 _ _ hv1)); rintro e w3 ⟨rfl, b3⟩)
      have B3 := Lib.hid (Ext.trans' (bel1' w _) (Ext.trans' b1 (Ext.trans' b2 b3)))
      clear b1 b2 b3
      go_wp2
      go_ret
      exact ⟨rfl, B3.out⟩
    · have hr : goodT x = false := by rw [HG.out, decide_eq_false (fun h => h2 (hQ.out.1 h))]; simp
      rw [hr]
      clear hr HG hP hQ
      go_enter Tryz.func37, Tryz.ntmps37
      have hv0 := TmV.ext (bel1' w (.cells #[.int .i64 k, .int .i64 n, .string s, u] 46)) _ _ hv
      (go_wp2_with fail; go_fit (S _ hv0); rintro e w1 ⟨rfl, b1⟩)
      obtain ⟨e0, e1, e2, e3⟩ := box_cells w 46 _ _ _ _ b1
      have hv1 := TmV.ext b1 _ _ hv0
      (go_wp2_with fail; go_fit (D _ hv1); rintro e w2 ⟨rfl, b2⟩)
      have e0 := cell_later b2 e0
      have e1 := cell_later b2 e1
      have e2 := cell_later b2 e2
      have e3 := cell_later b2 e3
      have B3 := Lib.hid (Ext.trans' (bel1' w _) (Ext.trans' b1 b2))
      clear b1 b2
      go_wp2
      go_ret
      exact ⟨rfl, B3.out⟩
  · have hr : goodT x = false := by rw [HG.out, decide_eq_false (fun h => h1 (hP.out.1 h))]; rfl
    rw [hr]
    clear hr HG hP hQ
    go_enter Tryz.func37, Tryz.ntmps37
    have hv0 := TmV.ext (bel1' w (.cells #[.int .i64 k, .int .i64 n, .string s, u] 46)) _ _ hv
    (go_wp2_with fail; go_fit (S _ hv0); rintro e w1 ⟨rfl, b1⟩)
    obtain ⟨e0, e1, e2, e3⟩ := box_cells w 46 _ _ _ _ b1
    have B3 := Lib.hid (Ext.trans' (bel1' w _) b1)
    clear b1
    go_wp2
    go_ret
    exact ⟨rfl, B3.out⟩
end Go.Proofs.YtaojalicnnnkmaaGreatDoor
/- The document's side of chapter 14: Of. -/
namespace Go.Proofs.YtaojalicnnnkmaaGreatDoor
open Go.RowKit
set_option linter.unusedVariables false

/-- What Of answers. -/
def OfEP (w : World) (t : Tm) (e : Ending) (w' : World) : Prop := ∃ r, e = .returned (.tuple #[r, .int .i64 (ofE t).2]) ∧ GoalsV w' (ofE t).1 r ∧ Below w.heap.size w w'
theorem ofE_erO {t : Tm} (hg : goodT t = true) : (ofE t).2 = erO (ofB t) ∧ (ofE t).1 = (ofB t).getD [] := by
  unfold ofE
  rw [if_pos hg]
  cases ofB t <;> exact ⟨rfl, rfl⟩
theorem rof_bare {t : Tm} (hg : goodT t = true) (w : World) (v : Value) (hv : TmV w t v) : Calls Tryz.prog 38 #[v] w (OfEP w t) := by
  have h := rof_at 2000 (by omega) t (good_parts hg).1 (fun _ => false) w v (fun _ _ => rfl) (by rw [hide_none]; exact hv)
  refine h.mono ?_
  rintro e w' ⟨r, h1, h2, h3⟩
  rw [hide_none] at h2
  refine ⟨r, ?_, ?_, h3⟩
  · rw [(ofE_erO hg).1]; exact h1
  · rw [(ofE_erO hg).2]; exact h2
set_option maxHeartbeats 4000000 in
theorem rOf_at (t : Tm) (w : World) (v : Value) (hv : TmV w t v) : Calls Tryz.prog 18 #[v] w (OfEP w t) := by
  obtain ⟨k, n, s, a, m, c, rfl, -, -, -, -⟩ := four_of hv
  obtain ⟨w1, e1, B1, z1, X1⟩ := box_new w #[.int .i64 k, .int .i64 n, .string s, .slice a m c] 46
  have HE := Lib.hid e1
  obtain ⟨x0, x1, x2, x3, _⟩ := X1.four
  have HX := Lib.hid X1
  have HB1 := Lib.hid B1
  have C1 := rgood_at t w1 _ (TmV.ext B1 _ _ hv)
  have HV := Lib.hid hv
  clear e1 B1 z1 X1 hv
  cases hg : goodT t
  · have hr : ofE t = ([], 1) := by unfold ofE; rw [hg]; rfl
    have HR := Lib.hid hr
    rw [hg] at C1
    clear hr hg
    go_enter Tryz.func18, Tryz.ntmps18
    go_upto_region 1 with fail
    (try rw [HE.out])
    (go_wp2_with fail; go_fit (C1); rintro e w2 ⟨rfl, b2⟩)
    have HB2 := Lib.hid (Ext.trans' HB1.out b2)
    clear C1 b2 x0 x1 x2 x3
    go_wp2
    go_ret2
    unfold OfEP
    rw [HR.out]
    exact ⟨_, rfl, GoalsV.nil _, HB2.out⟩
  · have HG := Lib.hid hg
    rw [hg] at C1
    clear hg
    go_enter Tryz.func18, Tryz.ntmps18
    go_upto_region 1 with fail
    (try rw [HE.out])
    (go_wp2_with fail; go_fit (C1); rintro e w2 ⟨rfl, b2⟩)
    have HB2 := Lib.hid (Ext.trans' HB1.out b2)
    obtain ⟨y0, y1, y2, y3, _⟩ := (HX.out.ext b2).four
    have C2 := rof_bare HG.out w2 _ (TmV.ext HB2.out _ _ HV.out)
    clear C1 b2 x0 x1 x2 x3
    (go_wp2_with fail; go_fit (C2); rintro e w3 ⟨r, rfl, h3, b3⟩)
    have HEND := Lib.hid (And.intro h3 (Ext.trans' HB2.out b3))
    clear C2 h3 b3 y0 y1 y2 y3
    go_wp2
    go_ret2
    exact ⟨_, rfl, HEND.out.1, HEND.out.2⟩
end Go.Proofs.YtaojalicnnnkmaaGreatDoor
/- Package body: Of, reserved, headError. -/
namespace Go.Proofs.YtaojalicnnnkmaaGreatDoor
open Go.RowKit
set_option linter.unusedVariables false

/-- What Of answers. -/
def OfKE (w : World) (t : Tm) (e : Ending) (w' : World) : Prop := ∃ r, e = .returned (.tuple #[r, .int .i64 (ofE t).2]) ∧ GoalsK w' (ofE t).1 r ∧ Below w.heap.size w w'
theorem gadd_bare {t : Tm} (hg : goodT t = true) (w : World) (v : Value) (hv : TmV w t v) : Calls Tryz.prog 27 #[.slice none 0 0, v] w fun e w' => Below w.heap.size w w' ∧ match ofB t with
    | none => e = .returned (.tuple #[.slice none 0 0, .bool false])
    | some qs => ∃ (a : Option Addr) (c : Nat), e = .returned (.tuple #[.slice a qs.length c, .bool true]) ∧ GoalsK w' qs (.slice a qs.length c) := by
  obtain ⟨h1, _, h3⟩ := good_parts hg
  have h := addIH_row (M := 2000) (by omega) (gadd_at 2000 (by omega)) h1 h3 (fun _ => false) w v (fun _ _ => rfl) (by rw [hide_none]; exact hv)
  refine h.mono ?_
  rintro e w' ⟨hb, h⟩
  refine ⟨hb, ?_⟩
  revert h
  cases ofB t with
  | none => exact fun h => h
  | some qs =>
    intro h
    obtain ⟨a, c, h1, h2⟩ := h
    rw [hide_none] at h2
    exact ⟨a, c, h1, h2⟩
set_option maxHeartbeats 4000000 in
theorem bOf_at (t : Tm) (w : World) (v : Value) (hv : TmV w t v) : Calls Tryz.prog 8 #[v] w (OfKE w t) := by
  obtain ⟨k, n, s, a, m, c, rfl, -, -, -, -⟩ := four_of hv
  obtain ⟨w1, e1, B1, z1, X1⟩ := box_new w #[.int .i64 k, .int .i64 n, .string s, .slice a m c] 31
  have HE := Lib.hid e1
  obtain ⟨x0, x1, x2, x3, _⟩ := X1.four
  have HX := Lib.hid X1
  have HB1 := Lib.hid B1
  have C1 := Good_at t w1 _ (TmV.ext B1 _ _ hv)
  have HV := Lib.hid hv
  clear e1 B1 z1 X1 hv
  cases hg : goodT t
  · have hr : ofE t = ([], 1) := by unfold ofE; rw [hg]; rfl
    have HR := Lib.hid hr
    rw [hg] at C1
    clear hr hg
    go_enter Tryz.func8, Tryz.ntmps8
    go_upto_region 1 with fail
    (try rw [HE.out])
    (go_wp2_with fail; go_fit (C1); rintro e w2 ⟨rfl, b2⟩)
    have HB2 := Lib.hid (Ext.trans' HB1.out b2)
    clear C1 b2 x0 x1 x2 x3
    go_wp2
    go_ret2
    unfold OfKE
    rw [HR.out]
    exact ⟨_, rfl, GoalsK.nil _, HB2.out⟩
  · have HG := Lib.hid hg
    rw [hg] at C1
    have HO := Lib.hid (ofE_erO hg)
    clear hg
    go_enter Tryz.func8, Tryz.ntmps8
    go_upto_region 1 with fail
    (try rw [HE.out])
    (go_wp2_with fail; go_fit (C1); rintro e w2 ⟨rfl, b2⟩)
    have HB2 := Lib.hid (Ext.trans' HB1.out b2)
    obtain ⟨y0, y1, y2, y3, _⟩ := (HX.out.ext b2).four
    have C2 := gadd_bare HG.out w2 _ (TmV.ext HB2.out _ _ HV.out)
    clear C1 b2 x0 x1 x2 x3
    cases ho : ofB t with
    | none =>
      rw [ho] at C2 HO
      (go_wp2_with fail; go_fit (C2); rintro e w3 ⟨b3, rfl⟩)
      have HB3 := Lib.hid (Ext.trans' HB2.out b3)
      clear C2 b3 y0 y1 y2 y3 ho
      go_wp2
      go_ret2
      unfold OfKE
      rw [HO.out.1, HO.out.2]
      exact ⟨_, rfl, GoalsK.nil _, HB3.out⟩
    | some qs =>
      rw [ho] at C2 HO
      (go_wp2_with fail; go_fit (C2); rintro e w3 ⟨b3, a3, c3, rfl, h3⟩)
      have HB3 := Lib.hid (And.intro (Ext.trans' HB2.out b3) h3)
      clear C2 b3 h3 y0 y1 y2 y3 ho
      go_wp2
      go_ret2
      unfold OfKE
      rw [HO.out.1, HO.out.2]
      exact ⟨_, rfl, HB3.out.2, HB3.out.1⟩
/-- The names that no clause may give a meaning. -/
def heldN (s : ByteArray) (m : Nat) : Bool :=
  if s = neckS ∨ s = commaS ∨ s = semiS ∨ s = arrowS then m == 2 else if s = negS then m == 1 else if s = bangS ∨ s = trueS ∨ s = failS then m == 0 else false
theorem held_name {t : Tm} (hk : t.k = 2) : heldT t = heldN t.s t.args.length := by
  obtain ⟨k, n, s, ts⟩ := t
  obtain rfl : k = 2 := hk
  show heldT (.mk 2 n s ts) = heldN s ts.length
  generalize hm : ts.length = m
  have key : ∀ (x : ByteArray) (q : Nat), isT (.mk 2 n s ts) x q = (s.data.toList == x.data.toList && m == q) := fun x q => by
    show ((2 : Int) == 2 && s.data.toList == x.data.toList && ts.length == q) = _
    rw [hm]; simp
  unfold heldT
  simp only [key]
  have ne : ∀ (x : ByteArray), s ≠ x → (s.data.toList == x.data.toList) = false := fun x h => beq_false_of_ne (fun e => h (bytes_eq e))
  unfold heldN
  by_cases h1 : s = neckS
  · subst h1; rw [if_pos (Or.inl rfl)]; simp [neckS, commaS, semiS, arrowS, negS, bangS, trueS, failS]
  by_cases h2 : s = commaS
  · subst h2; rw [if_pos (Or.inr (Or.inl rfl))]; simp [neckS, commaS, semiS, arrowS, negS, bangS, trueS, failS]
  by_cases h3 : s = semiS
  · subst h3; rw [if_pos (Or.inr (Or.inr (Or.inl rfl)))]; simp [neckS, commaS, semiS, arrowS, negS, bangS, trueS, failS]
  by_cases h4 : s = arrowS
  · subst h4; rw [if_pos (Or.inr (Or.inr (Or.inr rfl)))]; simp [neckS, commaS, semiS, arrowS, negS, bangS, trueS, failS]
  rw [if_neg (by simp [h1, h2, h3, h4])]
  by_cases h5 : s = negS
  · subst h5; rw [if_pos rfl]; simp [neckS, commaS, semiS, arrowS, negS, bangS, trueS, failS]
  rw [if_neg h5]
  by_cases h6 : s = bangS
  · subst h6; rw [if_pos (Or.inl rfl)]; simp [neckS, commaS, semiS, arrowS, negS, bangS, trueS, failS]
  by_cases h7 : s = trueS
  · subst h7; rw [if_pos (Or.inr (Or.inl rfl))]; simp [neckS, commaS, semiS, arrowS, negS, bangS, trueS, failS]
  by_cases h8 : s = failS
  · subst h8; rw [if_pos (Or.inr (Or.inr rfl))]; simp [neckS, commaS, semiS, arrowS, negS, bangS, trueS, failS]
  rw [if_neg (by simp [h6, h7, h8]), ne _ h1, ne _ h2, ne _ h3, ne _ h4, ne _ h5, ne _ h6, ne _ h7, ne _ h8]
  rfl
set_option maxHeartbeats 8000000 in
theorem breserved_at (w : World) (k n : Int) (s : ByteArray) (a : Option Addr) (m c : Nat) : Calls Tryz.prog 48 #[.agg #[.int .i64 k, .int .i64 n, .string s, .slice a m c]] w fun e w' => e = .returned (.bool (heldN s m)) ∧ Below w.heap.size w w' := by
  have HB := Lib.hid (bel1' w (.cells #[.int .i64 k, .int .i64 n, .string s, .slice a m c] 31))
  have i2 : ((m : Int) == 2) = (m == 2) := by rw [Bool.eq_iff_iff]; simp; omega
  have i1 : ((m : Int) == 1) = (m == 1) := by rw [Bool.eq_iff_iff]; simp; omega
  have i0 : ((m : Int) == 0) = (m == 0) := by rw [Bool.eq_iff_iff]; simp
  have ne : ∀ (x : ByteArray), s ≠ x → (s.toList == x.data.toList) = false := fun x h => by rw [Lib.toList_data]; exact beq_false_of_ne (fun e => h (bytes_eq e))
  obtain ⟨r, hr⟩ : ∃ r, heldN s m = r := ⟨_, rfl⟩
  rw [hr]
  by_cases h1 : s = neckS
  · subst h1
    have hv : heldN neckS m = (m == 2) := by unfold heldN; rw [if_pos (Or.inl rfl)]
    have ir : ((m : Int) == 2) = r := by rw [i2, ← hv, hr]
    have q1 : (neckS.toList == [58, 45]) = true := by rw [Lib.toList_data]; decide
    have q2 : (neckS.toList == [44]) = false := by rw [Lib.toList_data]; decide
    have q3 : (neckS.toList == [59]) = false := by rw [Lib.toList_data]; decide
    have q4 : (neckS.toList == [45, 62]) = false := by rw [Lib.toList_data]; decide
    have q5 : (neckS.toList == [92, 43]) = false := by rw [Lib.toList_data]; decide
    have q6 : (neckS.toList == [33]) = false := by rw [Lib.toList_data]; decide
    have q7 : (neckS.toList == [116, 114, 117, 101]) = false := by rw [Lib.toList_data]; decide
    have q8 : (neckS.toList == [102, 97, 105, 108]) = false := by rw [Lib.toList_data]; decide
    clear hv hr i2 i1 i0 ne
    go_enter Tryz.func48, Tryz.ntmps48
    go_wp2
    go_ret
    exact ⟨rfl, HB.out⟩
  by_cases h2 : s = commaS
  · subst h2
    have hv : heldN commaS m = (m == 2) := by unfold heldN; rw [if_pos (Or.inr (Or.inl rfl))]
    have ir : ((m : Int) == 2) = r := by rw [i2, ← hv, hr]
    have q1 : (commaS.toList == [58, 45]) = false := by rw [Lib.toList_data]; decide
    have q2 : (commaS.toList == [44]) = true := by rw [Lib.toList_data]; decide
    have q3 : (commaS.toList == [59]) = false := by rw [Lib.toList_data]; decide
    have q4 : (commaS.toList == [45, 62]) = false := by rw [Lib.toList_data]; decide
    have q5 : (commaS.toList == [92, 43]) = false := by rw [Lib.toList_data]; decide
    have q6 : (commaS.toList == [33]) = false := by rw [Lib.toList_data]; decide
    have q7 : (commaS.toList == [116, 114, 117, 101]) = false := by rw [Lib.toList_data]; decide
    have q8 : (commaS.toList == [102, 97, 105, 108]) = false := by rw [Lib.toList_data]; decide
    clear hv hr i2 i1 i0 ne
    go_enter Tryz.func48, Tryz.ntmps48
    go_wp2
    go_ret
    exact ⟨rfl, HB.out⟩
  by_cases h3 : s = semiS
  · subst h3
    have hv : heldN semiS m = (m == 2) := by unfold heldN; rw [if_pos (Or.inr (Or.inr (Or.inl rfl)))]
    have ir : ((m : Int) == 2) = r := by rw [i2, ← hv, hr]
    have q1 : (semiS.toList == [58, 45]) = false := by rw [Lib.toList_data]; decide
    have q2 : (semiS.toList == [44]) = false := by rw [Lib.toList_data]; decide
    have q3 : (semiS.toList == [59]) = true := by rw [Lib.toList_data]; decide
    have q4 : (semiS.toList == [45, 62]) = false := by rw [Lib.toList_data]; decide
    have q5 : (semiS.toList == [92, 43]) = false := by rw [Lib.toList_data]; decide
    have q6 : (semiS.toList == [33]) = false := by rw [Lib.toList_data]; decide
    have q7 : (semiS.toList == [116, 114, 117, 101]) = false := by rw [Lib.toList_data]; decide
    have q8 : (semiS.toList == [102, 97, 105, 108]) = false := by rw [Lib.toList_data]; decide
    clear hv hr i2 i1 i0 ne
    go_enter Tryz.func48, Tryz.ntmps48
    go_wp2
    go_ret
    exact ⟨rfl, HB.out⟩
  by_cases h4 : s = arrowS
  · subst h4
    have hv : heldN arrowS m = (m == 2) := by unfold heldN; rw [if_pos (Or.inr (Or.inr (Or.inr rfl)))]
    have ir : ((m : Int) == 2) = r := by rw [i2, ← hv, hr]
    have q1 : (arrowS.toList == [58, 45]) = false := by rw [Lib.toList_data]; decide
    have q2 : (arrowS.toList == [44]) = false := by rw [Lib.toList_data]; decide
    have q3 : (arrowS.toList == [59]) = false := by rw [Lib.toList_data]; decide
    have q4 : (arrowS.toList == [45, 62]) = true := by rw [Lib.toList_data]; decide
    have q5 : (arrowS.toList == [92, 43]) = false := by rw [Lib.toList_data]; decide
    have q6 : (arrowS.toList == [33]) = false := by rw [Lib.toList_data]; decide
    have q7 : (arrowS.toList == [116, 114, 117, 101]) = false := by rw [Lib.toList_data]; decide
    have q8 : (arrowS.toList == [102, 97, 105, 108]) = false := by rw [Lib.toList_data]; decide
    clear hv hr i2 i1 i0 ne
    go_enter Tryz.func48, Tryz.ntmps48
    go_wp2
    go_ret
    exact ⟨rfl, HB.out⟩
  by_cases h5 : s = negS
  · subst h5
    have hv : heldN negS m = (m == 1) := by unfold heldN; rw [if_neg (by decide +kernel), if_pos rfl]
    have ir : ((m : Int) == 1) = r := by rw [i1, ← hv, hr]
    have q1 : (negS.toList == [58, 45]) = false := by rw [Lib.toList_data]; decide
    have q2 : (negS.toList == [44]) = false := by rw [Lib.toList_data]; decide
    have q3 : (negS.toList == [59]) = false := by rw [Lib.toList_data]; decide
    have q4 : (negS.toList == [45, 62]) = false := by rw [Lib.toList_data]; decide
    have q5 : (negS.toList == [92, 43]) = true := by rw [Lib.toList_data]; decide
    have q6 : (negS.toList == [33]) = false := by rw [Lib.toList_data]; decide
    have q7 : (negS.toList == [116, 114, 117, 101]) = false := by rw [Lib.toList_data]; decide
    have q8 : (negS.toList == [102, 97, 105, 108]) = false := by rw [Lib.toList_data]; decide
    clear hv hr i2 i1 i0 ne
    go_enter Tryz.func48, Tryz.ntmps48
    go_wp2
    go_ret
    exact ⟨rfl, HB.out⟩
  by_cases h6 : s = bangS
  · subst h6
    have hv : heldN bangS m = (m == 0) := by unfold heldN; rw [if_neg (by decide +kernel), if_neg (by decide +kernel), if_pos (Or.inl rfl)]
    have ir : ((m : Int) == 0) = r := by rw [i0, ← hv, hr]
    have q1 : (bangS.toList == [58, 45]) = false := by rw [Lib.toList_data]; decide
    have q2 : (bangS.toList == [44]) = false := by rw [Lib.toList_data]; decide
    have q3 : (bangS.toList == [59]) = false := by rw [Lib.toList_data]; decide
    have q4 : (bangS.toList == [45, 62]) = false := by rw [Lib.toList_data]; decide
    have q5 : (bangS.toList == [92, 43]) = false := by rw [Lib.toList_data]; decide
    have q6 : (bangS.toList == [33]) = true := by rw [Lib.toList_data]; decide
    have q7 : (bangS.toList == [116, 114, 117, 101]) = false := by rw [Lib.toList_data]; decide
    have q8 : (bangS.toList == [102, 97, 105, 108]) = false := by rw [Lib.toList_data]; decide
    clear hv hr i2 i1 i0 ne
    go_enter Tryz.func48, Tryz.ntmps48
    go_wp2
    go_ret
    exact ⟨rfl, HB.out⟩
  by_cases h7 : s = trueS
  · subst h7
    have hv : heldN trueS m = (m == 0) := by unfold heldN; rw [if_neg (by decide +kernel), if_neg (by decide +kernel), if_pos (Or.inr (Or.inl rfl))]
    have ir : ((m : Int) == 0) = r := by rw [i0, ← hv, hr]
    have q1 : (trueS.toList == [58, 45]) = false := by rw [Lib.toList_data]; decide
    have q2 : (trueS.toList == [44]) = false := by rw [Lib.toList_data]; decide
    have q3 : (trueS.toList == [59]) = false := by rw [Lib.toList_data]; decide
    have q4 : (trueS.toList == [45, 62]) = false := by rw [Lib.toList_data]; decide
    have q5 : (trueS.toList == [92, 43]) = false := by rw [Lib.toList_data]; decide
    have q6 : (trueS.toList == [33]) = false := by rw [Lib.toList_data]; decide
    have q7 : (trueS.toList == [116, 114, 117, 101]) = true := by rw [Lib.toList_data]; decide
    have q8 : (trueS.toList == [102, 97, 105, 108]) = false := by rw [Lib.toList_data]; decide
    clear hv hr i2 i1 i0 ne
    go_enter Tryz.func48, Tryz.ntmps48
    go_wp2
    go_ret
    exact ⟨rfl, HB.out⟩
  by_cases h8 : s = failS
  · subst h8
    have hv : heldN failS m = (m == 0) := by unfold heldN; rw [if_neg (by decide +kernel), if_neg (by decide +kernel), if_pos (Or.inr (Or.inr rfl))]
    have ir : ((m : Int) == 0) = r := by rw [i0, ← hv, hr]
    have q1 : (failS.toList == [58, 45]) = false := by rw [Lib.toList_data]; decide
    have q2 : (failS.toList == [44]) = false := by rw [Lib.toList_data]; decide
    have q3 : (failS.toList == [59]) = false := by rw [Lib.toList_data]; decide
    have q4 : (failS.toList == [45, 62]) = false := by rw [Lib.toList_data]; decide
    have q5 : (failS.toList == [92, 43]) = false := by rw [Lib.toList_data]; decide
    have q6 : (failS.toList == [33]) = false := by rw [Lib.toList_data]; decide
    have q7 : (failS.toList == [116, 114, 117, 101]) = false := by rw [Lib.toList_data]; decide
    have q8 : (failS.toList == [102, 97, 105, 108]) = true := by rw [Lib.toList_data]; decide
    clear hv hr i2 i1 i0 ne
    go_enter Tryz.func48, Tryz.ntmps48
    go_wp2
    go_ret
    exact ⟨rfl, HB.out⟩
  have q1 : (s.toList == [58, 45]) = false := ne neckS h1
  have q2 : (s.toList == [44]) = false := ne commaS h2
  have q3 : (s.toList == [59]) = false := ne semiS h3
  have q4 : (s.toList == [45, 62]) = false := ne arrowS h4
  have q5 : (s.toList == [92, 43]) = false := ne negS h5
  have q6 : (s.toList == [33]) = false := ne bangS h6
  have q7 : (s.toList == [116, 114, 117, 101]) = false := ne trueS h7
  have q8 : (s.toList == [102, 97, 105, 108]) = false := ne failS h8
  have hv : r = false := by
    rw [← hr]
    unfold heldN
    rw [if_neg (by simp [h1, h2, h3, h4]), if_neg h5, if_neg (by simp [h6, h7, h8])]
  subst hv
  clear hr i2 i1 i0 ne h1 h2 h3 h4 h5 h6 h7 h8
  go_enter Tryz.func48, Tryz.ntmps48
  go_wp2
  go_ret
  exact ⟨rfl, HB.out⟩
/-- Why a term is no head. -/
def headN (k : Int) (s : ByteArray) (m : Nat) : Int := if k = 0 then 6 else if k = 1 then 5 else if heldN s m = true then 8 else 0
set_option maxHeartbeats 4000000 in
theorem bhead_at (w : World) (k n : Int) (s : ByteArray) (a : Option Addr) (m c : Nat) : Calls Tryz.prog 32 #[.agg #[.int .i64 k, .int .i64 n, .string s, .slice a m c]] w fun e w' => e = .returned (.int .i64 (headN k s m)) ∧ Below w.heap.size w w' := by
  obtain ⟨w1, e1, B1, z1, X1⟩ := box_new w #[.int .i64 k, .int .i64 n, .string s, .slice a m c] 31
  have HE := Lib.hid e1
  have HB := Lib.hid B1
  obtain ⟨x0, x1, x2, x3, _⟩ := X1.four
  obtain ⟨r, hr⟩ : ∃ r, headN k s m = r := ⟨_, rfl⟩
  rw [hr]
  by_cases h0 : k = 0
  · subst h0
    have hv : r = 6 := by rw [← hr]; rfl
    subst hv
    clear hr e1 B1 z1 X1
    go_enter Tryz.func32, Tryz.ntmps32
    go_upto_region 1 with fail
    (try rw [HE.out])
    go_wp2
    go_ret
    exact ⟨rfl, HB.out⟩
  have b0 : (k == 0) = false := beq_false_of_ne h0
  by_cases h1 : k = 1
  · subst h1
    have hv : r = 5 := by rw [← hr]; rfl
    subst hv
    clear hr e1 B1 z1 X1 b0
    go_enter Tryz.func32, Tryz.ntmps32
    go_upto_region 1 with fail
    (try rw [HE.out])
    go_wp2
    go_ret
    exact ⟨rfl, HB.out⟩
  have b1 : (k == 1) = false := beq_false_of_ne h1
  have C := breserved_at w1 k n s a m c
  cases hh : heldN s m
  · rw [hh] at C
    have hv : r = 0 := by rw [← hr]; unfold headN; rw [if_neg h0, if_neg h1, hh]; rfl
    subst hv
    clear hr e1 B1 z1 X1 h0 h1 hh
    go_enter Tryz.func32, Tryz.ntmps32
    go_upto_region 1 with fail
    (try rw [HE.out])
    (go_wp2_with fail; go_fit (C); rintro e w2 ⟨rfl, b2⟩)
    have HB2 := Lib.hid (Ext.trans' HB.out b2)
    clear C b2
    go_wp2
    go_ret
    exact ⟨rfl, HB2.out⟩
  · rw [hh] at C
    have hv : r = 8 := by rw [← hr]; unfold headN; rw [if_neg h0, if_neg h1, hh]; rfl
    subst hv
    clear hr e1 B1 z1 X1 h0 h1 hh
    go_enter Tryz.func32, Tryz.ntmps32
    go_upto_region 1 with fail
    (try rw [HE.out])
    (go_wp2_with fail; go_fit (C); rintro e w2 ⟨rfl, b2⟩)
    have HB2 := Lib.hid (Ext.trans' HB.out b2)
    clear C b2
    go_wp2
    go_ret
    exact ⟨rfl, HB2.out⟩
end Go.Proofs.YtaojalicnnnkmaaGreatDoor
