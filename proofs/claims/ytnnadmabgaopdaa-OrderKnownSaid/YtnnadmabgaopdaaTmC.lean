/- Terms: which the document's own calls good. -/
import Derived.Test.YtnnadmabgaopdaaTmB
import Derived.Lib.Strings
namespace Go.Proofs.Ytnnadmabgaopdaa
open Go.RowKit
set_option linter.unusedVariables false

theorem formed_mk (k n : Int) (s : ByteArray) (ts : List Tm) : formedT (.mk k n s ts) = (plainT k n s.data.toList ts.length && formedL ts) := by rw [formedT]
theorem formed_no {k n : Int} {s : ByteArray} {ts : List Tm} (h : plainT k n s.data.toList ts.length = false) : formedT (.mk k n s ts) = false := by rw [formed_mk, h]; rfl
theorem formed_leaf {k n : Int} {s : ByteArray} (h : plainT k n s.data.toList 0 = true) : formedT (.mk k n s []) = true := by rw [formed_mk]; show (plainT k n s.data.toList 0 && formedL []) = true; rw [h, formedL]; rfl
theorem isEmpty_size (s : ByteArray) : s.data.toList.isEmpty = decide (s.size = 0) := by
  have h : s.data.toList.length = s.size := rfl
  cases hq : s.data.toList with
  | nil => rw [hq] at h; simp at h; simp [← h]
  | cons a r =>
    rw [hq, List.length_cons] at h
    rw [decide_eq_false (by omega)]
    rfl
theorem toList_empty {s : ByteArray} (h : s.size = 0) : s.toList.isEmpty = true := by rw [Lib.toList_data, isEmpty_size]; simpa using h
theorem toList_some {s : ByteArray} (h : ¬ s.size = 0) : s.toList.isEmpty = false := by rw [Lib.toList_data, isEmpty_size]; simpa using h
theorem letter_eq : ∀ c : UInt8, letterB c = (((c.toNat : Int) == 9) || ((c.toNat : Int) == 10) || (!decide ((c.toNat : Int) < 32) && !decide (126 < (c.toNat : Int)))) := by
  intro c
  have h : ((List.range 256).all fun n => letterB (UInt8.ofNat n) == ((((UInt8.ofNat n).toNat : Int) == 9) || (((UInt8.ofNat n).toNat : Int) == 10) || (!decide (((UInt8.ofNat n).toNat : Int) < 32) && !decide (126 < ((UInt8.ofNat n).toNat : Int))))) = true := by decide +kernel
  have h1 := List.all_eq_true.1 h c.toNat (List.mem_range.2 c.toNat_lt)
  have e : UInt8.ofNat c.toNat = c := by simp
  rw [e] at h1
  exact eq_of_beq h1
set_option maxHeartbeats 4000000 in
set_option maxRecDepth 100000 in
/-- A name with its Args: the letters, then the Args. -/
theorem rformed_two {s : ByteArray} {ts : List Tm} {w : World} {a : Option Addr} {m c : Nat} (hs : s.size ≤ 140737488351232) (h1 : m ≤ c) (h2 : c ≤ maxLen) (h3 : m * 56 ≤ 140737488351232) (g2 : ¬ 64 < s.size) (g3 : ¬ 8 < m) (HM : Hid (ts.length = m)) (HU : Hid (Tms w (.slice a m c) ts))
    (HP : Hid (formedT (.mk 2 0 s ts) = (s.data.toList.all letterB && formedL ts)))
    (IH : Hid (∀ y ∈ ts, ∀ (w : World) (v : Value), TmV w y v → Calls Try.prog 26 #[v] w fun e w' => e = .returned (.bool (formedT y)) ∧ Below w.heap.size w w')) :
    Calls Try.prog 26 #[.agg #[.int .i64 2, .int .i64 0, .string s, .slice a m c]] w fun e w' => e = .returned (.bool (formedT (.mk 2 0 s ts))) ∧ Below w.heap.size w w' := by
  obtain ⟨r, hr⟩ : ∃ r, formedT (.mk 2 0 s ts) = r := ⟨_, rfl⟩
  rw [hr]
  have HR := Lib.hid (HP.out.symm.trans hr)
  clear hr HP
  go_enter Try.func26, Try.ntmps26
  go_wp2_with fail
  go_loopw [3] (fun z wr => ∃ i : Nat, i ≤ s.size ∧ z = .int .i64 i ∧ Hid (∀ j (hj : j < s.size), j < i → letterB s[j] = true) ∧ wr = w.alloc (.cells #[.int .i64 2, .int .i64 0, .string s, .slice a m c] 38)) (fun z _ => s.size - (intOf z).toNat)
  case atStart => exact ⟨0, Nat.zero_le _, rfl, Lib.hid (fun j _ h => by omega), rfl⟩
  case round =>
    obtain ⟨i, hi, rfl, HL, rfl⟩ := hrel
    by_cases hil : i < s.size
    · cases hq : letterB s[i]
      · have hlq := letter_eq s[i]
        rw [hq] at hlq
        have hall : s.data.toList.all letterB = false := by
          rw [List.all_eq_false]
          exact ⟨s.data.toList[i]'hil, List.getElem_mem _, by show ¬ letterB s[i] = true; rw [hq]; simp⟩
        have hrf : r = false := by rw [← HR.out, hall]; rfl
        subst hrf
        obtain ⟨z, hz⟩ : ∃ z : Int, (s[i].toNat : Int) = z := ⟨_, rfl⟩
        rw [hz] at hlq
        have e9 : (z == 9) = false := by
          cases h : (z == 9)
          · rfl
          · rw [h] at hlq; cases hlq
        have e10 : (z == 10) = false := by
          cases h : (z == 10)
          · rfl
          · rw [h, Bool.or_true] at hlq; cases hlq
        rw [e9, e10, Bool.false_or, Bool.false_or] at hlq
        have n9 : (z != 9) = true := by unfold bne; rw [e9]; rfl
        have n10 : (z != 10) = true := by unfold bne; rw [e10]; rfl
        clear e9 e10
        clear hall hq HR HL
        by_cases h32 : z < 32
        · clear hlq
          go_wp2
          go_ret
          exact ⟨rfl, bel1' _ _⟩
        · have h126 : 126 < z := by
            simp [h32] at hlq
            omega
          clear hlq
          go_wp2
          go_ret
          exact ⟨rfl, bel1' _ _⟩
      · have hlq := letter_eq s[i]
        rw [hq] at hlq
        have HN : Hid (∀ j (hj : j < s.size), j < i + 1 → letterB s[j] = true) := Lib.hid (fun j hj h => by
          by_cases e : j = i
          · subst e; exact hq
          · exact HL.out j hj (by omega))
        obtain ⟨z, hz⟩ : ∃ z : Int, (s[i].toNat : Int) = z := ⟨_, rfl⟩
        rw [hz] at hlq
        clear hq HL
        by_cases e9 : z = 9
        · subst e9
          clear hlq
          go_wp2
          go_roundw
          case rel => exact ⟨i + 1, by omega, by go_num, HN, trivial⟩
          case measure => simp [intOf]; omega
        have e9' : (z == 9) = false := beq_false_of_ne e9
        by_cases e10 : z = 10
        · subst e10
          clear hlq
          go_wp2
          go_roundw
          case rel => exact ⟨i + 1, by omega, by go_num, HN, trivial⟩
          case measure => simp [intOf]; omega
        have e10' : (z == 10) = false := beq_false_of_ne e10
        rw [e9', e10'] at hlq
        have h32 : ¬ z < 32 := fun hh => by simp [hh] at hlq
        have h126 : ¬ 126 < z := fun hh => by simp [hh] at hlq
        have n9 : (z != 9) = true := by unfold bne; rw [e9']; rfl
        have n10 : (z != 10) = true := by unfold bne; rw [e10']; rfl
        clear hlq e9 e10 e9' e10'
        go_wp2
        go_roundw
        case rel => exact ⟨i + 1, by omega, by go_num, HN, trivial⟩
        case measure => simp [intOf]; omega
    · have hall : s.data.toList.all letterB = true := by
        rw [List.all_eq_true]
        intro x hx
        obtain ⟨j, hj, rfl⟩ := List.getElem_of_mem hx
        exact HL.out j hj (by have : j < s.size := hj; omega)
      have HR2 := Lib.hid (show formedL ts = r by rw [← HR.out, hall]; rfl)
      clear hall HR HL
      go_wp2_with fail
      go_loopw [5] (fun v wr => ∃ i : Nat, i ≤ m ∧ v = .int .i64 i ∧ Hid (formedL (ts.drop i) = r) ∧ Hid (Below (w.alloc (.cells #[.int .i64 2, .int .i64 0, .string s, .slice a m c] 38)).heap.size (w.alloc (.cells #[.int .i64 2, .int .i64 0, .string s, .slice a m c] 38)) wr)) (fun v _ => m - (intOf v).toNat)
      case atStart => exact ⟨0, Nat.zero_le _, rfl, Lib.hid (by rw [List.drop_zero]; exact HR2.out), Lib.hid (Below.refl _ _)⟩
      case round =>
        obtain ⟨i, hi, rfl, HD, HB⟩ := hrel
        obtain ⟨e0, e1, e2, e3⟩ := box_cells w 38 _ _ _ _ HB.out
        by_cases hil : i < m
        · obtain ⟨y, hy⟩ : ∃ y, ts[i]? = some y := ⟨_, List.getElem?_eq_getElem (by rw [HM.out]; exact hil)⟩
          have hdr : ts.drop i = y :: ts.drop (i + 1) := by
            obtain ⟨hlt', rfl⟩ := List.getElem?_eq_some_iff.1 hy
            exact List.drop_eq_getElem_cons hlt'
          have hd := HD.out
          rw [hdr, formedL] at hd
          have HBW := Lib.hid (Ext.trans' (bel1' w _) HB.out)
          obtain ⟨b, off, k', n', s', u', rfl, hbb, _, _, _, c0, c1, c2, c3, _, ht⟩ := (HU.out.ext HBW.out).get hy
          have ih := IH.out y (List.mem_of_getElem? hy) wr _ ht
          clear hdr HD ht
          cases hq : formedT y
          · rw [hq, Bool.false_and] at hd
            rw [hq] at ih
            subst hd
            clear hq hy HR2
            (go_wp2_with fail; go_fit (ih); rintro e w2 ⟨rfl, b2⟩)
            have B2 := Lib.hid (Ext.trans' HBW.out b2)
            clear b2
            go_wp2
            go_ret
            exact ⟨rfl, B2.out⟩
          · rw [hq, Bool.true_and] at hd
            rw [hq] at ih
            have HD := Lib.hid hd
            clear hq hd hy
            (go_wp2_with fail; go_fit (ih); rintro e w2 ⟨rfl, b2⟩)
            have B2 := Lib.hid (Ext.trans' HB.out b2)
            clear b2
            go_wp2
            go_roundw
            case rel => exact ⟨i + 1, by omega, by go_num, HD, B2⟩
            case measure => simp [intOf]; omega
        · have hd := HD.out
          rw [List.drop_eq_nil_of_le (by rw [HM.out]; omega), formedL] at hd
          subst hd
          clear HR2 HD
          go_wp2
          go_ret
          exact ⟨rfl, Ext.trans' (bel1' w _) HB.out⟩
end Go.Proofs.Ytnnadmabgaopdaa
