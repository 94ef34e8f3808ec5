import Derived.Test.YtobdhcaoeholhaaGreatDoorHbyab
import Derived.Lib.Strings
import Derived.Deep.Quiet
import Derived.Below
import Derived.BigQuiet
import Derived.Deep.QuietTactic
import Derived.Deep.RegionHeld3
set_option linter.unusedVariables false
set_option linter.unusedSimpArgs false
/- Package term: what fits. -/
namespace Go.Proofs.YtobdhcaoeholhaaGreatDoor
open Go.RowKit
set_option linter.unusedVariables false

theorem isEmpty_size' (s : ByteArray) : s.data.toList.isEmpty = decide (s.size = 0) := by
  have h : s.data.toList.length = s.size := rfl
  cases hq : s.data.toList with
  | nil => rw [hq] at h; simp at h; simp [← h]
  | cons a r =>
    rw [hq, List.length_cons] at h
    rw [decide_eq_false (by omega)]
    rfl
theorem toList_empty' {s : ByteArray} (h : s.size = 0) : s.toList.isEmpty = true := by rw [Lib.toList_data, isEmpty_size']; simpa using h
theorem toList_some' {s : ByteArray} (h : ¬ s.size = 0) : s.toList.isEmpty = false := by rw [Lib.toList_data, isEmpty_size']; simpa using h
theorem letter_eq' : ∀ c : UInt8, letterB c = (((c.toNat : Int) == 9) || ((c.toNat : Int) == 10) || (!decide ((c.toNat : Int) < 32) && !decide (126 < (c.toNat : Int)))) := by
  intro c
  have h : ((List.range 256).all fun n => letterB (UInt8.ofNat n) == ((((UInt8.ofNat n).toNat : Int) == 9) || (((UInt8.ofNat n).toNat : Int) == 10) || (!decide (((UInt8.ofNat n).toNat : Int) < 32) && !decide (126 < ((UInt8.ofNat n).toNat : Int))))) = true := by decide +kernel
  have hc := List.all_eq_true.1 h c.toNat (List.mem_range.2 (UInt8.toNat_lt c))
  rw [UInt8.ofNat_toNat] at hc
  exact eq_of_beq hc
def fitB (s : ByteArray) : Bool := decide (s.size ≤ 64) && s.data.toList.all letterB
set_option maxHeartbeats 2000000 in
theorem fitsName_at (s : ByteArray) (hs : s.size ≤ 140737488351232) (w : World) : Calls Tryz.prog 147 #[.string s] w fun e w' => e = .returned (.bool (fitB s)) ∧ w = w' := by
  by_cases hbig : 64 < s.size
  · have hr : fitB s = false := by unfold fitB; rw [decide_eq_false (by omega)]; rfl
    rw [hr]
    clear hr
    go_enter Tryz.func147, Tryz.ntmps147
    go_wp2
    go_ret
    exact ⟨rfl, rfl⟩
  obtain ⟨r, hr⟩ : ∃ r, fitB s = r := ⟨_, rfl⟩
  rw [hr]
  have HR : Hid (s.data.toList.all letterB = r) := Lib.hid (by rw [← hr]; unfold fitB; rw [decide_eq_true (by omega)]; rfl)
  clear hr
  go_enter Tryz.func147, Tryz.ntmps147
  go_wp2_with fail
  go_loop [10] (fun z => ∃ i : Nat, i ≤ s.size ∧ z = .int .i64 i ∧ Hid (∀ j (hj : j < s.size), j < i → letterB s[j] = true)) (fun z => s.size - (intOf z).toNat)
  case atStart => exact ⟨0, Nat.zero_le _, rfl, Lib.hid (fun j _ h => by omega)⟩
  case round =>
    obtain ⟨i, hi, rfl, HL⟩ := hrel
    by_cases hil : i < s.size
    · cases hq : letterB s[i]
      · have hlq := letter_eq' s[i]
        rw [hq] at hlq
        have hall : s.data.toList.all letterB = false := by
          rw [List.all_eq_false]
          exact ⟨s.data.toList[i]'hil, List.getElem_mem _, by show ¬ letterB s[i] = true; rw [hq]; simp⟩
        have hrf : r = false := by rw [← HR.out, hall]
        subst hrf
        obtain ⟨z, hz⟩ : ∃ z : Int, (s[i].toNat : Int) = z := ⟨_, rfl⟩
        rw [hz] at hlq
        have e9 : (z == 9) = false := by
          cases h : (z == 9)
          · rfl
          · rw [h] at hlq; cases hlq
        have e10 : (z == 10) = false := by
          cases h : (z == 10)
          · rfl
          · rw [h, Bool.or_true] at hlq; cases hlq
        rw [e9, e10, Bool.false_or, Bool.false_or] at hlq
        have n9 : (z != 9) = true := by unfold bne; rw [e9]; rfl
        have n10 : (z != 10) = true := by unfold bne; rw [e10]; rfl
        clear e9 e10
        clear hall hq HR HL
        by_cases h32 : z < 32
        · clear hlq
          go_wp2
          go_ret
          exact ⟨rfl, rfl⟩
        · have h126 : 126 < z := by
            simp [h32] at hlq
            omega
          clear hlq
          go_wp2
          go_ret
          exact ⟨rfl, rfl⟩
      · have hlq := letter_eq' s[i]
        rw [hq] at hlq
        have HN : Hid (∀ j (hj : j < s.size), j < i + 1 → letterB s[j] = true) := Lib.hid (fun j hj h => by
          by_cases e : j = i
          · subst e; exact hq
          · exact HL.out j hj (by omega))
        obtain ⟨z, hz⟩ : ∃ z : Int, (s[i].toNat : Int) = z := ⟨_, rfl⟩
        rw [hz] at hlq
        clear hq HL
        by_cases e9 : z = 9
        · subst e9
          clear hlq
          go_wp2
          go_round
          case rel => exact ⟨i + 1, by omega, by go_num, HN⟩
          case measure => simp [intOf]; omega
        have e9' : (z == 9) = false := beq_false_of_ne e9
        by_cases e10 : z = 10
        · subst e10
          clear hlq
          go_wp2
          go_round
          case rel => exact ⟨i + 1, by omega, by go_num, HN⟩
          case measure => simp [intOf]; omega
        have e10' : (z == 10) = false := beq_false_of_ne e10
        rw [e9', e10'] at hlq
        have h32 : ¬ z < 32 := fun hh => by simp [hh] at hlq
        have h126 : ¬ 126 < z := fun hh => by simp [hh] at hlq
        have n9 : (z != 9) = true := by unfold bne; rw [e9']; rfl
        have n10 : (z != 10) = true := by unfold bne; rw [e10']; rfl
        clear hlq e9 e10 e9' e10'
        go_wp2
        go_round
        case rel => exact ⟨i + 1, by omega, by go_num, HN⟩
        case measure => simp [intOf]; omega
    · have hall : s.data.toList.all letterB = true := by
        rw [List.all_eq_true]
        intro x hx
        obtain ⟨j, hj, rfl⟩ := List.getElem_of_mem hx
        exact HL.out j hj (by have : j < s.size := hj; omega)
      have hrt : r = true := by rw [← HR.out, hall]
      subst hrt
      clear hall HR HL
      go_wp2
      go_ret
      exact ⟨rfl, rfl⟩
set_option maxHeartbeats 4000000 in
set_option maxRecDepth 100000 in
theorem fits_at {k n : Int} {s : ByteArray} {a : Option Addr} {m c : Nat} (hs : s.size ≤ 140737488351232) (hn : I64 n) (h1 : m ≤ c) (h2 : c ≤ maxLen) (h3 : m * 56 ≤ 140737488351232) (w : World) :
    Calls Tryz.prog 107 #[.agg #[.int .i64 k, .int .i64 n, .string s, .slice a m c]] w fun e w' => e = .returned (.bool (plainT k n s.data.toList m)) ∧ Below w.heap.size w w' := by
  have F := fun w => fitsName_at s hs w
  by_cases k0 : k = 0
  · subst k0
    have hp : plainT 0 n s.data.toList m = (decide (0 ≤ n) && decide (n < 2147483648) && decide (s.size = 0) && decide (m = 0)) := by
      unfold plainT; rw [if_pos rfl, isEmpty_size']
    by_cases g1 : 0 ≤ n
    · by_cases g2 : n < 2147483648
      · have g2' : n ≤ 2147483647 := by omega
        by_cases g3 : s.size = 0
        · have g3' := toList_empty' g3
          by_cases g4 : m = 0
          · have hr : plainT 0 n s.data.toList m = true := by rw [hp]; simp [g1, g2, g3, g4]
            rw [hr]
            subst g4
            clear hp g3 hr F
            go_enter Tryz.func107, Tryz.ntmps107
            go_wp2
            go_ret
            exact ⟨rfl, bel1' _ _⟩
          · have hr : plainT 0 n s.data.toList m = false := by rw [hp]; simp [g4]
            rw [hr]
            have g4' : ((m : Int) == 0) = false := by apply beq_false_of_ne; omega
            clear hp g3 hr F
            go_enter Tryz.func107, Tryz.ntmps107
            go_wp2
            go_ret
            exact ⟨rfl, bel1' _ _⟩
        · have hr : plainT 0 n s.data.toList m = false := by rw [hp]; simp [g3]
          rw [hr]
          have g3' := toList_some' g3
          clear hp hr F
          go_enter Tryz.func107, Tryz.ntmps107
          go_wp2
          go_ret
          exact ⟨rfl, bel1' _ _⟩
      · have hr : plainT 0 n s.data.toList m = false := by rw [hp]; simp [g2]
        rw [hr]
        have g2' : ¬ n ≤ 2147483647 := by omega
        clear hp hr F
        go_enter Tryz.func107, Tryz.ntmps107
        go_wp2
        go_ret
        exact ⟨rfl, bel1' _ _⟩
    · have hr : plainT 0 n s.data.toList m = false := by rw [hp]; simp [g1]
      rw [hr]
      clear hp hr F
      go_enter Tryz.func107, Tryz.ntmps107
      go_wp2
      go_ret
      exact ⟨rfl, bel1' _ _⟩
  by_cases k1 : k = 1
  · subst k1
    have hp : plainT 1 n s.data.toList m = (decide (s.size = 0) && decide (m = 0)) := by
      unfold plainT; rw [if_neg (by decide), if_pos rfl, isEmpty_size']
    by_cases g3 : s.size = 0
    · have g3' := toList_empty' g3
      by_cases g4 : m = 0
      · have hr : plainT 1 n s.data.toList m = true := by rw [hp]; simp [g3, g4]
        rw [hr]
        subst g4
        clear hp g3 hr F
        go_enter Tryz.func107, Tryz.ntmps107
        go_wp2
        go_ret
        exact ⟨rfl, bel1' _ _⟩
      · have hr : plainT 1 n s.data.toList m = false := by rw [hp]; simp [g4]
        rw [hr]
        have g4' : ((m : Int) == 0) = false := by apply beq_false_of_ne; omega
        clear hp g3 hr F
        go_enter Tryz.func107, Tryz.ntmps107
        go_wp2
        go_ret
        exact ⟨rfl, bel1' _ _⟩
    · have hr : plainT 1 n s.data.toList m = false := by rw [hp]; simp [g3]
      rw [hr]
      have g3' := toList_some' g3
      clear hp hr F
      go_enter Tryz.func107, Tryz.ntmps107
      go_wp2
      go_ret
      exact ⟨rfl, bel1' _ _⟩
  have k0' : (k == 0) = false := beq_false_of_ne k0
  have k1' : (k == 1) = false := beq_false_of_ne k1
  by_cases k2 : k = 2
  · subst k2
    have hp : plainT 2 n s.data.toList m = (decide (n = 0) && decide (m ≤ 8) && fitB s) := by
      unfold plainT fitB; rw [if_neg (by decide), if_neg (by decide), if_pos rfl]
      have e : s.data.toList.length = s.size := rfl
      rw [e]
      cases decide (n = 0) <;> cases decide (s.size ≤ 64) <;> cases decide (m ≤ 8) <;> simp
    by_cases g1 : n = 0
    · subst g1
      by_cases g3 : m ≤ 8
      · have hr : plainT 2 0 s.data.toList m = fitB s := by rw [hp, decide_eq_true g3]; simp
        rw [hr]
        have g3i : (m : Int) ≤ 8 := by omega
        clear hr hp k0 k1 k0' k1'
        generalize fitB s = r at F ⊢
        cases r
        · go_enter Tryz.func107, Tryz.ntmps107
          (go_wp2_with fail; go_fit (F _); rintro e w1 ⟨rfl, rfl⟩)
          go_wp2
          go_ret
          exact ⟨rfl, bel1' _ _⟩
        · go_enter Tryz.func107, Tryz.ntmps107
          (go_wp2_with fail; go_fit (F _); rintro e w1 ⟨rfl, rfl⟩)
          go_wp2
          go_ret
          exact ⟨rfl, bel1' _ _⟩
      · have hr : plainT 2 0 s.data.toList m = false := by rw [hp, decide_eq_false g3]; simp
        rw [hr]
        have g3i : (8 : Int) < m := by omega
        clear hr hp k0 k1 k0' k1'
        generalize fitB s = r at F
        cases r
        · go_enter Tryz.func107, Tryz.ntmps107
          (go_wp2_with fail; go_fit (F _); rintro e w1 ⟨rfl, rfl⟩)
          go_wp2
          go_ret
          exact ⟨rfl, bel1' _ _⟩
        · go_enter Tryz.func107, Tryz.ntmps107
          (go_wp2_with fail; go_fit (F _); rintro e w1 ⟨rfl, rfl⟩)
          go_wp2
          go_ret
          exact ⟨ret_bool (decide_eq_false (by omega)), bel1' _ _⟩
    · have hr : plainT 2 n s.data.toList m = false := by rw [hp]; simp [g1]
      rw [hr]
      have g1' : (n == 0) = false := beq_false_of_ne g1
      clear hp hr k0 k1 k0' k1' F
      go_enter Tryz.func107, Tryz.ntmps107
      go_wp2
      go_ret
      exact ⟨rfl, bel1' _ _⟩
  · have hr : plainT k n s.data.toList m = false := by unfold plainT; rw [if_neg k0, if_neg k1, if_neg k2]
    rw [hr]
    have k2' : (k == 2) = false := beq_false_of_ne k2
    clear hr k0 k1 k2 F
    go_enter Tryz.func107, Tryz.ntmps107
    go_wp2
    go_ret
    exact ⟨rfl, bel1' _ _⟩
end Go.Proofs.YtobdhcaoeholhaaGreatDoor
/- Package term: what is good. -/
namespace Go.Proofs.YtobdhcaoeholhaaGreatDoor
open Go.RowKit
set_option linter.unusedVariables false

/-- Of that depth at most, and formed. -/
def okT (t : Tm) (q : Nat) : Bool := decide (depthN t ≤ q) && formedT t
def okL : List Tm → Nat → Bool
  | [], _ => true
  | x :: r, q => okT x q && okL r q
theorem okL_eq : ∀ (l : List Tm) (q : Nat), okL l q = (decide (depthsN l ≤ q) && formedL l)
  | [], q => by simp [okL, depthsN, formedL]
  | x :: r, q => by
    rw [okL, okL_eq r q, depthsN, formedL]
    unfold okT
    by_cases h1 : depthN x ≤ q
    · by_cases h2 : depthsN r ≤ q
      · rw [decide_eq_true h1, decide_eq_true h2, decide_eq_true (by omega)]
        cases formedT x <;> cases formedL r <;> rfl
      · rw [decide_eq_true h1, decide_eq_false h2, decide_eq_false (by omega)]
        cases formedT x <;> rfl
    · have e : decide (max (depthN x) (depthsN r) ≤ q) = false := decide_eq_false (by omega)
      rw [decide_eq_false h1, e]
      rfl
theorem okT_zero (t : Tm) : okT t 0 = false := by
  unfold okT
  have := depth_pos t
  rw [decide_eq_false (by omega)]
  rfl
theorem okT_succ (k n : Int) (s : ByteArray) (ts : List Tm) (q : Nat) : okT (.mk k n s ts) (q + 1) = (plainT k n s.data.toList ts.length && okL ts q) := by
  unfold okT
  rw [okL_eq, formedT, depthN]
  by_cases h : depthsN ts ≤ q
  · rw [decide_eq_true h, decide_eq_true (by omega)]
    cases plainT k n s.data.toList ts.length <;> rfl
  · rw [decide_eq_false h, decide_eq_false (by omega)]
    cases plainT k n s.data.toList ts.length <;> rfl
set_option maxHeartbeats 4000000 in
set_option maxRecDepth 100000 in
theorem good_at : ∀ (q : Nat) (x : Tm), q ≤ 1000000 → ∀ (w : World) (v : Value), TmV w x v →
    Calls Tryz.prog 67 #[v, .int .i64 q] w fun e w' => e = .returned (.bool (okT x q)) ∧ Below w.heap.size w w'
  | 0, x, hq, w, v, hv => by
    obtain ⟨k, n, s, u, rfl⟩ := hv.four
    rw [okT_zero]
    clear hv
    go_enter Tryz.func67, Tryz.ntmps67
    go_wp2
    go_ret
    exact ⟨rfl, bel1' _ _⟩
  | q + 1, .mk k n s ts, hq, w, v, hv => by
    obtain ⟨u, rfl, hs, hk, hn, hu⟩ := tmV_iff.1 hv
    obtain ⟨a, c, rfl, h1, h2, h3⟩ := hu.len
    unfold BIG at h3 hs
    rw [okT_succ]
    obtain ⟨m, hm⟩ : ∃ m, ts.length = m := ⟨_, rfl⟩
    have IH := Lib.hid (fun (y : Tm) => good_at q y (by omega))
    have HU := Lib.hid hu
    have HM := Lib.hid hm
    rw [hm] at h1 h3 hu HU ⊢
    have F := fun w => fits_at (k := k) (n := n) (s := s) (a := a) (m := m) (c := c) hs hn h1 h2 h3 w
    obtain ⟨p, hp⟩ : ∃ p, plainT k n s.data.toList m = p := ⟨_, rfl⟩
    rw [hp] at F ⊢
    obtain ⟨Q, hQ⟩ : ∃ Q : Int, ((q + 1 : Nat) : Int) = Q := ⟨_, rfl⟩
    rw [hQ]
    have hq1 : Q - 1 = q := by omega
    have hQ0 : (Q == 0) = false := by apply beq_false_of_ne; omega
    have hQb : Q ≤ 1000001 := by omega
    have hQ1 : 0 < Q := by omega
    clear hv hu hm hp hQ
    cases p
    · rw [Bool.false_and]
      go_enter Tryz.func67, Tryz.ntmps67
      (go_wp2_with fail; go_fit (F _); rintro e w1 ⟨rfl, b1⟩)
      have B1 := Lib.hid (Ext.trans' (bel1' w _) b1)
      clear b1
      go_wp2
      go_ret
      exact ⟨rfl, B1.out⟩
    · rw [Bool.true_and]
      obtain ⟨r, hr⟩ : ∃ r, okL ts q = r := ⟨_, rfl⟩
      rw [hr]
      have HR := Lib.hid hr
      clear hr
      go_enter Tryz.func67, Tryz.ntmps67
      (go_wp2_with fail; go_fit (F _); rintro e w1 ⟨rfl, b1⟩)
      obtain ⟨e0, e1, e2, e3⟩ := box_cells w 27 _ _ _ _ b1
      have B1 := Lib.hid (Ext.trans' (bel1' w _) b1)
      clear b1 F
      go_wp2_with fail
      go_loopw [17] (fun v wr => ∃ i : Nat, i ≤ m ∧ v = .int .i64 i ∧ Hid (okL (ts.drop i) q = r) ∧ Hid (Below w.heap.size w wr)) (fun v _ => m - (intOf v).toNat)
      case atStart => exact ⟨0, Nat.zero_le _, rfl, Lib.hid (by rw [List.drop_zero]; exact HR.out), B1⟩
      case round =>
        obtain ⟨i, hi, rfl, HD, HB⟩ := hrel
        by_cases hil : i < m
        · obtain ⟨y, hy⟩ : ∃ y, ts[i]? = some y := ⟨_, List.getElem?_eq_getElem (by rw [HM.out]; exact hil)⟩
          have hdr : ts.drop i = y :: ts.drop (i + 1) := by
            obtain ⟨hlt', rfl⟩ := List.getElem?_eq_some_iff.1 hy
            exact List.drop_eq_getElem_cons hlt'
          have hd := HD.out
          rw [hdr, okL] at hd
          obtain ⟨b, off, k', n', s', u', rfl, hbb, _, _, _, c0, c1, c2, c3, htu, ht⟩ := (HU.out.ext HB.out).get hy
          obtain ⟨au, cu, rfl, _⟩ := htu.len
          clear htu
          have ih := IH.out y _ _ (TmV.ext (bel1' wr (box4 k' n' s' (.slice au y.args.length cu) 27)) _ _ ht)
          clear hdr HD ht
          cases hq : okT y q
          · rw [hq, Bool.false_and] at hd
            rw [hq] at ih
            subst hd
            clear hq hy HR
            (go_wp2_with fail; go_fit (ih); rintro e w2 ⟨rfl, b2⟩)
            have B2 := Lib.hid (Ext.trans' HB.out (Ext.trans' (bel1' _ _) b2))
            clear b2
            go_wp2
            go_ret
            exact ⟨rfl, B2.out⟩
          · rw [hq, Bool.true_and] at hd
            rw [hq] at ih
            have HD := Lib.hid hd
            clear hq hd hy
            (go_wp2_with fail; go_fit (ih); rintro e w2 ⟨rfl, b2⟩)
            have B2 := Lib.hid (Ext.trans' HB.out (Ext.trans' (bel1' _ _) b2))
            clear b2
            go_wp2
            go_roundw
            case rel => exact ⟨i + 1, by omega, by go_num, HD, B2⟩
            case measure => simp [intOf]; omega
        · have hd := HD.out
          rw [List.drop_eq_nil_of_le (by rw [HM.out]; omega), okL] at hd
          subst hd
          clear HR HD
          go_wp2
          go_ret
          exact ⟨rfl, HB.out⟩
theorem Good_at (x : Tm) (w : World) (v : Value) (hv : TmV w x v) : Calls Tryz.prog 36 #[v] w fun e w' => e = .returned (.bool (goodT x)) ∧ Below w.heap.size w w' := by
  have S := fun w (h : TmV w x v) => size_at x w v h
  have G := fun w (h : TmV w x v) => good_at 64 x (by omega) w v h
  have hg : goodT x = (decide (sizeN x ≤ 2000) && okT x 64) := by
    unfold goodT okT
    rw [Bool.and_assoc]
  obtain ⟨k, n, s, u, rfl⟩ := hv.four
  have hv0 := TmV.ext (bel1' w (box4 k n s u 27)) _ _ hv
  obtain ⟨p, hp⟩ : ∃ p, min (sizeN x) 2001 = p := ⟨_, rfl⟩
  rw [hp] at S
  rw [hg]
  generalize okT x 64 = f at G ⊢
  clear hg hv
  by_cases h1 : p ≤ 2000
  · rw [decide_eq_true (by omega), Bool.true_and]
    clear hp
    go_enter Tryz.func36, Tryz.ntmps36
    (go_wp2_with fail; go_fit (S _ hv0); rintro e w1 ⟨rfl, b1⟩)
    obtain ⟨e0, e1, e2, e3⟩ := box_cells w 27 _ _ _ _ b1
    have hv1 := TmV.ext b1 _ _ hv0
    (go_wp2_with fail; go_fit (G _ hv1); rintro e w2 ⟨rfl, b2⟩)
    have B2 := Lib.hid (Ext.trans' (bel1' w _) (Ext.trans' b1 b2))
    clear b1 b2
    go_wp2
    go_ret
    exact ⟨rfl, B2.out⟩
  · rw [decide_eq_false (by omega), Bool.false_and]
    clear hp
    go_enter Tryz.func36, Tryz.ntmps36
    (go_wp2_with fail; go_fit (S _ hv0); rintro e w1 ⟨rfl, b1⟩)
    obtain ⟨e0, e1, e2, e3⟩ := box_cells w 27 _ _ _ _ b1
    have B1 := Lib.hid (Ext.trans' (bel1' w _) b1)
    clear b1
    go_wp2
    go_ret
    exact ⟨rfl, B1.out⟩
end Go.Proofs.YtobdhcaoeholhaaGreatDoor
/- A region that draws its order, walked once in the text's order, in a class of worlds. Nothing here speaks of one program. -/
namespace Go
section
variable {P : Program} {ops : Array Oper} {C : World → Prop}
theorem quiet_of {o : Oper} {a : Act} {K : Act → Prop} (h : ∃ v, (∀ w, C w → o.quietAt P a C w v) ∧ K (a.put o.dst v)) : o.quiet P a C K := h
theorem wp_region_class (C : World → Prop) {id : Nat} {Q : Exit → Act → World → Prop} {a : Act} {w : World} {l : List Oper} (hm : P.follows .mixedOrders = true) (hB : Region.lexB .any l.toArray = true) (hC : C w.drew)
    (h : wpQuiet P l.toArray C (fun a' => ∀ w', C w' → Q .normal a' w') l a) : (Code.region id l.toArray true).wp P Q a w :=
  wp_region_quiet hm hB hC (by simpa using h)
end
end Go
/- Package term: Same. -/
namespace Go.Proofs.YtobdhcaoeholhaaGreatDoor
open Go.RowKit
set_option linter.unusedVariables false

theorem same_mk' (k n k' n' : Int) (s s' : ByteArray) (ts ts' : List Tm) : sameT (.mk k n s ts) (.mk k' n' s' ts') = (k == k' && n == n' && s.data.toList == s'.data.toList && sameL ts ts') := by rw [sameT]
theorem sames_len' : ∀ {a b : List Tm}, ¬ a.length = b.length → sameL a b = false
  | [], [], h => absurd rfl h
  | x :: r, y :: q, h => by
    rw [sameL, sames_len' (a := r) (b := q) (by simpa using h), Bool.and_false]
  | [], y :: q, _ => by simp [sameL]
  | x :: r, [], _ => by simp [sameL]
theorem sames_step' {a b : List Tm} {i : Nat} {x y : Tm} (hx : a[i]? = some x) (hy : b[i]? = some y) : sameL (a.drop i) (b.drop i) = (sameT x y && sameL (a.drop (i + 1)) (b.drop (i + 1))) := by
  obtain ⟨h1, rfl⟩ := List.getElem?_eq_some_iff.1 hx
  obtain ⟨h2, rfl⟩ := List.getElem?_eq_some_iff.1 hy
  rw [List.drop_eq_getElem_cons h1, List.drop_eq_getElem_cons h2, sameL]
set_option maxHeartbeats 4000000 in
set_option maxRecDepth 100000 in
theorem equal_at {w : World} {va vb : Value} {ts ts' : List Tm} (hu : Tms w va ts) (hu' : Tms w vb ts')
    (IH : Hid (∀ x ∈ ts, ∀ (y : Tm) (w : World) (va vb : Value), TmV w x va → TmV w y vb → Calls Tryz.prog 46 #[va, vb] w fun e w' => e = .returned (.bool (sameT x y)) ∧ Below w.heap.size w w')) :
    Calls Tryz.prog 75 #[va, vb, .func (.func 46) #[] #[]] w fun e w' => e = .returned (.bool (sameL ts ts')) ∧ Below w.heap.size w w' := by
  obtain ⟨a, c, rfl, h1, h2, h3⟩ := hu.len
  obtain ⟨a', c', rfl, h1', h2', h3'⟩ := hu'.len
  unfold BIG at h3 h3'
  obtain ⟨m, hm⟩ : ∃ m, ts.length = m := ⟨_, rfl⟩
  obtain ⟨m', hm'⟩ : ∃ m', ts'.length = m' := ⟨_, rfl⟩
  by_cases g : m = m'
  · subst g
    obtain ⟨r, hr⟩ : ∃ r, sameL ts ts' = r := ⟨_, rfl⟩
    rw [hr]
    have HR := Lib.hid hr
    have HU := Lib.hid hu
    have HU' := Lib.hid hu'
    have HM := Lib.hid hm
    have HM' := Lib.hid hm'
    rw [hm] at h1 h3 HU hu ⊢
    rw [hm'] at h1' h3' HU' hu' ⊢
    clear hr hm hm' hu hu'
    go_enter Tryz.func75, Tryz.ntmps75
    go_wp2_with fail
    go_loopw [17] (fun v wr => ∃ i : Nat, i ≤ m ∧ v = .int .i64 i ∧ Hid (sameL (ts.drop i) (ts'.drop i) = r) ∧ Hid (Below w.heap.size w wr)) (fun v _ => m - (intOf v).toNat)
    case atStart => exact ⟨0, Nat.zero_le _, rfl, Lib.hid (by rw [List.drop_zero, List.drop_zero]; exact HR.out), Lib.hid (Below.refl _ _)⟩
    case round =>
      obtain ⟨i, hi, rfl, HD, HB⟩ := hrel
      by_cases hil : i < m
      · obtain ⟨x, hx⟩ : ∃ x, ts[i]? = some x := ⟨_, List.getElem?_eq_getElem (by rw [HM.out]; exact hil)⟩
        obtain ⟨y, hy⟩ : ∃ y, ts'[i]? = some y := ⟨_, List.getElem?_eq_getElem (by rw [HM'.out]; exact hil)⟩
        have hd := HD.out
        rw [sames_step' hx hy] at hd
        obtain ⟨b, off, k1, n1, s1, u1, rfl, hbb, _, _, _, c0, c1, c2, c3, htu, ht⟩ := (HU.out.ext HB.out).get hx
        obtain ⟨b', off', k2, n2, s2, u2, rfl, hbb', _, _, _, d0, d1, d2, d3, htu', ht'⟩ := (HU'.out.ext HB.out).get hy
        obtain ⟨au, cu, rfl, _⟩ := htu.len
        obtain ⟨au', cu', rfl, _⟩ := htu'.len
        clear htu htu'
        have hw : Below wr.heap.size wr ((wr.alloc (box4 k1 n1 s1 (.slice au x.args.length cu) 27)).alloc (box4 k2 n2 s2 (.slice au' y.args.length cu') 27)) := (bel1' wr _).alloc (by simp) _
        have ih := IH.out x (List.mem_of_getElem? hx) y _ _ _ (TmV.ext hw _ _ ht) (TmV.ext hw _ _ ht')
        have HWW := Lib.hid hw
        clear HD ht ht' hx hy hw
        cases hq : sameT x y
        · rw [hq, Bool.false_and] at hd
          rw [hq] at ih
          subst hd
          clear hq HR
          (go_wp2_with fail; go_fit (ih); rintro e w2 ⟨rfl, b2⟩)
          have B2 := Lib.hid (Ext.trans' HB.out (Ext.trans' HWW.out b2))
          clear b2
          go_wp2
          go_ret
          exact ⟨rfl, B2.out⟩
        · rw [hq, Bool.true_and] at hd
          rw [hq] at ih
          have HD := Lib.hid hd
          clear hq hd
          (go_wp2_with fail; go_fit (ih); rintro e w2 ⟨rfl, b2⟩)
          have B2 := Lib.hid (Ext.trans' HB.out (Ext.trans' HWW.out b2))
          clear b2
          go_wp2
          go_roundw
          case rel => exact ⟨i + 1, by omega, by go_num, HD, B2⟩
          case measure => simp [intOf]; omega
      · have hd := HD.out
        rw [List.drop_eq_nil_of_le (by rw [HM.out]; omega), List.drop_eq_nil_of_le (by rw [HM'.out]; omega), sameL] at hd
        subst hd
        clear HR HD
        go_wp2
        go_ret
        exact ⟨rfl, HB.out⟩
  · rw [sames_len' (by rw [hm, hm']; exact g)]
    rw [hm] at h1 ⊢
    rw [hm'] at h1' ⊢
    have g' : ((m : Int) != m') = true := by simp; omega
    have gn : ¬ (m : Int) = m' := by omega
    clear hm hm' hu hu' IH h3 h3'
    go_enter Tryz.func75, Tryz.ntmps75
    go_wp2
    go_ret
    exact ⟨rfl, Below.refl _ _⟩
set_option maxHeartbeats 4000000 in
theorem same_at : ∀ (N : Nat) (x : Tm), sizeN x ≤ N → ∀ (y : Tm) (w : World) (va vb : Value), TmV w x va → TmV w y vb →
    Calls Tryz.prog 46 #[va, vb] w fun e w' => e = .returned (.bool (sameT x y)) ∧ Below w.heap.size w w'
  | 0, x, h, y, w, va, vb, hv, hv' => by have := size_pos x; omega
  | N + 1, .mk k n s ts, h, .mk k' n' s' ts', w, va, vb, hv, hv' => by
    obtain ⟨u, rfl, hs, hk, hn, hu⟩ := tmV_iff.1 hv
    obtain ⟨u', rfl, hs', hk', hn', hu'⟩ := tmV_iff.1 hv'
    obtain ⟨a, c, rfl, h1, h2, h3⟩ := hu.len
    obtain ⟨a', c', rfl, h1', h2', h3'⟩ := hu'.len
    unfold BIG at h3 h3' hs hs'
    have IH := Lib.hid (fun (x : Tm) (hx : x ∈ ts) => same_at N x (mem_size h hx))
    obtain ⟨m, hm⟩ : ∃ m, ts.length = m := ⟨_, rfl⟩
    obtain ⟨m', hm'⟩ : ∃ m', ts'.length = m' := ⟨_, rfl⟩
    have hmk := same_mk' k n k' n' s s' ts ts'
    have hw : Below w.heap.size w ((w.alloc (box4 k n s (.slice a ts.length c) 27)).alloc (box4 k' n' s' (.slice a' ts'.length c') 27)) := (bel1' w _).alloc (by simp) _
    have HW := Lib.hid hw
    by_cases g1 : k = k'
    · subst g1
      by_cases g2 : n = n'
      · subst g2
        by_cases g3 : s = s'
        · subst g3
          rw [hmk, beq_self_eq_true, beq_self_eq_true, beq_self_eq_true, Bool.true_and, Bool.true_and, Bool.true_and]
          have E := equal_at (hu.ext hw) (hu'.ext hw) IH
          generalize sameL ts ts' = r at E ⊢
          rw [hm] at HW E ⊢
          rw [hm'] at HW E ⊢
          clear hm hm' hv hv' hu hu' IH h hmk hw
          cases r
          · go_enter Tryz.func46, Tryz.ntmps46
            (go_wp2_with fail; go_fit (E); rintro e w2 ⟨rfl, b2⟩)
            have B2 := Lib.hid (Ext.trans' HW.out b2)
            clear b2
            go_wp2
            go_ret
            exact ⟨rfl, B2.out⟩
          · go_enter Tryz.func46, Tryz.ntmps46
            (go_wp2_with fail; go_fit (E); rintro e w2 ⟨rfl, b2⟩)
            have B2 := Lib.hid (Ext.trans' HW.out b2)
            clear b2
            go_wp2
            go_ret
            exact ⟨rfl, B2.out⟩
        · have hb : (s.data.toList == s'.data.toList) = false := beq_false_of_ne (fun e => g3 (bytes_eq e))
          have hr : sameT (.mk k n s ts) (.mk k n s' ts') = false := by rw [hmk, hb]; simp
          rw [hr]
          have g3' : (s.toList == s'.toList) = false := by rw [Lib.toList_data, Lib.toList_data]; exact hb
          have g3n : ¬ s.toList = s'.toList := by rw [Lib.toList_data, Lib.toList_data]; exact fun e => g3 (bytes_eq e)
          clear hr hmk hm hm' hv hv' hu hu' IH h hb hw
          go_enter Tryz.func46, Tryz.ntmps46
          go_wp2
          go_ret
          exact ⟨rfl, HW.out⟩
      · have hr : sameT (.mk k n s ts) (.mk k n' s' ts') = false := by rw [hmk, beq_false_of_ne g2]; simp
        rw [hr]
        have g2' : (n == n') = false := beq_false_of_ne g2
        clear hr hmk hm hm' hv hv' hu hu' IH h hw
        go_enter Tryz.func46, Tryz.ntmps46
        go_wp2
        go_ret
        exact ⟨rfl, HW.out⟩
    · have hr : sameT (.mk k n s ts) (.mk k' n' s' ts') = false := by rw [hmk, beq_false_of_ne g1]; simp
      rw [hr]
      have g1' : (k == k') = false := beq_false_of_ne g1
      clear hr hmk hm hm' hv hv' hu hu' IH h hw
      go_enter Tryz.func46, Tryz.ntmps46
      go_wp2
      go_ret
      exact ⟨rfl, HW.out⟩
set_option maxHeartbeats 4000000 in
theorem Same_at {x y : Tm} {w : World} {va vb : Value} (hv : TmV w x va) (hv' : TmV w y vb) : Calls Tryz.prog 18 #[va, vb] w fun e w' => e = .returned (.bool (goodT x && goodT y && sameT x y)) ∧ Below w.heap.size w w' := by
  have GX := fun w (h : TmV w x va) => Good_at x w va h
  have GY := fun w (h : TmV w y vb) => Good_at y w vb h
  have S := fun w (h : TmV w x va) (h' : TmV w y vb) => same_at _ x (Nat.le_refl _) y w va vb h h'
  generalize goodT x = p at GX ⊢
  generalize goodT y = q at GY ⊢
  generalize sameT x y = r at S ⊢
  obtain ⟨k, n, s, u, rfl⟩ := hv.four
  obtain ⟨k', n', s', u', rfl⟩ := hv'.four
  have hw : Below w.heap.size w ((w.alloc (box4 k n s u 27)).alloc (box4 k' n' s' u' 27)) := (bel1' w _).alloc (by simp) _
  have hv0 := TmV.ext hw _ _ hv
  have hv0' := TmV.ext hw _ _ hv'
  clear hv hv'
  have two : ∀ wr : World, Below ((w.alloc (box4 k n s u 27)).alloc (box4 k' n' s' u' 27)).heap.size ((w.alloc (box4 k n s u 27)).alloc (box4 k' n' s' u' 27)) wr →
      (wr.cell? ⟨w.heap.size, 0, none⟩ = some (.int .i64 k) ∧ wr.cell? ⟨w.heap.size, 1, none⟩ = some (.int .i64 n) ∧ wr.cell? ⟨w.heap.size, 2, none⟩ = some (.string s) ∧ wr.cell? ⟨w.heap.size, 3, none⟩ = some u) ∧
      wr.cell? ⟨w.heap.size + 1, 0, none⟩ = some (.int .i64 k') ∧ wr.cell? ⟨w.heap.size + 1, 1, none⟩ = some (.int .i64 n') ∧ wr.cell? ⟨w.heap.size + 1, 2, none⟩ = some (.string s') ∧ wr.cell? ⟨w.heap.size + 1, 3, none⟩ = some u' := fun wr hb =>
    ⟨⟨cell_later hb (by simp), cell_later hb (by simp), cell_later hb (by simp), cell_later hb (by simp)⟩, cell_later hb (by simp), cell_later hb (by simp), cell_later hb (by simp), cell_later hb (by simp)⟩
  have HTW := Lib.hid two
  have HWW := Lib.hid hw
  clear two hw
  cases p
  · rw [Bool.false_and, Bool.false_and]
    clear GY S
    go_enter Tryz.func18, Tryz.ntmps18
    (go_wp2_with fail; go_fit (GX _ hv0); rintro e w1 ⟨rfl, b1⟩)
    have B1 := Lib.hid (Ext.trans' HWW.out b1)
    clear b1
    go_wp2
    go_ret
    exact ⟨rfl, B1.out⟩
  rw [Bool.true_and]
  cases q
  · rw [Bool.false_and]
    clear S
    go_enter Tryz.func18, Tryz.ntmps18
    (go_wp2_with fail; go_fit (GX _ hv0); rintro e w1 ⟨rfl, b1⟩)
    obtain ⟨⟨c0, c1, c2, c3⟩, d0, d1, d2, d3⟩ := HTW.out _ b1
    (go_wp2_with fail; go_fit (GY _ (TmV.ext b1 _ _ hv0')); rintro e w2 ⟨rfl, b2⟩)
    have B2 := Lib.hid (Ext.trans' HWW.out (Ext.trans' b1 b2))
    clear b1 b2
    go_wp2
    go_ret
    exact ⟨rfl, B2.out⟩
  rw [Bool.true_and]
  cases r
  · go_enter Tryz.func18, Tryz.ntmps18
    (go_wp2_with fail; go_fit (GX _ hv0); rintro e w1 ⟨rfl, b1⟩)
    obtain ⟨⟨c0, c1, c2, c3⟩, d0, d1, d2, d3⟩ := HTW.out _ b1
    (go_wp2_with fail; go_fit (GY _ (TmV.ext b1 _ _ hv0')); rintro e w2 ⟨rfl, b2⟩)
    have b12 := Ext.trans' b1 b2
    obtain ⟨⟨c0, c1, c2, c3⟩, d0, d1, d2, d3⟩ := HTW.out _ b12
    (go_wp2_with fail; go_fit (S _ (TmV.ext b12 _ _ hv0) (TmV.ext b12 _ _ hv0')); rintro e w3 ⟨rfl, b3⟩)
    have B3 := Lib.hid (Ext.trans' HWW.out (Ext.trans' b12 b3))
    clear b1 b2 b12 b3
    go_wp2
    go_ret
    exact ⟨rfl, B3.out⟩
  · go_enter Tryz.func18, Tryz.ntmps18
    (go_wp2_with fail; go_fit (GX _ hv0); rintro e w1 ⟨rfl, b1⟩)
    obtain ⟨⟨c0, c1, c2, c3⟩, d0, d1, d2, d3⟩ := HTW.out _ b1
    (go_wp2_with fail; go_fit (GY _ (TmV.ext b1 _ _ hv0')); rintro e w2 ⟨rfl, b2⟩)
    have b12 := Ext.trans' b1 b2
    obtain ⟨⟨c0, c1, c2, c3⟩, d0, d1, d2, d3⟩ := HTW.out _ b12
    (go_wp2_with fail; go_fit (S _ (TmV.ext b12 _ _ hv0) (TmV.ext b12 _ _ hv0')); rintro e w3 ⟨rfl, b3⟩)
    have B3 := Lib.hid (Ext.trans' HWW.out (Ext.trans' b12 b3))
    clear b1 b2 b12 b3
    go_wp2
    go_ret
    exact ⟨rfl, B3.out⟩
end Go.Proofs.YtobdhcaoeholhaaGreatDoor
/- Worlds of which some blocks are not looked at: terms that read without them. Nothing here speaks of one program. -/
namespace Go.Proofs.YtobdhcaoeholhaaGreatDoor
open Go.RowKit
set_option linter.unusedVariables false

/-- The world without these blocks. -/
def hide (D : Nat → Bool) (w : World) : World := { w with heap := w.heap.mapIdx fun i o => if D i then Obj.deferred none else o }
theorem hide_size (D : Nat → Bool) (w : World) : (hide D w).heap.size = w.heap.size := by unfold hide; simp
theorem hide_get (D : Nat → Bool) (w : World) (k : Nat) (h : D k = false) : (hide D w).heap[k]? = w.heap[k]? := by
  unfold hide
  simp only [Array.getElem?_mapIdx]
  cases w.heap[k]? with
  | none => rfl
  | some o => simp [h]
theorem hide_gone (D : Nat → Bool) (w : World) (a : Addr) (h : D a.block = true) : (hide D w).cell? a = none := by
  unfold World.cell? hide
  simp only [Array.getElem?_mapIdx]
  cases w.heap[a.block]? with
  | none => rfl
  | some o => simp [h]
theorem hide_cell (D : Nat → Bool) (w : World) (a : Addr) (h : D a.block = false) : (hide D w).cell? a = w.cell? a := World.cell?_of_block (hide_get D w a.block h)
theorem hide_none (w : World) : hide (fun _ => false) w = w := by
  unfold hide
  have : (w.heap.mapIdx fun i o => if (fun _ => false) i = true then Obj.deferred none else o) = w.heap := by
    apply Array.ext
    · simp
    · intro i h1 h2; simp
  rw [this]
/-- Each cell that is there is there still. -/
def Stays (w w' : World) : Prop := w.heap.size ≤ w'.heap.size ∧ ∀ a v, w.cell? a = some v → w'.cell? a = some v
theorem Stays.trans {a b c : World} (h : Stays a b) (h' : Stays b c) : Stays a c := ⟨Nat.le_trans h.1 h'.1, fun x v hv => h'.2 x v (h.2 x v hv)⟩
theorem Stays.hide {D D' : Nat → Bool} {w w' : World} (hs : w.heap.size ≤ w'.heap.size) (hk : ∀ k, k < w.heap.size → D k = false → D' k = false ∧ w'.heap[k]? = w.heap[k]?) : Stays (hide D w) (hide D' w') := by
  refine ⟨by rw [hide_size, hide_size]; exact hs, fun a v hv => ?_⟩
  have hlt : a.block < w.heap.size := by
    have := World.block_lt_of_cell? _ _ hv
    rwa [hide_size] at this
  cases hd : D a.block with
  | true => rw [hide_gone D w a hd] at hv; cases hv
  | false =>
    obtain ⟨h1, h2⟩ := hk _ hlt hd
    rw [hide_cell D w a hd] at hv
    rw [hide_cell D' w' a h1, World.cell?_of_block h2]
    exact hv
theorem Stays.unhide (D : Nat → Bool) (w : World) : Stays (Go.Proofs.YtobdhcaoeholhaaGreatDoor.hide D w) w := by
  refine ⟨by rw [hide_size]; exact Nat.le_refl _, fun a v hv => ?_⟩
  cases hd : D a.block with
  | true => rw [hide_gone D w a hd] at hv; cases hv
  | false => rwa [hide_cell D w a hd] at hv
/-- Nothing old has turned; of the old blocks the same are hidden. -/
theorem Stays.below {D D' : Nat → Bool} {w w' : World} (hb : Below w.heap.size w w') (hD : ∀ k, k < w.heap.size → D k = false → D' k = false) : Stays (Go.Proofs.YtobdhcaoeholhaaGreatDoor.hide D w) (Go.Proofs.YtobdhcaoeholhaaGreatDoor.hide D' w') :=
  Stays.hide hb.size fun k hk hd => ⟨hD k hk hd, hb.block k hk⟩
theorem Stays.less {D D' : Nat → Bool} {w : World} (hD : ∀ k, D k = false → D' k = false) : Stays (Go.Proofs.YtobdhcaoeholhaaGreatDoor.hide D w) (Go.Proofs.YtobdhcaoeholhaaGreatDoor.hide D' w) :=
  Stays.hide (Nat.le_refl _) fun k _ hd => ⟨hD k hd, rfl⟩
theorem Stays.set {D : Nat → Bool} {w : World} (a : Addr) (v : Value) (h : D a.block = true) : Stays (Go.Proofs.YtobdhcaoeholhaaGreatDoor.hide D w) (Go.Proofs.YtobdhcaoeholhaaGreatDoor.hide D (w.setCell a v)) :=
  Stays.hide (by simp [World.setCell]) fun k _ hd => ⟨hd, Below.heap_setCell w a v k (fun e => by rw [e, h] at hd; cases hd)⟩
mutual
theorem TmV.stay {w w' : World} (hb : Stays w w') : ∀ (x : Tm) (v : Value), TmV w x v → TmV w' x v
  | .mk k n s ts, v, h => by
    rw [TmV] at h ⊢
    obtain ⟨a, c, h1, h2, h3, h4, h5, h6, h7, h8⟩ := h
    refine ⟨a, c, h1, h2, h3, h4, h5, h6, h7, ?_⟩
    rcases h8 with h8 | ⟨b, off, e1, e2, e3⟩
    · exact Or.inl h8
    · exact Or.inr ⟨b, off, e1, Nat.lt_of_lt_of_le e2 hb.1, TmRow.stay hb ts b off e3⟩
theorem TmRow.stay {w w' : World} (hb : Stays w w') : ∀ (l : List Tm) (b off : Nat), TmRow w l b off → TmRow w' l b off
  | [], b, off, _ => by rw [TmRow]; trivial
  | x :: r, b, off, h => by
    rw [TmRow] at h ⊢
    obtain ⟨⟨c0, c1, c2, c3, h0, h1, h2, h3, h4⟩, h5⟩ := h
    exact ⟨⟨c0, c1, c2, c3, hb.2 _ _ h0, hb.2 _ _ h1, hb.2 _ _ h2, hb.2 _ _ h3, TmV.stay hb x _ h4⟩, TmRow.stay hb r b (off + 4) h5⟩
end
theorem Tms.stay {w w' : World} {v : Value} {l : List Tm} (h : Tms w v l) (hb : Stays w w') : Tms w' v l := by
  obtain ⟨a, c, h1, h2, h3, h4, h5⟩ := h
  refine ⟨a, c, h1, h2, h3, h4, ?_⟩
  rcases h5 with h5 | ⟨b, off, e1, e2, e3⟩
  · exact Or.inl h5
  · exact Or.inr ⟨b, off, e1, Nat.lt_of_lt_of_le e2 hb.1, TmRow.stay hb l b off e3⟩
/-- A row of the call's own that is not hidden. -/
theorem RowP.hide {w : World} {base : Nat} {ty : TypeId} {v : Value} {ps : List TmP} {D : Nat → Bool} (h : RowP w base ty v ps) (hD : ∀ k, base ≤ k → (∃ cur, w.heap[k]? = some (.cells cur ty (0, 0))) → D k = false) : RowP (Go.Proofs.YtobdhcaoeholhaaGreatDoor.hide D w) base ty v ps := by
  obtain ⟨h1, h2⟩ := h
  refine ⟨h1, ?_⟩
  rcases h2 with h2 | ⟨g, cap, cur, hv, hg, hh, r⟩
  · exact Or.inl h2
  · exact Or.inr ⟨g, cap, cur, hv, hg, by rw [hide_get D w g (hD g hg ⟨_, hh⟩)]; exact hh, r⟩
def Old (D : Nat → Bool) (w : World) : Prop := ∀ k, w.heap.size ≤ k → D k = false
theorem Old.mono {D : Nat → Bool} {w w' : World} (h : Old D w) (hs : w.heap.size ≤ w'.heap.size) : Old D w' := fun k hk => h k (Nat.le_trans hs hk)
/-- What reads without the hidden blocks reads so later, if nothing old has turned. -/
theorem TmV.later {D : Nat → Bool} {w w' : World} (hb : Below w.heap.size w w') {x : Tm} {v : Value} (h : TmV (hide D w) x v) : TmV (hide D w') x v := TmV.stay (Stays.below hb fun _ _ h => h) x v h
theorem Tms.later {D : Nat → Bool} {w w' : World} (hb : Below w.heap.size w w') {x : List Tm} {v : Value} (h : Tms (hide D w) v x) : Tms (hide D w') v x := h.stay (Stays.below hb fun _ _ h => h)
theorem TmV.bare {D : Nat → Bool} {w : World} {x : Tm} {v : Value} (h : TmV (hide D w) x v) : TmV w x v := TmV.stay (Stays.unhide D w) x v h
theorem Tms.bare {D : Nat → Bool} {w : World} {x : List Tm} {v : Value} (h : Tms (hide D w) v x) : Tms w v x := h.stay (Stays.unhide D w)
end Go.Proofs.YtobdhcaoeholhaaGreatDoor
/- Package term: Items. -/
namespace Go.Proofs.YtobdhcaoeholhaaGreatDoor
open Go.RowKit
set_option linter.unusedVariables false

theorem results_tmp_cell' {fn : Func} {p u : Tmp} {ty : TypeId} (h : fn.results = #[.tmp u, .cell p ty]) (tmps : Array Value) (P : Program) (w : World) :
    (results fn tmps).run P w =
      ((asAddr (tmps.getD p undef)).run P w).andThen fun a w₁ => ((loadVar ty a).run P w₁).andThen fun x w₂ => .ok (.tuple #[tmps.getD u undef, x]) w₂ := by
  simp only [results, h]
  simp [Sem.run_bind, Result.andThen]
def sliceLen : Value → Nat | .slice _ n _ => n | _ => 0
/-- The term at hand in its box, the items so far. -/
structure ItemsAt (D : Nat → Bool) (w wr : World) (x y : Tm) (u z : Value) (ps : List TmP) : Prop where
  tm : TmV (hide D w) y (pVal (y, u))
  old : Old D w
  fm : formedT y = true
  b0 : wr.cell? ⟨w.heap.size, 0, none⟩ = some (.int .i64 y.k)
  b1 : wr.cell? ⟨w.heap.size, 1, none⟩ = some (.int .i64 y.n)
  b2 : wr.cell? ⟨w.heap.size, 2, none⟩ = some (.string y.s)
  b3 : wr.cell? ⟨w.heap.size, 3, none⟩ = some u
  fz : ∀ j, wr.frozen? ⟨w.heap.size, j, none⟩ = false
  fz1 : ∀ j, wr.frozen? ⟨w.heap.size + 1, j, none⟩ = false
  r0 : wr.cell? ⟨w.heap.size + 1, 0, none⟩ = some (.int .i64 0)
  r1 : wr.cell? ⟨w.heap.size + 1, 1, none⟩ = some (.int .i64 0)
  r2 : wr.cell? ⟨w.heap.size + 1, 2, none⟩ = some (.string ⟨#[]⟩)
  r3 : wr.cell? ⟨w.heap.size + 1, 3, none⟩ = some (.slice none 0 0)
  row : RowP wr (w.heap.size + 2) 27 z ps
  all : ∀ p ∈ ps, TmV (hide D w) p.1 (pVal p)
  items : itemsT x = (ps.map (·.1) ++ (itemsT y).1, (itemsT y).2)
  size : sizeN y + ps.length ≤ sizeN x
  bel : Below w.heap.size w wr
  big : w.heap.size + 2 ≤ wr.heap.size
theorem ItemsAt.start {D : Nat → Bool} {w w1 : World} {x : Tm} {u : Value} (ho : Old D w) (hv : TmV (hide D w) x (pVal (x, u))) (hf : formedT x = true) (hb : Below ((w.alloc (box4 x.k x.n x.s u 27)).alloc (box4 0 0 ⟨#[]⟩ (.slice none 0 0) 27)).heap.size ((w.alloc (box4 x.k x.n x.s u 27)).alloc (box4 0 0 ⟨#[]⟩ (.slice none 0 0) 27)) w1) : ItemsAt D w w1 x x u (.slice none 0 0) [] :=
  { tm := hv, old := ho, fm := hf, b0 := cell_later hb (by simp), b1 := cell_later hb (by simp), b2 := cell_later hb (by simp), b3 := cell_later hb (by simp)
    fz := fun j => by rw [World.frozen?_of_block (hb.block w.heap.size (by simp <;> omega))]; simp
    fz1 := fun j => by rw [World.frozen?_of_block (hb.block (w.heap.size + 1) (by simp <;> omega))]; simp
    r0 := cell_later hb (by simp), r1 := cell_later hb (by simp), r2 := cell_later hb (by simp), r3 := cell_later hb (by simp)
    row := World.ownsRow_nil _ _ _ _, all := fun p hp => by simp at hp, items := by simp, size := by simp
    bel := Ext.trans' ((bel1' _ _).alloc (by simp) _) hb
    big := by have := hb.size; simp at this; omega }
theorem pair_form {t a b : Tm} (hs : t.s.data.toList = [46]) (hp : t.args = [a, b]) (hf : formedT t = true) : pairT t = some (a, b) := by
  cases t with
  | mk k n s ts =>
    cases (show ts = [a, b] from hp)
    rw [formedT, Bool.and_eq_true] at hf
    have h := hf.1
    unfold plainT at h
    by_cases h0 : k = 0
    · rw [if_pos h0] at h; simp at h
    · by_cases h1 : k = 1
      · rw [if_neg h0, if_pos h1] at h; simp at h
      · by_cases h2 : k = 2
        · rw [pairT, h2, (show s.data.toList = [46] from hs)]; rfl
        · rw [if_neg h0, if_neg h1, if_neg h2] at h; cases h
theorem pair_not {t : Tm} (h : pairT t = none) (hf : formedT t = true) : ¬ t.s.data.toList = [46] ∨ ¬ t.args.length = 2 := by
  by_cases hs : t.s.data.toList = [46]
  · right
    intro h2
    match hp : t.args, h2 with
    | [a, b], _ => rw [pair_form hs hp hf] at h; cases h
  · exact Or.inl hs
theorem ItemsAt.grown {D : Nat → Bool} {w wr w4 : World} {x y : Tm} {uy z : Value} {ps : List TmP} {o : Obj} (h : ItemsAt D w wr x y uy z ps) (hg : (wr.alloc o).grownBy w4 z.ownBlock) :
    w4.cell? ⟨w.heap.size, 0, none⟩ = some (.int .i64 y.k) ∧ w4.cell? ⟨w.heap.size, 1, none⟩ = some (.int .i64 y.n) ∧ w4.cell? ⟨w.heap.size, 2, none⟩ = some (.string y.s) ∧ w4.cell? ⟨w.heap.size, 3, none⟩ = some uy ∧ (∀ j, w4.frozen? ⟨w.heap.size, j, none⟩ = false) ∧ Below w.heap.size w w4 := by
  have hz : ∀ k, z.ownBlock = some k → w.heap.size + 2 ≤ k := fun k hk => (h.row.lt k hk).1
  have hbig := h.big
  have hB4 : Below w.heap.size w w4 := (h.bel.alloc (by omega) o).grown hg (by simp; omega) (fun k hk => by have := hz k hk; omega)
  have k0 : w4.heap[w.heap.size]? = wr.heap[w.heap.size]? := by
    rw [hg.block w.heap.size (by simp; omega) (fun e => by have := hz _ e.symm; omega)]
    exact (bel1' wr o).block w.heap.size (by omega)
  exact ⟨(World.cell?_of_block (a := ⟨w.heap.size, 0, none⟩) k0).trans h.b0, (World.cell?_of_block (a := ⟨w.heap.size, 1, none⟩) k0).trans h.b1, (World.cell?_of_block (a := ⟨w.heap.size, 2, none⟩) k0).trans h.b2, (World.cell?_of_block (a := ⟨w.heap.size, 3, none⟩) k0).trans h.b3,
    fun j => by rw [World.frozen?_of_block k0]; exact h.fz j, hB4⟩
/-- Behind a round: the item appended, the box turned. -/
theorem ItemsAt.next {D : Nat → Bool} {w wr w4 : World} {x y p q : Tm} {uy up uq z z' : Value} {ps : List TmP} {o : Obj} (h : ItemsAt D w wr x y uy z ps) (hp : pairT y = some (p, q)) (hvp : TmV (hide D w) p (pVal (p, up))) (hvq : TmV (hide D w) q (pVal (q, uq)))
    (hown : w4.ownsRow (w.heap.size + 2) 27 4 z' (ps.length + 1) (ps.flatMap pCells ++ pCells (p, up))) (hg : (wr.alloc o).grownBy w4 z.ownBlock) :
    ItemsAt D w (setFour w4 w.heap.size (.int .i64 q.k) (.int .i64 q.n) (.string q.s) uq) x q uq z' (ps ++ [(p, up)]) := by
  have hz : ∀ k, z.ownBlock = some k → w.heap.size + 2 ≤ k := fun k hk => (h.row.lt k hk).1
  have hbig := h.big
  have hB4 : Below w.heap.size w w4 := (h.bel.alloc (by omega) o).grown hg (by simp; omega) (fun k hk => by have := hz k hk; omega)
  have hF := four_below (.int .i64 q.k) (.int .i64 q.n) (.string q.s) uq hB4 (Nat.le_refl w.heap.size)
  have k0 : w4.heap[w.heap.size]? = wr.heap[w.heap.size]? := by
    rw [hg.block w.heap.size (by simp; omega) (fun e => by have := hz _ e.symm; omega)]
    exact (bel1' wr o).block w.heap.size (by omega)
  have k1 : w4.heap[w.heap.size + 1]? = wr.heap[w.heap.size + 1]? := by
    rw [hg.block (w.heap.size + 1) (by simp; omega) (fun e => by have := hz _ e.symm; omega)]
    exact (bel1' wr o).block (w.heap.size + 1) (by omega)
  have c0 := (World.cell?_of_block (a := ⟨w.heap.size, 0, none⟩) k0).trans h.b0
  have c1 := (World.cell?_of_block (a := ⟨w.heap.size, 1, none⟩) k0).trans h.b1
  have c2 := (World.cell?_of_block (a := ⟨w.heap.size, 2, none⟩) k0).trans h.b2
  have c3 := (World.cell?_of_block (a := ⟨w.heap.size, 3, none⟩) k0).trans h.b3
  obtain ⟨d0, d1, d2, d3⟩ := four_cells (.int .i64 q.k) (.int .i64 q.n) (.string q.s) uq c0 c1 c2 c3
  have hit := items_some hp
  obtain ⟨hsz, hargs, hk, hs⟩ := pair_size hp
  have far := fun j => four_far w4 w.heap.size (.int .i64 q.k) (.int .i64 q.n) (.string q.s) uq (w.heap.size + 1) j (by omega)
  have fr : ∀ b j, (setFour w4 w.heap.size (.int .i64 q.k) (.int .i64 q.n) (.string q.s) uq).frozen? ⟨b, j, none⟩ = w4.frozen? ⟨b, j, none⟩ := fun b j => by
    unfold setFour
    rw [World.frozen?_setCell, World.frozen?_setCell, World.frozen?_setCell, World.frozen?_setCell]
  exact
    { tm := hvq
      old := h.old
      fm := by
        have hf := h.fm
        cases y with
        | mk ky ny sy ty =>
          rw [formedT, Bool.and_eq_true] at hf
          exact formed_mem hf.2 (by rw [(show ty = [p, q] from hargs)]; simp)
      b0 := d0, b1 := d1, b2 := d2, b3 := d3
      fz := fun j => by rw [fr, World.frozen?_of_block k0]; exact h.fz j
      fz1 := fun j => by rw [fr, World.frozen?_of_block k1]; exact h.fz1 j
      r0 := by rw [far, World.cell?_of_block k1]; exact h.r0
      r1 := by rw [far, World.cell?_of_block k1]; exact h.r1
      r2 := by rw [far, World.cell?_of_block k1]; exact h.r2
      r3 := by rw [far, World.cell?_of_block k1]; exact h.r3
      row := by
        unfold RowP
        rw [List.length_append, List.flatMap_append]
        have := four_row (.int .i64 q.k) (.int .i64 q.n) (.string q.s) uq hown (show w.heap.size < w.heap.size + 2 by omega)
        simpa using this
      all := fun r hr => by
        rcases List.mem_append.1 hr with hr | hr
        · exact h.all r hr
        · simp at hr; subst hr; exact hvp
      items := by rw [h.items, hit]; simp
      size := by have := h.size; rw [List.length_append, List.length_singleton]; omega
      bel := hF
      big := by
        have := hg.size
        unfold setFour
        simp at this ⊢
        omega }
theorem ItemsAt.finish {D : Nat → Bool} {w wr : World} {x y : Tm} {uy z : Value} {ps : List TmP} (h : ItemsAt D w wr x y uy z ps) (hp : pairT y = none) (hx : sizeN x ≤ 2000) (v0 v1 v2 v3 : Value) :
    Tms (hide D (setFour wr (w.heap.size + 1) v0 v1 v2 v3).drew) z (itemsT x).1 ∧ TmV (hide D (setFour wr (w.heap.size + 1) v0 v1 v2 v3).drew) (itemsT x).2 (pVal (y, uy)) ∧ Below w.heap.size w (setFour wr (w.heap.size + 1) v0 v1 v2 v3).drew := by
  have hB : Below w.heap.size w (setFour wr (w.heap.size + 1) v0 v1 v2 v3).drew := (four_below v0 v1 v2 v3 h.bel (by omega)).drew
  have hi := h.items
  rw [items_none hp] at hi
  simp only [List.append_nil] at hi
  rw [hi]
  have hsz := h.size
  refine ⟨?_, TmV.later hB h.tm, hB⟩
  have hR : RowP (setFour wr (w.heap.size + 1) v0 v1 v2 v3).drew (w.heap.size + 2) 27 z ps := four_row v0 v1 v2 v3 h.row (by omega)
  exact (hR.hide (fun k hk _ => h.old k (by omega))).terms (fun p hp => TmV.later hB (h.all p hp)) (by unfold BIG; omega)
end Go.Proofs.YtobdhcaoeholhaaGreatDoor
/- Package term: Items, walked. -/
namespace Go.Proofs.YtobdhcaoeholhaaGreatDoor
open Go.RowKit
set_option linter.unusedVariables false

set_option maxHeartbeats 4000000 in
set_option maxRecDepth 100000 in
theorem items_hide {D : Nat → Bool} (x : Tm) (w : World) (v : Value) (ho : Old D w) (hv : TmV (hide D w) x v) (hg : goodT x = true) : Calls Tryz.prog 40 #[v] w fun e w' => ∃ lv tv, e = .returned (.tuple #[lv, tv]) ∧ Tms (hide D w') lv (itemsT x).1 ∧ TmV (hide D w') (itemsT x).2 tv ∧ Below w.heap.size w w' := by
  obtain ⟨hsz, _, hfx⟩ := good_parts hg
  have G := fun w (h : TmV w x v) => Good_at x w v h
  rw [hg] at G
  obtain ⟨u, rfl⟩ := hv.pair
  obtain ⟨i0, hi0, hz0, hs0, hb0⟩ := info_parts infoTerm
  have ST := fun w1 (hb : Below ((w.alloc (box4 x.k x.n x.s u 27)).alloc (box4 0 0 ⟨#[]⟩ (.slice none 0 0) 27)).heap.size ((w.alloc (box4 x.k x.n x.s u 27)).alloc (box4 0 0 ⟨#[]⟩ (.slice none 0 0) 27)) w1) => ItemsAt.start ho hv hfx hb
  have hv0 : TmV ((w.alloc (box4 x.k x.n x.s u 27)).alloc (box4 0 0 ⟨#[]⟩ (.slice none 0 0) 27)) x (pVal (x, u)) := TmV.ext ((bel1' w _).alloc (by simp) _) _ _ hv.bare
  have G0 := G _ hv0
  unfold pVal at G0
  show Calls Tryz.prog 40 #[.agg #[.int .i64 x.k, .int .i64 x.n, .string x.s, u]] w _
  have HSZ := Lib.hid hsz
  obtain ⟨kx, hkx⟩ : ∃ k, x.k = k := ⟨_, rfl⟩
  obtain ⟨nx, hnx⟩ : ∃ k, x.n = k := ⟨_, rfl⟩
  obtain ⟨sx, hsx⟩ : ∃ k, x.s = k := ⟨_, rfl⟩
  simp only [hkx, hnx, hsx] at G0 ST ⊢
  have HST := Lib.hid ST
  clear hkx hnx hsx G hv0 hv hg hfx ST hsz ho
  go_enter Tryz.func40, Tryz.ntmps40
  (go_wp2_with fail; go_fit (G0); rintro e w1 ⟨rfl, b1⟩)
  have HS := Lib.hid (HST.out w1 b1)
  clear b1 HST
  go_wp2_with fail
  go_loopw [2] (fun z wr => ∃ (y : Tm) (uy : Value) (ps : List TmP) (a : Option Addr) (c : Nat), z = .slice a ps.length c ∧ Hid (ItemsAt D w wr x y uy z ps)) (fun z _ => sizeN x - sliceLen z)
  case atStart => exact ⟨x, u, [], none, 0, rfl, HS⟩
  case round =>
    obtain ⟨y, uy, ps, a, c, rfl, HI⟩ := hrel
    have e0 := HI.out.b0
    have e1 := HI.out.b1
    have e2 := HI.out.b2
    have e3 := HI.out.b3
    have g0 := HI.out.fz
    cases hp : pairT y with
    | none =>
      have hnot := pair_not hp HI.out.fm
      have hit := items_none hp
      obtain ⟨ky, hky⟩ : ∃ k, y.k = k := ⟨_, rfl⟩
      obtain ⟨ny, hny⟩ : ∃ k, y.n = k := ⟨_, rfl⟩
      obtain ⟨sy, hsy⟩ : ∃ k, y.s = k := ⟨_, rfl⟩
      obtain ⟨my, hmy⟩ : ∃ k, y.args.length = k := ⟨_, rfl⟩
      rw [hky] at e0
      rw [hny] at e1
      rw [hsy] at e2 hnot
      rw [hmy] at hnot
      have hu := HI.out.tm
      have hU : ∃ au cu, uy = .slice au my cu := by
        cases y with
        | mk ky ny sy ty =>
          obtain ⟨u', hu', _, _, _, hq⟩ := tmV_iff.1 hu
          simp only [pVal, Value.agg.injEq] at hu'
          have h2 := congrArg Array.toList hu'
          simp only [List.cons.injEq, and_true] at h2
          obtain ⟨au, cu, e, _⟩ := hq.len
          exact ⟨au, cu, by rw [h2.2.2.2, e, ← hmy]; rfl⟩
      obtain ⟨au, cu, rfl⟩ := hU
      have g1 := HI.out.fz1
      have r0 := HI.out.r0
      have r1 := HI.out.r1
      have r2 := HI.out.r2
      have r3 := HI.out.r3
      have HFI := Lib.hid (fun v0 v1 v2 v3 => HI.out.finish hp HSZ.out v0 v1 v2 v3)
      simp only [pVal, hky, hny, hsy] at HFI
      clear hky hny hmy hu hit hp
      obtain ⟨m, hm⟩ : ∃ m, ps.length = m := ⟨_, rfl⟩
      rw [hm] at HFI ⊢
      clear hm HI
      by_cases hs : sy.data.toList = [46]
      · have hm2 : ¬ my = 2 := hnot.resolve_left (fun h => h hs)
        have hs' : (sy.toList == [46]) = true := by rw [Lib.toList_data, hs]; rfl
        have hs'' : sy.toList = [46] := by rw [Lib.toList_data, hs]
        have hm2' : ((my : Int) == 2) = false := by apply beq_false_of_ne; omega
        clear hnot hsy
        go_wp2_with fail
        go_region
        go_wp2
        refine bodyPost_ret (v := .tuple #[.slice a m c, .agg #[.int .i64 ky, .int .i64 ny, .string sy, .slice au my cu]]) (by rw [results_tmp_cell' rfl]; go_simp) rfl ⟨_, _, rfl, ?_⟩
        exact HFI.out (.int .i64 ky) (.int .i64 ny) (.string sy) (.slice au my cu)
      · have hs' : (sy.toList == [46]) = false := by rw [Lib.toList_data]; exact beq_false_of_ne hs
        have hs'' : ¬ sy.toList = [46] := by rw [Lib.toList_data]; exact hs
        clear hnot hsy
        go_wp2_with fail
        go_region
        go_wp2
        refine bodyPost_ret (v := .tuple #[.slice a m c, .agg #[.int .i64 ky, .int .i64 ny, .string sy, .slice au my cu]]) (by rw [results_tmp_cell' rfl]; go_simp) rfl ⟨_, _, rfl, ?_⟩
        exact HFI.out (.int .i64 ky) (.int .i64 ny) (.string sy) (.slice au my cu)
    | some pq =>
      obtain ⟨p, q⟩ := pq
      obtain ⟨hk2, hs2, hpq⟩ := pair_kind hp
      have HP := Lib.hid hp
      have hps := pair_size hp
      have hu := HI.out.tm
      have hU : Tms (hide D w) uy [p, q] := by
        cases y with
        | mk ky ny sy ty =>
          obtain ⟨u', hu', _, _, _, hq⟩ := tmV_iff.1 hu
          simp only [pVal, Value.agg.injEq] at hu'
          have h2 := congrArg Array.toList hu'
          simp only [List.cons.injEq, and_true] at h2
          rw [h2.2.2.2, ← (show ty = [p, q] from hpq)]
          exact hq
      rw [hs2] at e2
      unfold dotS at e2
      obtain ⟨au, cu, rfl, hu1, hu2, _⟩ := hU.len
      obtain ⟨b, off, kp, np, sp, up, rfl, hbb, rfl, rfl, rfl, c0, c1, c2, c3, htup, htp⟩ := hU.get (i := 0) (x := p) rfl
      obtain ⟨b', off', kq, nq, sq, uq, hbe, hbb', rfl, rfl, rfl, d0, d1, d2, d3, htuq, htq⟩ := hU.get (i := 1) (x := q) rfl
      cases hbe
      simp only [Nat.zero_mul, Nat.add_zero, Nat.one_mul] at c0 c1 c2 c3 d0 d1 d2 d3
      have HBL := Lib.hid HI.out.bel
      have UN := (Stays.unhide D w).2
      have c0 := cell_later HBL.out (UN _ _ c0)
      have d0 := UN _ _ d0
      have c1 := cell_later HBL.out (UN _ _ c1)
      have d1 := UN _ _ d1
      have c2 := cell_later HBL.out (UN _ _ c2)
      have d2 := UN _ _ d2
      have c3 := cell_later HBL.out (UN _ _ c3)
      have d3 := UN _ _ d3
      clear UN
      obtain ⟨apu, cpu, rfl, _⟩ := htup.len
      obtain ⟨aqu, cqu, rfl, _⟩ := htuq.len
      have HTP := Lib.hid htp
      have HTQ := Lib.hid htq
      have HD := Lib.hid (show w.cell? ⟨b, off + 4, none⟩ = some (.int .i64 q.k) ∧ w.cell? ⟨b, off + 4 + 1, none⟩ = some (.int .i64 q.n) ∧ w.cell? ⟨b, off + 4 + 2, none⟩ = some (.string q.s) ∧ w.cell? ⟨b, off + 4 + 3, none⟩ = some (.slice aqu q.args.length cqu) from ⟨d0, d1, d2, d3⟩)
      have hlen := HI.out.size
      have hbig := HI.out.big
      have hqp := size_pos y
      have hsz := HSZ.out
      obtain ⟨m, hm⟩ : ∃ m, ps.length = m := ⟨_, rfl⟩
      have HROW : Hid (wr.ownsRow (w.heap.size + 2) 27 4 (.slice a m c) m (ps.flatMap pCells)) := Lib.hid (by have := HI.out.row; unfold RowP at this; rw [hm] at this; exact this)
      have HM := Lib.hid hm
      have hone : ∀ v ∈ pCells (p, .slice apu p.args.length cpu), v.oneCell' = true := fun v hv => by
        simp [pCells] at hv
        rcases hv with rfl | rfl | rfl | rfl <;> rfl
      rw [hm] at hlen ⊢
      have hm2 : m ≤ 2000 := by omega
      have hmx : m < sizeN x := by omega
      clear hk2 hs2 hpq hps hu hU htp htq hp hm hqp d0 d1 d2 d3 htup htuq
      go_wp2_with (at_builtin; refine wpList_append_k rfl _ _ 25 rfl (w.heap.size + 2) 27 i0 (.agg #[.int .i64 0, .int .i64 0, .string ⟨#[]⟩, .slice none 0 0]) 4 56 Tryz.underlying25 hi0 hz0 hs0 (by decide) hb0 rfl (.slice a m c) m (ps.flatMap pCells) rfl (HROW.out.alloc _) (some ⟨wr.heap.size, 0, none⟩) 1 1 (pCells (p, .slice apu p.args.length cpu)) rfl rfl (Or.inr ⟨_, rfl, fun j u hu => cell_new _ _ _ j u hu⟩) hone (by unfold maxLen; omega) (by omega) (by simp; omega) (m + 1) _ rfl rfl ?_; intro a4 c4 w4 hown4 hgrow4 hat4; obtain ⟨f0, f1, f2, f3, g4, hB4⟩ := HI.out.grown (by rw [HM.out]; exact hgrow4); have q0 := cell_later hB4 HD.out.1; have q1 := cell_later hB4 HD.out.2.1; have q2 := cell_later hB4 HD.out.2.2.1; have q3 := cell_later hB4 HD.out.2.2.2)
      have hnext := ItemsAt.next (o := .cells #[.int .i64 p.k, .int .i64 p.n, .string p.s, .slice apu p.args.length cpu] 27) HI.out HP.out HTP.out HTQ.out (by rw [HM.out]; exact hown4) (by rw [HM.out]; exact hgrow4)
      unfold setFour at hnext
      go_roundw
      case rel => exact ⟨q, .slice aqu q.args.length cqu, ps ++ [(p, .slice apu p.args.length cpu)], a4, c4, by rw [List.length_append, HM.out]; rfl, Lib.hid hnext⟩
      case measure => simp only [sliceLen]; omega
end Go.Proofs.YtobdhcaoeholhaaGreatDoor
/- Package term: Comp, Items, of worlds of which some blocks are hidden. -/
namespace Go.Proofs.YtobdhcaoeholhaaGreatDoor
open Go.RowKit
set_option linter.unusedVariables false

theorem pairs_hide {D : Nat → Bool} {w : World} {a : Option Addr} {m c : Nat} {l : List Tm} (h : Tms (hide D w) (.slice a m c) l) : ∃ (ps : List TmP), ps.length = m ∧ m = l.length ∧ ps.map (·.1) = l ∧ (∀ p ∈ ps, TmV (hide D w) p.1 (pVal p)) ∧ m * 56 ≤ BIG ∧ (m = 0 ∨ ∃ ad, a = some ad ∧ ∀ j u, (ps.flatMap pCells)[j]? = some u → w.cell? (ad.add j) = some u) := by
  obtain ⟨ps, ao, c', e, hpl, hpm, hpa, hbig, hsrc⟩ := h.pairs
  cases e
  refine ⟨ps, hpl, rfl, hpm, hpa, hbig, ?_⟩
  rcases hsrc with h0 | ⟨ad, rfl, hc⟩
  · exact Or.inl h0
  · exact Or.inr ⟨ad, rfl, fun j u hu => (Stays.unhide D w).2 _ _ (hc j u hu)⟩
theorem comp_hide {D : Nat → Bool} {w : World} {v : Value} {l : List Tm} (s : ByteArray) (hs : s.size ≤ BIG) (hD : Old D w) (h : Tms (hide D w) v l) :
    Calls Tryz.prog 19 #[.string s, v] w fun e w' => ∃ a c, e = .returned (.agg #[.int .i64 2, .int .i64 0, .string s, .slice a l.length c]) ∧ TmV (hide D w') (.mk 2 0 s l) (.agg #[.int .i64 2, .int .i64 0, .string s, .slice a l.length c]) ∧ Below w.heap.size w w' := by
  obtain ⟨ao, c, rfl, _⟩ := h.len
  obtain ⟨ps, hpl, _, hpm, hpa, hbig, hsrc⟩ := pairs_hide h
  refine (comp_ps (c := c) ps s hpl hbig (pCells_one ps hpa) hsrc).mono ?_
  rintro e w' ⟨a, c', rfl, hR, hB⟩
  refine ⟨a, c', rfl, ?_, hB⟩
  have hT := (hR.hide (D := D) (fun k hk _ => hD k (by omega))).terms (fun p hp => TmV.later hB (hpa p hp)) (by rw [hpl]; exact hbig)
  rw [hpm] at hT
  exact tmV_iff.2 ⟨_, rfl, hs, i64_2, i64_0, hT⟩
end Go.Proofs.YtobdhcaoeholhaaGreatDoor
