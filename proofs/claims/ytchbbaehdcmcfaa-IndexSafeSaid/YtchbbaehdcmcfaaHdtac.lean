import Derived.Test.YtchbbaehdcmcfaaHdtab
import Derived.Lib.Strings
import Derived.Deep.Quiet
import Derived.Below
import Derived.BigQuiet
import Derived.Deep.RegionHeld3
import Derived.Deep.QuietTactic
import Derived.Test.YtchbbaehdcmcfaaHdtaa
import Derived.Laws.StructEq
import Derived.Deep.Cut
import Derived.Deep.CutRange
set_option linter.unusedVariables false
set_option linter.unusedSimpArgs false
/- Package term: Size. -/
namespace Go.Proofs.Ytchbbaehdcmcfaa
open Go.RowKit
set_option linter.unusedVariables false
theorem sizes_drop' : ∀ {ts : List Tm} {i : Nat} {y : Tm}, ts[i]? = some y → sizesN (ts.take (i + 1)) = sizesN (ts.take i) + sizeN y
  | x :: r, 0, y, h => by
    simp at h; subst h
    simp [sizesN]
  | x :: r, i + 1, y, h => by
    have := sizes_drop' (ts := r) (i := i) (y := y) (by simpa using h)
    simp only [List.take_succ_cons, sizesN, this]
    omega
  | [], i, y, h => by simp at h
theorem sizes_take' (ts : List Tm) (i : Nat) : sizesN (ts.take i) ≤ sizesN ts := by
  induction ts generalizing i with
  | nil => simp
  | cons x r ih =>
    cases i with
    | zero => simp [sizesN]
    | succ i =>
      simp only [List.take_succ_cons, sizesN]
      have := ih i
      omega
theorem TmV.four {w : World} {x : Tm} {v : Value} (h : TmV w x v) : ∃ k n s u, v = .agg #[.int .i64 k, .int .i64 n, .string s, u] := by
 obtain ⟨u, rfl⟩ := h.pair
 exact ⟨_, _, _, _, rfl⟩
set_option maxHeartbeats 2000000 in
set_option maxRecDepth 100000 in
theorem count_at : ∀ (N : Nat) (x : Tm), sizeN x ≤ N → ∀ (q : Nat), 1 ≤ q → q ≤ 1000000 → ∀ (w : World) (v : Value), TmV w x v →
    Calls Try.prog 68 #[v, .int .i64 q] w fun e w' => e = .returned (.int .i64 (min (sizeN x) q : Nat)) ∧ Below w.heap.size w w'
  | 0, x, h, q, hq1, hq, w, v, hv => by have := size_pos x; omega
  | N + 1, .mk k n s ts, h, q, hq1, hq, w, v, hv => by
    obtain ⟨u, rfl, hs, hk, hn, hu⟩ := tmV_iff.1 hv
    obtain ⟨a, c, rfl, h1, h2, h3⟩ := hu.len
    unfold BIG at h3
    obtain ⟨m, hm⟩ : ∃ m, ts.length = m := ⟨_, rfl⟩
    have IH := Lib.hid (fun (y : Tm) (hy : y ∈ ts) => count_at N y (mem_size h hy))
    have HU := Lib.hid hu
    have HM := Lib.hid hm
    rw [hm] at h1 h3 hu HU ⊢
    obtain ⟨r, hr⟩ : ∃ r, min (sizeN (.mk k n s ts)) q = r := ⟨_, rfl⟩
    rw [hr]
    have HR := Lib.hid (show min (sizesN ts + 1) q = r by rw [← hr, sizeN])
    clear hv hu hm hr h
    go_enter Try.func68, Try.ntmps68
    go_wp2_with fail
    go_loopw [5, 11] (fun z v wr => ∃ i t : Nat, i ≤ m ∧ v = .int .i64 i ∧ z = .int .i64 t ∧ Hid (t = min (sizesN (ts.take i) + 1) q) ∧ t ≤ q ∧ Hid (Below (w.alloc (.cells #[.int .i64 k, .int .i64 n, .string s, .slice a m c] 31)).heap.size (w.alloc (.cells #[.int .i64 k, .int .i64 n, .string s, .slice a m c] 31)) wr)) (fun _ v _ => m - (RowKit.intOf v).toNat)
    case atStart => exact ⟨0, 1, Nat.zero_le _, rfl, rfl, Lib.hid (by simp [sizesN]; omega), by omega, Lib.hid (Below.refl _ _)⟩
    case round =>
      obtain ⟨i, t, hi, rfl, rfl, HT, ht, HB⟩ := hrel
      have HBW := Lib.hid (Ext.trans' (bel1' w _) HB.out)
      by_cases hil : i < m
      · obtain ⟨y, hy⟩ : ∃ y, ts[i]? = some y := ⟨_, List.getElem?_eq_getElem (by rw [HM.out]; exact hil)⟩
        have hst := sizes_take' ts (i + 1)
        have hds := sizes_drop' hy
        obtain ⟨b, off, k', n', s', u', rfl, hbb, _, _, _, c0, c1, c2, c3, htu, hty⟩ := (HU.out.ext HBW.out).get hy
        obtain ⟨au, cu, rfl, _⟩ := htu.len
        clear htu
        by_cases htq : t < q
        · obtain ⟨d, hd⟩ : ∃ d, q - t = d := ⟨_, rfl⟩
          have hqt : (q : Int) - t = d := by omega
          have htq' : ((t : Int) == q) = false := by apply beq_false_of_ne; omega
          have HNE := Lib.hid (show ¬ t = q by omega)
          have ih := IH.out y (List.mem_of_getElem? hy) d (by omega) (by omega) _ _ (TmV.ext (bel1' wr (box4 k' n' s' (.slice au y.args.length cu) 31)) _ _ hty)
          obtain ⟨z, hz⟩ : ∃ z, min (sizeN y) d = z := ⟨_, rfl⟩
          rw [hz] at ih
          have HN : Hid (t + z = min (sizesN (ts.take (i + 1)) + 1) q) := Lib.hid (by
            have := HT.out
            rw [hds]
            omega)
          have hzd : z ≤ d := by omega
          have hzq : t + z ≤ q := by omega
          clear hst hds hz hy hty hd HT
          (go_wp2_with fail; go_fit (ih); rintro e w2 ⟨rfl, b2⟩)
          have B2 := Lib.hid (Ext.trans' HB.out (Ext.trans' (bel1' _ _) b2))
          clear b2
          go_wp2
          go_roundw
          case rel => exact ⟨i + 1, t + z, by omega, by go_num, by go_num, HN, hzq, B2⟩
          case measure => simp [RowKit.intOf]; omega
        · have hrt : q = r := by
            have a1 := HT.out
            have a2 := HR.out
            have a3 := sizes_take' ts i
            omega
          have htq2 : t = q := by omega
          subst hrt htq2
          clear hst hds hy hty
          go_wp2
          go_ret
          exact ⟨rfl, Ext.trans' HBW.out (bel1' _ _)⟩
      · have hrt : t = r := by
          have a1 := HT.out
          have a2 := HR.out
          rw [List.take_of_length_le (by rw [HM.out]; omega)] at a1
          omega
        subst hrt
        go_wp2
        go_ret
        exact ⟨rfl, HBW.out⟩
theorem size_at (x : Tm) (w : World) (v : Value) (hv : TmV w x v) : Calls Try.prog 30 #[v] w fun e w' => e = .returned (.int .i64 (min (sizeN x) 2001 : Nat)) ∧ Below w.heap.size w w' := by
 have C := fun w (h : TmV w x v) => count_at _ x (Nat.le_refl _) 2001 (by omega) (by omega) w v h
 obtain ⟨z, hz⟩ : ∃ z, min (sizeN x) 2001 = z := ⟨_, rfl⟩
 rw [hz] at C ⊢
 obtain ⟨k, n, s, u, rfl⟩ := hv.four
 have hv0 := TmV.ext (bel1' w (box4 k n s u 31)) _ _ hv
 clear hz hv
 go_enter Try.func30, Try.ntmps30
 (go_wp2_with fail; go_fit (C _ hv0); rintro e w1 ⟨rfl, b1⟩)
 have B1 := Lib.hid (Ext.trans' (bel1' w _) b1)
 clear b1
 go_wp2
 go_ret
 exact ⟨rfl, B1.out⟩
end Go.Proofs.Ytchbbaehdcmcfaa
/- Package term: what fits. -/
namespace Go.Proofs.Ytchbbaehdcmcfaa
open Go.RowKit
set_option linter.unusedVariables false
theorem isEmpty_size' (s : ByteArray) : s.data.toList.isEmpty = decide (s.size = 0) := by
  have h : s.data.toList.length = s.size := rfl
  cases hq : s.data.toList with
  | nil => rw [hq] at h; simp at h; simp [← h]
  | cons a r =>
    rw [hq, List.length_cons] at h
    rw [decide_eq_false (by omega)]
    rfl
theorem toList_empty' {s : ByteArray} (h : s.size = 0) : s.toList.isEmpty = true := by rw [Lib.toList_data, isEmpty_size']; simpa using h
theorem toList_some' {s : ByteArray} (h : ¬ s.size = 0) : s.toList.isEmpty = false := by rw [Lib.toList_data, isEmpty_size']; simpa using h
theorem letter_eq' : ∀ c : UInt8, letterB c = (((c.toNat : Int) == 9) || ((c.toNat : Int) == 10) || (!decide ((c.toNat : Int) < 32) && !decide (126 < (c.toNat : Int)))) := by
 intro c
 have h : ((List.range 256).all fun n => letterB (UInt8.ofNat n) == ((((UInt8.ofNat n).toNat : Int) == 9) || (((UInt8.ofNat n).toNat : Int) == 10) || (!decide (((UInt8.ofNat n).toNat : Int) < 32) && !decide (126 < ((UInt8.ofNat n).toNat : Int))))) = true := by decide +kernel
 have hc := List.all_eq_true.1 h c.toNat (List.mem_range.2 (UInt8.toNat_lt c))
 rw [UInt8.ofNat_toNat] at hc
 exact eq_of_beq hc
def fitB (s : ByteArray) : Bool := decide (s.size ≤ 64) && s.data.toList.all letterB
set_option maxHeartbeats 2000000 in
theorem fitsName_at (s : ByteArray) (hs : s.size ≤ 140737488351232) (w : World) : Calls Try.prog 123 #[.string s] w fun e w' => e = .returned (.bool (fitB s)) ∧ w = w' := by
 by_cases hbig : 64 < s.size
 ·have hr : fitB s = false := by unfold fitB; rw [decide_eq_false (by omega)]; rfl
  rw [hr]
  clear hr
  go_enter Try.func123, Try.ntmps123
  go_wp2
  go_ret
  exact ⟨rfl, rfl⟩
 obtain ⟨r, hr⟩ : ∃ r, fitB s = r := ⟨_, rfl⟩
 rw [hr]
 have HR : Hid (s.data.toList.all letterB = r) := Lib.hid (by rw [← hr]; unfold fitB; rw [decide_eq_true (by omega)]; rfl)
 clear hr
 go_enter Try.func123, Try.ntmps123
 go_wp2_with fail
 go_loop [10] (fun z => ∃ i : Nat, i ≤ s.size ∧ z = .int .i64 i ∧ Hid (∀ j (hj : j < s.size), j < i → letterB s[j] = true)) (fun z => s.size - (RowKit.intOf z).toNat)
 case atStart => exact ⟨0, Nat.zero_le _, rfl, Lib.hid (fun j _ h => by omega)⟩
 case round =>
  obtain ⟨i, hi, rfl, HL⟩ := hrel
  by_cases hil : i < s.size
  ·cases hq : letterB s[i]
   ·have hlq := letter_eq' s[i]
    rw [hq] at hlq
    have hall : s.data.toList.all letterB = false := by
     rw [List.all_eq_false]
     exact ⟨s.data.toList[i]'hil, List.getElem_mem _, by show ¬ letterB s[i] = true; rw [hq]; simp⟩
    have hrf : r = false := by rw [← HR.out, hall]
    subst hrf
    obtain ⟨z, hz⟩ : ∃ z : Int, (s[i].toNat : Int) = z := ⟨_, rfl⟩
    rw [hz] at hlq
    have e9 : (z == 9) = false := by
     cases h : (z == 9)
     ·rfl
     ·rw [h] at hlq; cases hlq
    have e10 : (z == 10) = false := by
     cases h : (z == 10)
     ·rfl
     ·rw [h, Bool.or_true] at hlq; cases hlq
    rw [e9, e10, Bool.false_or, Bool.false_or] at hlq
    have n9 : (z != 9) = true := by unfold bne; rw [e9]; rfl
    have n10 : (z != 10) = true := by unfold bne; rw [e10]; rfl
    clear e9 e10
    clear hall hq HR HL
    by_cases h32 : z < 32
    ·clear hlq
     go_wp2
     go_ret
     exact ⟨rfl, rfl⟩
    ·have h126 : 126 < z := by
      simp [h32] at hlq
      omega
     clear hlq
     go_wp2
     go_ret
     exact ⟨rfl, rfl⟩
   ·have hlq := letter_eq' s[i]
    rw [hq] at hlq
    have HN : Hid (∀ j (hj : j < s.size), j < i + 1 → letterB s[j] = true) := Lib.hid (fun j hj h => by
     by_cases e : j = i
     ·subst e; exact hq
     ·exact HL.out j hj (by omega))
    obtain ⟨z, hz⟩ : ∃ z : Int, (s[i].toNat : Int) = z := ⟨_, rfl⟩
    rw [hz] at hlq
    clear hq HL
    by_cases e9 : z = 9
    ·subst e9
     clear hlq
     go_wp2
     go_round
     case rel => exact ⟨i + 1, by omega, by go_num, HN⟩
     case measure => simp [RowKit.intOf]; omega
    have e9' : (z == 9) = false := beq_false_of_ne e9
    by_cases e10 : z = 10
    ·subst e10
     clear hlq
     go_wp2
     go_round
     case rel => exact ⟨i + 1, by omega, by go_num, HN⟩
     case measure => simp [RowKit.intOf]; omega
    have e10' : (z == 10) = false := beq_false_of_ne e10
    rw [e9', e10'] at hlq
    have h32 : ¬ z < 32 := fun hh => by simp [hh] at hlq
    have h126 : ¬ 126 < z := fun hh => by simp [hh] at hlq
    have n9 : (z != 9) = true := by unfold bne; rw [e9']; rfl
    have n10 : (z != 10) = true := by unfold bne; rw [e10']; rfl
    clear hlq e9 e10 e9' e10'
    go_wp2
    go_round
    case rel => exact ⟨i + 1, by omega, by go_num, HN⟩
    case measure => simp [RowKit.intOf]; omega
  ·have hall : s.data.toList.all letterB = true := by
    rw [List.all_eq_true]
    intro x hx
    obtain ⟨j, hj, rfl⟩ := List.getElem_of_mem hx
    exact HL.out j hj (by have : j < s.size := hj; omega)
   have hrt : r = true := by rw [← HR.out, hall]
   subst hrt
   clear hall HR HL
   go_wp2
   go_ret
   exact ⟨rfl, rfl⟩
set_option maxHeartbeats 4000000 in
set_option maxRecDepth 100000 in
theorem fits_at {k n : Int} {s : ByteArray} {a : Option Addr} {m c : Nat} (hs : s.size ≤ 140737488351232) (hn : I64 n) (h1 : m ≤ c) (h2 : c ≤ maxLen) (h3 : m * 56 ≤ 140737488351232) (w : World) :
  Calls Try.prog 101 #[.agg #[.int .i64 k, .int .i64 n, .string s, .slice a m c]] w fun e w' => e = .returned (.bool (plainT k n s.data.toList m)) ∧ Below w.heap.size w w' := by
 have F := fun w => fitsName_at s hs w
 by_cases k0 : k = 0
 ·subst k0
  have hp : plainT 0 n s.data.toList m = (decide (0 ≤ n) && decide (n < 2147483648) && decide (s.size = 0) && decide (m = 0)) := by
   unfold plainT; rw [if_pos rfl, isEmpty_size']
  by_cases g1 : 0 ≤ n
  ·by_cases g2 : n < 2147483648
   ·have g2' : n ≤ 2147483647 := by omega
    by_cases g3 : s.size = 0
    ·have g3' := toList_empty' g3
     by_cases g4 : m = 0
     ·have hr : plainT 0 n s.data.toList m = true := by rw [hp]; simp [g1, g2, g3, g4]
      rw [hr]
      subst g4
      clear hp g3 hr F
      go_enter Try.func101, Try.ntmps101
      go_wp2
      go_ret
      exact ⟨rfl, bel1' _ _⟩
     ·have hr : plainT 0 n s.data.toList m = false := by rw [hp]; simp [g4]
      rw [hr]
      have g4' : ((m : Int) == 0) = false := by apply beq_false_of_ne; omega
      clear hp g3 hr F
      go_enter Try.func101, Try.ntmps101
      go_wp2
      go_ret
      exact ⟨rfl, bel1' _ _⟩
    ·have hr : plainT 0 n s.data.toList m = false := by rw [hp]; simp [g3]
     rw [hr]
     have g3' := toList_some' g3
     clear hp hr F
     go_enter Try.func101, Try.ntmps101
     go_wp2
     go_ret
     exact ⟨rfl, bel1' _ _⟩
   ·have hr : plainT 0 n s.data.toList m = false := by rw [hp]; simp [g2]
    rw [hr]
    have g2' : ¬ n ≤ 2147483647 := by omega
    clear hp hr F
    go_enter Try.func101, Try.ntmps101
    go_wp2
    go_ret
    exact ⟨rfl, bel1' _ _⟩
  ·have hr : plainT 0 n s.data.toList m = false := by rw [hp]; simp [g1]
   rw [hr]
   clear hp hr F
   go_enter Try.func101, Try.ntmps101
   go_wp2
   go_ret
   exact ⟨rfl, bel1' _ _⟩
 by_cases k1 : k = 1
 ·subst k1
  have hp : plainT 1 n s.data.toList m = (decide (s.size = 0) && decide (m = 0)) := by
   unfold plainT; rw [if_neg (by decide), if_pos rfl, isEmpty_size']
  by_cases g3 : s.size = 0
  ·have g3' := toList_empty' g3
   by_cases g4 : m = 0
   ·have hr : plainT 1 n s.data.toList m = true := by rw [hp]; simp [g3, g4]
    rw [hr]
    subst g4
    clear hp g3 hr F
    go_enter Try.func101, Try.ntmps101
    go_wp2
    go_ret
    exact ⟨rfl, bel1' _ _⟩
   ·have hr : plainT 1 n s.data.toList m = false := by rw [hp]; simp [g4]
    rw [hr]
    have g4' : ((m : Int) == 0) = false := by apply beq_false_of_ne; omega
    clear hp g3 hr F
    go_enter Try.func101, Try.ntmps101
    go_wp2
    go_ret
    exact ⟨rfl, bel1' _ _⟩
  ·have hr : plainT 1 n s.data.toList m = false := by rw [hp]; simp [g3]
   rw [hr]
   have g3' := toList_some' g3
   clear hp hr F
   go_enter Try.func101, Try.ntmps101
   go_wp2
   go_ret
   exact ⟨rfl, bel1' _ _⟩
 have k0' : (k == 0) = false := beq_false_of_ne k0
 have k1' : (k == 1) = false := beq_false_of_ne k1
 by_cases k2 : k = 2
 ·subst k2
  have hp : plainT 2 n s.data.toList m = (decide (n = 0) && decide (m ≤ 8) && fitB s) := by
   unfold plainT fitB; rw [if_neg (by decide), if_neg (by decide), if_pos rfl]
   have e : s.data.toList.length = s.size := rfl
   rw [e]
   cases decide (n = 0) <;> cases decide (s.size ≤ 64) <;> cases decide (m ≤ 8) <;> simp
  by_cases g1 : n = 0
  ·subst g1
   by_cases g3 : m ≤ 8
   ·have hr : plainT 2 0 s.data.toList m = fitB s := by rw [hp, decide_eq_true g3]; simp
    rw [hr]
    have g3i : (m : Int) ≤ 8 := by omega
    clear hr hp k0 k1 k0' k1'
    generalize fitB s = r at F ⊢
    cases r
    ·go_enter Try.func101, Try.ntmps101
     (go_wp2_with fail; go_fit (F _); rintro e w1 ⟨rfl, rfl⟩)
     go_wp2
     go_ret
     exact ⟨rfl, bel1' _ _⟩
    ·go_enter Try.func101, Try.ntmps101
     (go_wp2_with fail; go_fit (F _); rintro e w1 ⟨rfl, rfl⟩)
     go_wp2
     go_ret
     exact ⟨rfl, bel1' _ _⟩
   ·have hr : plainT 2 0 s.data.toList m = false := by rw [hp, decide_eq_false g3]; simp
    rw [hr]
    have g3i : (8 : Int) < m := by omega
    clear hr hp k0 k1 k0' k1'
    generalize fitB s = r at F
    cases r
    ·go_enter Try.func101, Try.ntmps101
     (go_wp2_with fail; go_fit (F _); rintro e w1 ⟨rfl, rfl⟩)
     go_wp2
     go_ret
     exact ⟨rfl, bel1' _ _⟩
    ·go_enter Try.func101, Try.ntmps101
     (go_wp2_with fail; go_fit (F _); rintro e w1 ⟨rfl, rfl⟩)
     go_wp2
     go_ret
     exact ⟨ret_bool (decide_eq_false (by omega)), bel1' _ _⟩
  ·have hr : plainT 2 n s.data.toList m = false := by rw [hp]; simp [g1]
   rw [hr]
   have g1' : (n == 0) = false := beq_false_of_ne g1
   clear hp hr k0 k1 k0' k1' F
   go_enter Try.func101, Try.ntmps101
   go_wp2
   go_ret
   exact ⟨rfl, bel1' _ _⟩
 ·have hr : plainT k n s.data.toList m = false := by unfold plainT; rw [if_neg k0, if_neg k1, if_neg k2]
  rw [hr]
  have k2' : (k == 2) = false := beq_false_of_ne k2
  clear hr k0 k1 k2 F
  go_enter Try.func101, Try.ntmps101
  go_wp2
  go_ret
  exact ⟨rfl, bel1' _ _⟩
end Go.Proofs.Ytchbbaehdcmcfaa
/- Package term: what is good. -/
namespace Go.Proofs.Ytchbbaehdcmcfaa
open Go.RowKit
set_option linter.unusedVariables false
def okT (t : Tm) (q : Nat) : Bool := decide (depthN t ≤ q) && formedT t
def okL : List Tm → Nat → Bool
 | [], _ => true
 | x :: r, q => okT x q && okL r q
theorem okL_eq : ∀ (l : List Tm) (q : Nat), okL l q = (decide (depthsN l ≤ q) && formedL l)
  | [], q => by simp [okL, depthsN, formedL]
  | x :: r, q => by
    rw [okL, okL_eq r q, depthsN, formedL]
    unfold okT
    by_cases h1 : depthN x ≤ q
    · by_cases h2 : depthsN r ≤ q
      · rw [decide_eq_true h1, decide_eq_true h2, decide_eq_true (by omega)]
        cases formedT x <;> cases formedL r <;> rfl
      · rw [decide_eq_true h1, decide_eq_false h2, decide_eq_false (by omega)]
        cases formedT x <;> rfl
    · have e : decide (max (depthN x) (depthsN r) ≤ q) = false := decide_eq_false (by omega)
      rw [decide_eq_false h1, e]
      rfl
theorem okT_zero (t : Tm) : okT t 0 = false := by
 unfold okT
 have := depth_pos t
 rw [decide_eq_false (by omega)]
 rfl
theorem okT_succ (k n : Int) (s : ByteArray) (ts : List Tm) (q : Nat) : okT (.mk k n s ts) (q + 1) = (plainT k n s.data.toList ts.length && okL ts q) := by
 unfold okT
 rw [okL_eq, formedT, depthN]
 by_cases h : depthsN ts ≤ q
 ·rw [decide_eq_true h, decide_eq_true (by omega)]
  cases plainT k n s.data.toList ts.length <;> rfl
 ·rw [decide_eq_false h, decide_eq_false (by omega)]
  cases plainT k n s.data.toList ts.length <;> rfl
set_option maxHeartbeats 4000000 in
set_option maxRecDepth 100000 in
theorem good_at : ∀ (q : Nat) (x : Tm), q ≤ 1000000 → ∀ (w : World) (v : Value), TmV w x v →
    Calls Try.prog 66 #[v, .int .i64 q] w fun e w' => e = .returned (.bool (okT x q)) ∧ Below w.heap.size w w'
  | 0, x, hq, w, v, hv => by
    obtain ⟨k, n, s, u, rfl⟩ := hv.four
    rw [okT_zero]
    clear hv
    go_enter Try.func66, Try.ntmps66
    go_wp2
    go_ret
    exact ⟨rfl, bel1' _ _⟩
  | q + 1, .mk k n s ts, hq, w, v, hv => by
    obtain ⟨u, rfl, hs, hk, hn, hu⟩ := tmV_iff.1 hv
    obtain ⟨a, c, rfl, h1, h2, h3⟩ := hu.len
    unfold BIG at h3 hs
    rw [okT_succ]
    obtain ⟨m, hm⟩ : ∃ m, ts.length = m := ⟨_, rfl⟩
    have IH := Lib.hid (fun (y : Tm) => good_at q y (by omega))
    have HU := Lib.hid hu
    have HM := Lib.hid hm
    rw [hm] at h1 h3 hu HU ⊢
    have F := fun w => fits_at (k := k) (n := n) (s := s) (a := a) (m := m) (c := c) hs hn h1 h2 h3 w
    obtain ⟨p, hp⟩ : ∃ p, plainT k n s.data.toList m = p := ⟨_, rfl⟩
    rw [hp] at F ⊢
    obtain ⟨Q, hQ⟩ : ∃ Q : Int, ((q + 1 : Nat) : Int) = Q := ⟨_, rfl⟩
    rw [hQ]
    have hq1 : Q - 1 = q := by omega
    have hQ0 : (Q == 0) = false := by apply beq_false_of_ne; omega
    have hQb : Q ≤ 1000001 := by omega
    have hQ1 : 0 < Q := by omega
    clear hv hu hm hp hQ
    cases p
    · rw [Bool.false_and]
      go_enter Try.func66, Try.ntmps66
      (go_wp2_with fail; go_fit (F _); rintro e w1 ⟨rfl, b1⟩)
      have B1 := Lib.hid (Ext.trans' (bel1' w _) b1)
      clear b1
      go_wp2
      go_ret
      exact ⟨rfl, B1.out⟩
    · rw [Bool.true_and]
      obtain ⟨r, hr⟩ : ∃ r, okL ts q = r := ⟨_, rfl⟩
      rw [hr]
      have HR := Lib.hid hr
      clear hr
      go_enter Try.func66, Try.ntmps66
      (go_wp2_with fail; go_fit (F _); rintro e w1 ⟨rfl, b1⟩)
      obtain ⟨e0, e1, e2, e3⟩ := box_cells w 31 _ _ _ _ b1
      have B1 := Lib.hid (Ext.trans' (bel1' w _) b1)
      clear b1 F
      go_wp2_with fail
      go_loopw [17] (fun v wr => ∃ i : Nat, i ≤ m ∧ v = .int .i64 i ∧ Hid (okL (ts.drop i) q = r) ∧ Hid (Below w.heap.size w wr)) (fun v _ => m - (RowKit.intOf v).toNat)
      case atStart => exact ⟨0, Nat.zero_le _, rfl, Lib.hid (by rw [List.drop_zero]; exact HR.out), B1⟩
      case round =>
        obtain ⟨i, hi, rfl, HD, HB⟩ := hrel
        by_cases hil : i < m
        · obtain ⟨y, hy⟩ : ∃ y, ts[i]? = some y := ⟨_, List.getElem?_eq_getElem (by rw [HM.out]; exact hil)⟩
          have hdr : ts.drop i = y :: ts.drop (i + 1) := by
            obtain ⟨hlt', rfl⟩ := List.getElem?_eq_some_iff.1 hy
            exact List.drop_eq_getElem_cons hlt'
          have hd := HD.out
          rw [hdr, okL] at hd
          obtain ⟨b, off, k', n', s', u', rfl, hbb, _, _, _, c0, c1, c2, c3, htu, ht⟩ := (HU.out.ext HB.out).get hy
          obtain ⟨au, cu, rfl, _⟩ := htu.len
          clear htu
          have ih := IH.out y _ _ (TmV.ext (bel1' wr (box4 k' n' s' (.slice au y.args.length cu) 31)) _ _ ht)
          clear hdr HD ht
          cases hq : okT y q
          · rw [hq, Bool.false_and] at hd
            rw [hq] at ih
            subst hd
            clear hq hy HR
            (go_wp2_with fail; go_fit (ih); rintro e w2 ⟨rfl, b2⟩)
            have B2 := Lib.hid (Ext.trans' HB.out (Ext.trans' (bel1' _ _) b2))
            clear b2
            go_wp2
            go_ret
            exact ⟨rfl, B2.out⟩
          · rw [hq, Bool.true_and] at hd
            rw [hq] at ih
            have HD := Lib.hid hd
            clear hq hd hy
            (go_wp2_with fail; go_fit (ih); rintro e w2 ⟨rfl, b2⟩)
            have B2 := Lib.hid (Ext.trans' HB.out (Ext.trans' (bel1' _ _) b2))
            clear b2
            go_wp2
            go_roundw
            case rel => exact ⟨i + 1, by omega, by go_num, HD, B2⟩
            case measure => simp [RowKit.intOf]; omega
        · have hd := HD.out
          rw [List.drop_eq_nil_of_le (by rw [HM.out]; omega), okL] at hd
          subst hd
          clear HR HD
          go_wp2
          go_ret
          exact ⟨rfl, HB.out⟩
theorem Good_at (x : Tm) (w : World) (v : Value) (hv : TmV w x v) : Calls Try.prog 27 #[v] w fun e w' => e = .returned (.bool (goodT x)) ∧ Below w.heap.size w w' := by
 have S := fun w (h : TmV w x v) => size_at x w v h
 have G := fun w (h : TmV w x v) => good_at 64 x (by omega) w v h
 have hg : goodT x = (decide (sizeN x ≤ 2000) && okT x 64) := by
  unfold goodT okT
  rw [Bool.and_assoc]
 obtain ⟨k, n, s, u, rfl⟩ := hv.four
 have hv0 := TmV.ext (bel1' w (box4 k n s u 31)) _ _ hv
 obtain ⟨p, hp⟩ : ∃ p, min (sizeN x) 2001 = p := ⟨_, rfl⟩
 rw [hp] at S
 rw [hg]
 generalize okT x 64 = f at G ⊢
 clear hg hv
 by_cases h1 : p ≤ 2000
 ·rw [decide_eq_true (by omega), Bool.true_and]
  clear hp
  go_enter Try.func27, Try.ntmps27
  (go_wp2_with fail; go_fit (S _ hv0); rintro e w1 ⟨rfl, b1⟩)
  obtain ⟨e0, e1, e2, e3⟩ := box_cells w 31 _ _ _ _ b1
  have hv1 := TmV.ext b1 _ _ hv0
  (go_wp2_with fail; go_fit (G _ hv1); rintro e w2 ⟨rfl, b2⟩)
  have B2 := Lib.hid (Ext.trans' (bel1' w _) (Ext.trans' b1 b2))
  clear b1 b2
  go_wp2
  go_ret
  exact ⟨rfl, B2.out⟩
 ·rw [decide_eq_false (by omega), Bool.false_and]
  clear hp
  go_enter Try.func27, Try.ntmps27
  (go_wp2_with fail; go_fit (S _ hv0); rintro e w1 ⟨rfl, b1⟩)
  obtain ⟨e0, e1, e2, e3⟩ := box_cells w 31 _ _ _ _ b1
  have B1 := Lib.hid (Ext.trans' (bel1' w _) b1)
  clear b1
  go_wp2
  go_ret
  exact ⟨rfl, B1.out⟩
end Go.Proofs.Ytchbbaehdcmcfaa
/- A region that draws its order, walked once in the text's order, in a class of worlds. Nothing here speaks of one program. -/
namespace Go
section
variable {P : Program} {ops : Array Oper} {C : World → Prop}
theorem quiet_of {o : Oper} {a : Act} {K : Act → Prop} (h : ∃ v, (∀ w, C w → o.quietAt P a C w v) ∧ K (a.put o.dst v)) : o.quiet P a C K := h
theorem wp_region_class (C : World → Prop) {id : Nat} {Q : Exit → Act → World → Prop} {a : Act} {w : World} {l : List Oper} (hm : P.follows .mixedOrders = true) (hB : Region.lexB .any l.toArray = true) (hC : C w.drew)
  (h : wpQuiet P l.toArray C (fun a' => ∀ w', C w' → Q .normal a' w') l a) : (Code.region id l.toArray true).wp P Q a w :=
 wp_region_quiet hm hB hC (by simpa using h)
end
end Go
/- Worlds of which some blocks are not looked at: terms that read without them. Nothing here speaks of one program. -/
namespace Go.Proofs.Ytchbbaehdcmcfaa
open Go.RowKit
set_option linter.unusedVariables false
def hide (D : Nat → Bool) (w : World) : World := { w with heap := w.heap.mapIdx fun i o => if D i then Obj.deferred none else o }
theorem hide_size (D : Nat → Bool) (w : World) : (hide D w).heap.size = w.heap.size := by unfold hide; simp
theorem hide_get (D : Nat → Bool) (w : World) (k : Nat) (h : D k = false) : (hide D w).heap[k]? = w.heap[k]? := by
 unfold hide
 simp only [Array.getElem?_mapIdx]
 cases w.heap[k]? with
 | none => rfl
 | some o => simp [h]
theorem hide_gone (D : Nat → Bool) (w : World) (a : Addr) (h : D a.block = true) : (hide D w).cell? a = none := by
 unfold World.cell? hide
 simp only [Array.getElem?_mapIdx]
 cases w.heap[a.block]? with
 | none => rfl
 | some o => simp [h]
theorem hide_cell (D : Nat → Bool) (w : World) (a : Addr) (h : D a.block = false) : (hide D w).cell? a = w.cell? a := World.cell?_of_block (hide_get D w a.block h)
def Stays (w w' : World) : Prop := w.heap.size ≤ w'.heap.size ∧ ∀ a v, w.cell? a = some v → w'.cell? a = some v
theorem Stays.refl (w : World) : Stays w w := ⟨Nat.le_refl _, fun _ _ h => h⟩
theorem Stays.trans {a b c : World} (h : Stays a b) (h' : Stays b c) : Stays a c := ⟨Nat.le_trans h.1 h'.1, fun x v hv => h'.2 x v (h.2 x v hv)⟩
theorem Stays.hide {D D' : Nat → Bool} {w w' : World} (hs : w.heap.size ≤ w'.heap.size) (hk : ∀ k, k < w.heap.size → D k = false → D' k = false ∧ w'.heap[k]? = w.heap[k]?) : Stays (hide D w) (hide D' w') := by
  refine ⟨by rw [hide_size, hide_size]; exact hs, fun a v hv => ?_⟩
  have hlt : a.block < w.heap.size := by
    have := World.block_lt_of_cell? _ _ hv
    rwa [hide_size] at this
  cases hd : D a.block with
  | true => rw [hide_gone D w a hd] at hv; cases hv
  | false =>
    obtain ⟨h1, h2⟩ := hk _ hlt hd
    rw [hide_cell D w a hd] at hv
    rw [hide_cell D' w' a h1, World.cell?_of_block h2]
    exact hv
theorem Stays.unhide (D : Nat → Bool) (w : World) : Stays (Go.Proofs.Ytchbbaehdcmcfaa.hide D w) w := by
 refine ⟨by rw [hide_size]; exact Nat.le_refl _, fun a v hv => ?_⟩
 cases hd : D a.block with
 | true => rw [hide_gone D w a hd] at hv; cases hv
 | false => rwa [hide_cell D w a hd] at hv
theorem Stays.below {D D' : Nat → Bool} {w w' : World} (hb : Below w.heap.size w w') (hD : ∀ k, k < w.heap.size → D k = false → D' k = false) : Stays (Go.Proofs.Ytchbbaehdcmcfaa.hide D w) (Go.Proofs.Ytchbbaehdcmcfaa.hide D' w') :=
 Stays.hide hb.size fun k hk hd => ⟨hD k hk hd, hb.block k hk⟩
theorem Stays.less {D D' : Nat → Bool} {w : World} (hD : ∀ k, D k = false → D' k = false) : Stays (Go.Proofs.Ytchbbaehdcmcfaa.hide D w) (Go.Proofs.Ytchbbaehdcmcfaa.hide D' w) :=
 Stays.hide (Nat.le_refl _) fun k _ hd => ⟨hD k hd, rfl⟩
theorem Stays.set {D : Nat → Bool} {w : World} (a : Addr) (v : Value) (h : D a.block = true) : Stays (Go.Proofs.Ytchbbaehdcmcfaa.hide D w) (Go.Proofs.Ytchbbaehdcmcfaa.hide D (w.setCell a v)) :=
 Stays.hide (by simp [World.setCell]) fun k _ hd => ⟨hd, Below.heap_setCell w a v k (fun e => by rw [e, h] at hd; cases hd)⟩
mutual
theorem TmV.stay {w w' : World} (hb : Stays w w') : ∀ (x : Tm) (v : Value), TmV w x v → TmV w' x v
  | .mk k n s ts, v, h => by
    rw [TmV] at h ⊢
    obtain ⟨a, c, h1, h2, h3, h4, h5, h6, h7, h8⟩ := h
    refine ⟨a, c, h1, h2, h3, h4, h5, h6, h7, ?_⟩
    rcases h8 with h8 | ⟨b, off, e1, e2, e3⟩
    · exact Or.inl h8
    · exact Or.inr ⟨b, off, e1, Nat.lt_of_lt_of_le e2 hb.1, TmRow.stay hb ts b off e3⟩
theorem TmRow.stay {w w' : World} (hb : Stays w w') : ∀ (l : List Tm) (b off : Nat), TmRow w l b off → TmRow w' l b off
  | [], b, off, _ => by rw [TmRow]; trivial
  | x :: r, b, off, h => by
    rw [TmRow] at h ⊢
    obtain ⟨⟨c0, c1, c2, c3, h0, h1, h2, h3, h4⟩, h5⟩ := h
    exact ⟨⟨c0, c1, c2, c3, hb.2 _ _ h0, hb.2 _ _ h1, hb.2 _ _ h2, hb.2 _ _ h3, TmV.stay hb x _ h4⟩, TmRow.stay hb r b (off + 4) h5⟩
end
theorem Tms.stay {w w' : World} {v : Value} {l : List Tm} (h : Tms w v l) (hb : Stays w w') : Tms w' v l := by
 obtain ⟨a, c, h1, h2, h3, h4, h5⟩ := h
 refine ⟨a, c, h1, h2, h3, h4, ?_⟩
 rcases h5 with h5 | ⟨b, off, e1, e2, e3⟩
 ·exact Or.inl h5
 ·exact Or.inr ⟨b, off, e1, Nat.lt_of_lt_of_le e2 hb.1, TmRow.stay hb l b off e3⟩
def Old (D : Nat → Bool) (w : World) : Prop := ∀ k, w.heap.size ≤ k → D k = false
theorem Old.mono {D : Nat → Bool} {w w' : World} (h : Old D w) (hs : w.heap.size ≤ w'.heap.size) : Old D w' := fun k hk => h k (Nat.le_trans hs hk)
theorem TmV.later {D : Nat → Bool} {w w' : World} (hb : Below w.heap.size w w') {x : Tm} {v : Value} (h : TmV (hide D w) x v) : TmV (hide D w') x v := TmV.stay (Stays.below hb fun _ _ h => h) x v h
theorem TmV.bare {D : Nat → Bool} {w : World} {x : Tm} {v : Value} (h : TmV (hide D w) x v) : TmV w x v := TmV.stay (Stays.unhide D w) x v h
end Go.Proofs.Ytchbbaehdcmcfaa
/- A region that draws its order, walked operation by operation while a condition holds. Nothing here speaks of one program. -/
namespace Go
section
variable {P : Program} {md : Region.Mode} {ops : Array Oper} {Q : Exit → Act → World → Prop} {S : World → Prop}
theorem held_t {i : Nat} {oi : Oper} {fuel : Nat} {listed : Array Bool} {a : Act} {w : World} (hS : S w)
  (h : ∃ v, (∀ w, S w → (execOp a.eval oi).run P w = .ok (.value v) w) ∧ wpAnyH P md ops Q S fuel (listed.setIfInBounds i true) (a.put oi.dst v) w)
  (hi : ops[i]? = some oi := by simp only [List.getElem?_toArray, List.getElem?_cons_zero, List.getElem?_cons_succ]; rfl)
  (hs : Region.noSelect ops = true := by kernel_rfl) (hf : Region.free md ops listed i = true := by kernel_rfl) (hr : (Region.ready md ops listed).contains i = true := by kernel_rfl) (hw : Region.wanted oi (yielded ops a.tmps) = true := by rfl)
  (hQ : ∀ v c a w, Q (.panic c) (a.put oi.dst v) w → Q (.panic c) a w := by exact fun _ _ _ _ h => h) : wpAnyH P md ops Q S (fuel + 1) listed a w := by
 obtain ⟨v, h1, h2⟩ := h
 exact wpAnyH_take hi hs hf hr (hQ v) (Or.inl ⟨hw, h1⟩) hS h2
theorem held_s {i : Nat} {oi : Oper} {fuel : Nat} {listed : Array Bool} {a : Act} {w : World} (hS : S w) (h : wpAnyH P md ops Q S fuel (listed.setIfInBounds i true) (a.put oi.dst undef) w)
  (hi : ops[i]? = some oi := by simp only [List.getElem?_toArray, List.getElem?_cons_zero, List.getElem?_cons_succ]; rfl)
  (hs : Region.noSelect ops = true := by kernel_rfl) (hf : Region.free md ops listed i = true := by kernel_rfl) (hr : (Region.ready md ops listed).contains i = true := by kernel_rfl) (hw : Region.wanted oi (yielded ops a.tmps) = false := by rfl)
  (hQ : ∀ c a w, Q (.panic c) (a.put oi.dst undef) w → Q (.panic c) a w := by exact fun _ _ _ h => h) : wpAnyH P md ops Q S (fuel + 1) listed a w :=
 wpAnyH_take hi hs hf hr hQ (Or.inr ⟨hw, rfl⟩) hS h
theorem held_c (i : Nat) {o : Oper} {fuel : Nat} {listed : Array Bool} {a : Act} {w : World}
  (h : ∀ K' : Act → World → Prop, Shut (∀ a w, S w → (S w → wpAnyH P md ops Q S fuel (listed.setIfInBounds i true) a w) → K' a w) → if Region.wanted o (yielded ops a.tmps) = true then Oper.wp P o a w K' Q else K' (a.put o.dst undef) w)
  (hr : Region.ready md ops listed = [i] := by kernel_rfl) (hi : ops[i]? = some o := by simp only [List.getElem?_toArray, List.getElem?_cons_zero, List.getElem?_cons_succ]; rfl) : wpAnyH P md ops Q S (fuel + 1) listed a w :=
 wpAnyH_ready hr (by simp) (AllReadyH.cons hi h AllReadyH.nil)
end
end Go
/- Drawn together by pull.py from XPrM XPrN XPrB XPrE XPrF XPrG XPrH XPsB. -/
namespace Go.Proofs.Ytchbbaehdcmcfaa
open Go.RowKit
set_option linter.unusedVariables false
structure Turn (D M D' M' : Nat → Bool) (w w' : World) : Prop where
 size : w.heap.size ≤ w'.heap.size
 dd : ∀ k, k < w.heap.size → D' k = D k
 mm : ∀ k, k < w.heap.size → M' k = M k
 kept : ∀ k, k < w.heap.size → M k = false → w'.heap[k]? = w.heap[k]?
 ot : Below 0 w w'
theorem Turn.trans {D M D' M' D2 M2 : Nat → Bool} {a b c : World} (h : Turn D M D' M' a b) (g : Turn D' M' D2 M2 b c) : Turn D M D2 M2 a c :=
 ⟨Nat.le_trans h.size g.size, fun k hk => (g.dd k (Nat.lt_of_lt_of_le hk h.size)).trans (h.dd k hk), fun k hk => (g.mm k (Nat.lt_of_lt_of_le hk h.size)).trans (h.mm k hk),
  fun k hk hm => (g.kept k (Nat.lt_of_lt_of_le hk h.size) ((h.mm k hk).trans hm)).trans (h.kept k hk hm), h.ot.trans g.ot⟩
theorem Turn.below {D M : Nat → Bool} {w w' : World} (h : Below w.heap.size w w') : Turn D M D M w w' := ⟨h.size, fun _ _ => rfl, fun _ _ => rfl, fun k hk _ => h.block k hk, h.mono (Nat.zero_le _)⟩
theorem Turn.stays {D M D' M' : Nat → Bool} {w w' : World} (h : Turn D M D' M' w w') (md : ∀ k, M k = true → D k = true) : Stays (hide D w) (hide D' w') :=
 Stays.hide h.size fun k hk hd => ⟨(h.dd k hk).trans hd, h.kept k hk (by cases hm : M k with | false => rfl | true => rw [md k hm] at hd; cases hd)⟩
theorem Turn.bel {D M D' M' : Nat → Bool} {w w' : World} (h : Turn D M D' M' w w') {n : Nat} (hn : n ≤ w.heap.size) (hm : ∀ k, k < n → M k = false) : Below n w w' :=
 ⟨h.ot.os, h.ot.tape, h.ot.output, h.size, fun k hk => h.kept k (Nat.lt_of_lt_of_le hk hn) (hm k hk)⟩
theorem Turn.set {D M D' M' : Nat → Bool} {w w' : World} (h : Turn D M D' M' w w') (a : Addr) (u : Value) (ha : w.heap.size ≤ a.block ∨ M a.block = true) : Turn D M D' M' w (w'.setCell a u) :=
 ⟨Nat.le_trans h.size (by simp [World.setCell]), h.dd, h.mm, fun k hk hm => (Below.heap_setCell w' a u k (fun e => by
  rcases ha with ha | ha
  ·omega
  ·rw [e, ha] at hm; cases hm)).trans (h.kept k hk hm), h.ot.setCell (Nat.zero_le _) u⟩
theorem row_at {w w' : World} {B k n : Nat} {e : TypeId} {v : Value} {xs : List Value} (h : w.ownsRow B e k v n xs) (hb : ∀ g, v.ownBlock = some g → w'.heap[g]? = w.heap[g]?) : w'.ownsRow B e k v n xs := by
 obtain ⟨h0, h1⟩ := h
 refine ⟨h0, ?_⟩
 rcases h1 with h1 | ⟨g, cap, cur, rfl, hg, hh, h2⟩
 ·exact Or.inl h1
 ·exact Or.inr ⟨g, cap, cur, rfl, hg, by rw [hb g rfl]; exact hh, h2⟩
theorem row_in {w : World} {B k n : Nat} {e : TypeId} {v : Value} {xs : List Value} (h : w.ownsRow B e k v n xs) {g : Nat} (hg : v.ownBlock = some g) : B ≤ g ∧ g < w.heap.size := by
 rcases h.2 with ⟨rfl, _⟩ | ⟨g', cap, cur, rfl, h1, h2, _⟩
 ·cases hg
 ·cases hg
  exact ⟨h1, (Array.getElem?_eq_some_iff.1 h2).1⟩
def plusB (D : Nat → Bool) (b : Nat) : Nat → Bool := fun k => k == b || D k
theorem plusB_self (D : Nat → Bool) (b : Nat) : plusB D b b = true := by simp [plusB]
theorem plusB_of {D : Nat → Bool} {b k : Nat} (h : D k = true) : plusB D b k = true := by simp [plusB, h]
theorem plusB_ne {D : Nat → Bool} {b k : Nat} (h : k ≠ b) : plusB D b k = D k := by simp [plusB, h]
theorem Turn.box {D M D' M' : Nat → Bool} {w w' : World} {b : Nat} (h : Turn (plusB D b) M D' M' w w') (hb : w.heap.size ≤ b) : Turn D M D' M' w w' :=
 ⟨h.size, fun k hk => (h.dd k hk).trans (plusB_ne (by omega)), h.mm, h.kept, h.ot⟩
theorem Turn.into {D M : Nat → Bool} {w w' : World} (h : Below w.heap.size w w') {b : Nat} (hb : w.heap.size ≤ b) : Turn D M (plusB D b) M w w' :=
 ⟨h.size, fun k hk => plusB_ne (by omega), fun _ _ => rfl, fun k hk _ => h.block k hk, h.mono (Nat.zero_le _)⟩
structure Box (w : World) (b : Nat) (vs : List Value) : Prop where
 cells : ∀ j u, vs[j]? = some u → w.cell? ⟨b, j, none⟩ = some u
 fz : ∀ j, w.frozen? ⟨b, j, none⟩ = false
 lt : b < w.heap.size
theorem box_new (w : World) (cs : Array Value) (ty : TypeId) : ∃ w1, w.alloc (.cells cs ty) = w1 ∧ Below w.heap.size w w1 ∧ w1.heap.size = w.heap.size + 1 ∧ Box w1 w.heap.size cs.toList := by
 refine ⟨_, rfl, bel1' _ _, by simp, fun j u h => ?_, fun j => by simp, by simp⟩
 have := cell_new w cs ty j u h
 rw [add_plain, Nat.zero_add] at this
 exact this
theorem Box.ext {w w' : World} {b : Nat} {vs : List Value} (h : Box w b vs) (hb : Below w.heap.size w w') : Box w' b vs :=
 ⟨fun j u hu => cell_later hb (h.cells j u hu), fun j => (hb.frozen (p := ⟨b, j, none⟩) h.lt).trans (h.fz j), Nat.lt_of_lt_of_le h.lt hb.size⟩
theorem Box.far {w : World} {b c k : Nat} {u : Value} {vs : List Value} (h : Box w b vs) (hne : b ≠ c) : Box (w.setCell ⟨c, k, none⟩ u) b vs :=
 ⟨fun j v hv => by
  rw [World.cell?_setCell_other]
  ·exact h.cells j v hv
  ·intro e; injection e with e _ _; exact hne e.symm, fun j => by rw [World.frozen?_setCell]; exact h.fz j, by have := h.lt; simpa [World.setCell] using this⟩
theorem Box.set {w : World} {b k : Nat} {u : Value} {vs : List Value} (h : Box w b vs) (hk : k < vs.length) : Box (w.setCell ⟨b, k, none⟩ u) b (vs.set k u) :=
 ⟨fun j v hv => by
  by_cases hj : j = k
  ·subst hj
   rw [List.getElem?_set_self hk] at hv
   injection hv with hv
   subst hv
   exact css (h.cells j _ (List.getElem?_eq_getElem hk))
  ·rw [List.getElem?_set_ne (by omega)] at hv
   rw [World.cell?_setCell_other]
   ·exact h.cells j v hv
   ·intro e; injection e with _ e _; exact hj e.symm, fun j => by rw [World.frozen?_setCell]; exact h.fz j, by have := h.lt; simpa [World.setCell] using this⟩
theorem Box.four {w : World} {b : Nat} {v0 v1 v2 v3 : Value} (h : Box w b [v0, v1, v2, v3]) : w.cell? ⟨b, 0, none⟩ = some v0 ∧ w.cell? ⟨b, 1, none⟩ = some v1 ∧ w.cell? ⟨b, 2, none⟩ = some v2 ∧ w.cell? ⟨b, 3, none⟩ = some v3 ∧ ∀ j, w.frozen? ⟨b, j, none⟩ = false :=
 ⟨h.cells 0 _ rfl, h.cells 1 _ rfl, h.cells 2 _ rfl, h.cells 3 _ rfl, h.fz⟩
abbrev set3 (w : World) (b : Nat) (u0 u1 u2 : Value) : World := ((w.setCell ⟨b, 0, none⟩ u0).setCell ⟨b, 1, none⟩ u1).setCell ⟨b, 2, none⟩ u2
abbrev set4 (w : World) (b : Nat) (u0 u1 u2 u3 : Value) : World := (set3 w b u0 u1 u2).setCell ⟨b, 3, none⟩ u3
theorem Turn.set3 {D M D' M' : Nat → Bool} {w w' : World} (h : Turn D M D' M' w w') {b : Nat} (hb : w.heap.size ≤ b ∨ M b = true) (u0 u1 u2 : Value) : Turn D M D' M' w (Go.Proofs.Ytchbbaehdcmcfaa.set3 w' b u0 u1 u2) :=
 ((h.set ⟨b, 0, none⟩ u0 hb).set ⟨b, 1, none⟩ u1 hb).set ⟨b, 2, none⟩ u2 hb
theorem Turn.set4 {D M D' M' : Nat → Bool} {w w' : World} (h : Turn D M D' M' w w') {b : Nat} (hb : w.heap.size ≤ b ∨ M b = true) (u0 u1 u2 u3 : Value) : Turn D M D' M' w (Go.Proofs.Ytchbbaehdcmcfaa.set4 w' b u0 u1 u2 u3) :=
 (h.set3 hb u0 u1 u2).set ⟨b, 3, none⟩ u3 hb
theorem far_cell {w : World} {b j c k : Nat} {u : Value} (hne : b ≠ c) : (w.setCell ⟨c, k, none⟩ u).cell? ⟨b, j, none⟩ = w.cell? ⟨b, j, none⟩ := by
 rw [World.cell?_setCell_other]
 intro e; injection e with e _ _; exact hne e.symm
theorem Below.set3 {B : Nat} {w w' : World} (h : Below B w w') {b : Nat} (hb : B ≤ b) (u0 u1 u2 : Value) : Below B w (Go.Proofs.Ytchbbaehdcmcfaa.set3 w' b u0 u1 u2) :=
 ((h.setCell (p := ⟨b, 0, none⟩) hb _).setCell (p := ⟨b, 1, none⟩) hb _).setCell (p := ⟨b, 2, none⟩) hb _
theorem Below.set4 {B : Nat} {w w' : World} (h : Below B w w') {b : Nat} (hb : B ≤ b) (u0 u1 u2 u3 : Value) : Below B w (Go.Proofs.Ytchbbaehdcmcfaa.set4 w' b u0 u1 u2 u3) :=
 (Below.set3 h hb u0 u1 u2).setCell (p := ⟨b, 3, none⟩) hb _
def withB (D : Nat → Bool) (v : Value) : Nat → Bool := fun k => D k || v.ownBlock == some k
theorem withB_of {D : Nat → Bool} {v : Value} {k : Nat} (h : D k = true) : withB D v k = true := by simp [withB, h]
theorem withB_own {D : Nat → Bool} {v : Value} {k : Nat} (h : v.ownBlock = some k) : withB D v k = true := by simp [withB, h]
theorem withB_no {D : Nat → Bool} {v : Value} {k : Nat} (h : v.ownBlock ≠ some k) : withB D v k = D k := by simp [withB, h]
theorem Box.block {w w' : World} {b : Nat} {vs : List Value} (h : Box w b vs) (hb : w'.heap[b]? = w.heap[b]?) (hlt : b < w'.heap.size) : Box w' b vs :=
 ⟨fun j u hu => by rw [World.cell?_of_block hb]; exact h.cells j u hu, fun j => by rw [World.frozen?_of_block hb]; exact h.fz j, hlt⟩
def Okd (D M : Nat → Bool) (w : World) : Prop := (∀ k, M k = true → D k = true) ∧ Old D w
def Fin (D M' : Nat → Bool) (n : Nat) : Nat → Bool := fun k => if k < n then D k else M' k
theorem fin_old {D M' : Nat → Bool} {n k : Nat} (h : k < n) : Fin D M' n k = D k := if_pos h
theorem fin_new {D M' : Nat → Bool} {n k : Nat} (h : n ≤ k) : Fin D M' n k = M' k := if_neg (by omega)
theorem fin_less {D M D1 M' : Nat → Bool} {w w' : World} (ht : Turn D M D1 M' w w') (ho : Okd D1 M' w') {k : Nat} (h : D1 k = false) : Fin D M' w.heap.size k = false := by
 by_cases hk : k < w.heap.size
 ·rw [fin_old hk, ← ht.dd k hk]; exact h
 ·rw [fin_new (by omega)]
  cases hm : M' k with
  | false => rfl
  | true => rw [ho.1 k hm] at h; cases h
theorem TmV.fin {D M D1 M' : Nat → Bool} {w w' : World} {t : Tm} {v : Value} (h : TmV (hide D1 w') t v) (ht : Turn D M D1 M' w w') (ho : Okd D1 M' w') : TmV (hide (Fin D M' w.heap.size) w') t v :=
 TmV.stay (Stays.less fun k hk => fin_less ht ho hk) t v h
theorem grown_stays {D : Nat → Bool} {W w' : World} {v v' : Value} (hg : W.grownBy w' v.ownBlock) (hD : ∀ g, v.ownBlock = some g → D g = true) (hv : v'.ownBlock = v.ownBlock ∨ v'.ownBlock = some W.heap.size) : Stays (hide D W) (hide (withB D v') w') :=
 Stays.hide hg.size fun k hk hd => ⟨by
  rw [withB_no]
  ·exact hd
  ·intro e
   rcases hv with hv | hv
   ·rw [hD k (hv.symm.trans e)] at hd; cases hd
   ·rw [hv] at e; injection e with e; omega, hg.block k hk (fun e => by rw [hD k e.symm] at hd; cases hd)⟩
theorem Turn.grown {D M D1 M1 : Nat → Bool} {w W w' : World} {v v' : Value} (ht : Turn D M D1 M1 w W) (hg : W.grownBy w' v.ownBlock) (hb : ∀ g, v.ownBlock = some g → w.heap.size ≤ g) (hv : v'.ownBlock = v.ownBlock ∨ v'.ownBlock = some W.heap.size) : Turn D M (withB D1 v') M1 w w' :=
 ⟨Nat.le_trans ht.size hg.size, fun k hk => by
  rw [withB_no]
  ·exact ht.dd k hk
  ·intro e
   rcases hv with hv | hv
   ·have := hb k (hv.symm.trans e); omega
   ·rw [hv] at e; injection e with e; have := ht.size; omega, ht.mm, fun k hk hm => (hg.block k (Nat.lt_of_lt_of_le hk ht.size) (fun e => by have := hb k e.symm; omega)).trans (ht.kept k hk hm), ht.ot.grown hg (Nat.zero_le _) (fun _ _ => Nat.zero_le _)⟩
theorem four_of {w : World} {t : Tm} {v : Value} (h : TmV w t v) : ∃ k n s a m c, v = .agg #[.int .i64 k, .int .i64 n, .string s, .slice a m c] ∧ t.k = k ∧ t.n = n ∧ t.s = s ∧ v = pVal (t, .slice a m c) := by
  cases t with
  | mk k n s ts =>
    obtain ⟨u, rfl, _, _, _, hu⟩ := tmV_iff.1 h
    obtain ⟨a, c, rfl, _⟩ := hu.len
    exact ⟨k, n, s, a, _, c, rfl, rfl, rfl, rfl, rfl⟩
theorem Okd.later {D M : Nat → Bool} {w w' : World} (h : Okd D M w) (hb : w.heap.size ≤ w'.heap.size) : Okd D M w' := ⟨h.1, h.2.mono hb⟩
theorem Okd.put4 {D M : Nat → Bool} {w : World} (h : Okd D M w) (b : Nat) (u0 u1 u2 u3 : Value) : Okd D M (set4 w b u0 u1 u2 u3) := h.later (by simp [World.setCell])
theorem Okd.box {D M : Nat → Bool} {w w' : World} (h : Okd D M w) (hb : w.heap.size ≤ w'.heap.size) {b : Nat} (hlt : b < w'.heap.size) : Okd (plusB D b) M w' :=
 ⟨fun k hk => plusB_of (h.1 k hk), fun k hk => (plusB_ne (by omega)).trans (h.2 k (Nat.le_trans hb hk))⟩
def RowY (D M : Nat → Bool) (w : World) (base : Nat) (v : Value) (ps : List TmP) : Prop :=
 RowP w base 54 v ps ∧ (∀ g, v.ownBlock = some g → D g = true ∧ M g = false) ∧ ∀ p ∈ ps, TmV (hide D w) p.1 (pVal p)
theorem RowY.none (D M : Nat → Bool) (w : World) (base : Nat) : RowY D M w base (.slice none 0 0) [] := ⟨World.ownsRow_nil _ _ _ _, fun g hg => (by cases hg), fun p hp => (by cases hp)⟩
theorem RowY.turn {D M D' M' : Nat → Bool} {w w' : World} {base : Nat} {v : Value} {ps : List TmP} (h : RowY D M w base v ps) (ht : Turn D M D' M' w w') (md : ∀ k, M k = true → D k = true) : RowY D' M' w' base v ps := by
 obtain ⟨h1, h2, h3⟩ := h
 refine ⟨row_at h1 (fun g hg => ht.kept g (row_in h1 hg).2 (h2 g hg).2), fun g hg => ?_, fun p hp => TmV.stay (ht.stays md) _ _ (h3 p hp)⟩
 have hlt := (row_in h1 hg).2
 rw [ht.dd g hlt, ht.mm g hlt]
 exact h2 g hg
theorem RowY.more {D M : Nat → Bool} {W w' : World} {base : Nat} {v v' : Value} {ps : List TmP} {p : TmP} (h : RowY D M W base v ps) (hp : TmV (hide D W) p.1 (pVal p)) (ho : Okd D M W) (hg : W.grownBy w' v.ownBlock) (hv : v'.ownBlock = v.ownBlock ∨ v'.ownBlock = some W.heap.size)
  (hr : w'.ownsRow base 54 4 v' (ps.length + 1) (ps.flatMap pCells ++ pCells p)) : RowY (withB D v') M w' base v' (ps ++ [p]) := by
 obtain ⟨h1, h2, h3⟩ := h
 have hs := grown_stays hg (fun g e => (h2 g e).1) hv
 refine ⟨?_, fun g hg' => ⟨withB_own hg', ?_⟩, fun q hq => ?_⟩
 ·unfold RowP
  rw [List.length_append, List.flatMap_append, List.length_singleton]
  simpa using hr
 ·rcases hv with hv | hv
  ·exact (h2 g (hv.symm.trans hg')).2
  ·rw [hv] at hg'
   injection hg' with e
   subst e
   cases hm : M W.heap.size with
   | false => rfl
   | true => have := ho.1 _ hm; rw [ho.2 _ (Nat.le_refl _)] at this; cases this
 ·rcases List.mem_append.1 hq with hq | hq
  ·exact TmV.stay hs _ _ (h3 q hq)
  ·simp at hq
   subst hq
   exact TmV.stay hs _ _ hp
theorem RowY.fin {D M D1 M' : Nat → Bool} {w w' : World} {v : Value} {ps : List TmP} {base : Nat} (hbase : w.heap.size ≤ base) (h : RowY D1 M' w' base v ps) (ht : Turn D M D1 M' w w') (ho : Okd D1 M' w') (hl : ps.length * 56 ≤ BIG) : Tms (hide (Fin D M' w.heap.size) w') v (ps.map (·.1)) := by
 obtain ⟨h1, h2, h3⟩ := h
 have hh : RowP (hide (Fin D M' w.heap.size) w') base 54 v ps := by
  refine row_at h1 (fun g hg => hide_get _ _ _ ?_)
  rw [fin_new (Nat.le_trans hbase (row_in h1 hg).1)]
  exact (h2 g hg).2
 exact hh.terms (fun p hp => TmV.fin (h3 p hp) ht ho) hl
theorem infoTermR : (Try.prog.info? 54).map (fun i => (i.zero, i.size, i.bytes)) = some (some (.agg #[.int .i64 0, .int .i64 0, .string ⟨#[]⟩, .slice none 0 0]), 4, 56) := by kernel_rfl
abbrev noM : Nat → Bool := fun _ => false
theorem fin_no {D : Nat → Bool} {w : World} (h : Old D w) : Fin D noM w.heap.size = D := by
 funext k
 by_cases hk : k < w.heap.size
 ·exact fin_old hk
 ·rw [fin_new (by omega)]
  exact (h k (by omega)).symm
theorem okd_no {D : Nat → Bool} {w : World} (h : Old D w) : Okd D noM w := And.intro (fun k hk => absurd hk (by simp)) h
theorem take_next {α : Type} {l : List α} {k : Nat} {x : α} (h : l[k]? = some x) : l.take (k + 1) = l.take k ++ [x] := by rw [List.take_add_one, h]; rfl
theorem RowY.put {D M : Nat → Bool} {w : World} {base : Nat} {v : Value} {ps : List TmP} (h : RowY D M w base v ps) (a : Addr) (u : Value) (hd : D a.block = true) (hne : ∀ g, v.ownBlock = some g → g ≠ a.block) : RowY D M (w.setCell a u) base v ps :=
 ⟨row_at h.1 (fun g hg => Below.heap_setCell w a u g (hne g hg)), h.2.1, fun p hp => TmV.stay (Stays.set a u hd) _ _ (h.2.2 p hp)⟩
theorem far_one {w : World} {b j c k : Nat} {v u : Value} (h : w.cell? ⟨b, j, none⟩ = some v) (hne : b ≠ c) : (w.setCell ⟨c, k, none⟩ u).cell? ⟨b, j, none⟩ = some v := by rw [far_cell hne]; exact h
end Go.Proofs.Ytchbbaehdcmcfaa
/- Package index: Of, May, plain; the document's own May; the law's key. -/
namespace Go.Proofs.Ytchbbaehdcmcfaa
open Go.RowKit
set_option linter.unusedVariables false
theorem sameKey_l (a b : KeyM) : (a.k == b.k && (a.n == b.n && (a.s.toList == b.s.toList && a.ar == b.ar))) = sameKey a b := by
 unfold sameKey
 rw [Lib.toList_data, Lib.toList_data, Bool.and_assoc, Bool.and_assoc]
theorem ixEq (a b : KeyM) (w : World) : (Op.equalIn 10000 76 (ixV a) (ixV b)).run Try.prog w = .ok (sameKey a b) w := by
 have u2 := Try.underlying2
 have a2 := Try.isAgg2
 have z2 := Try.sizeOf2
 have u3 := Try.underlying3
 have a3 := Try.isAgg3
 have z3 := Try.sizeOf3
 have u9 := Try.underlying9
 have a9 := Try.isAgg9
 have z9 := Try.sizeOf9
 have hS : Try.prog.underlying 76 = some (.struct (Try.prog.fieldsOf 76)) := by kernel_rfl
 have hp : Try.prog.stoodInHeld 76 = false := by kernel_rfl
 rw [← sameKey_l, show (10000 : Nat) = 9999 + 1 from rfl, run_equalIn_agg w 9999 76 _ _ hS hp]
 simp only [Program.fieldsOf, Try.underlying76]
 go_simp
 by_cases h0 : a.k = b.k <;> by_cases h1 : a.n = b.n <;> by_cases h2 : a.s.toList = b.s.toList <;> by_cases h3 : a.ar = b.ar <;> simp [h0, h1, h2, h3]
theorem rxEq (a b : KeyM) (w : World) : (Op.equalIn 10000 91 (ixV a) (ixV b)).run Try.prog w = .ok (sameKey a b) w := by
 have u2 := Try.underlying2
 have a2 := Try.isAgg2
 have z2 := Try.sizeOf2
 have u3 := Try.underlying3
 have a3 := Try.isAgg3
 have z3 := Try.sizeOf3
 have u9 := Try.underlying9
 have a9 := Try.isAgg9
 have z9 := Try.sizeOf9
 have hS : Try.prog.underlying 91 = some (.struct (Try.prog.fieldsOf 91)) := by kernel_rfl
 have hp : Try.prog.stoodInHeld 91 = false := by kernel_rfl
 rw [← sameKey_l, show (10000 : Nat) = 9999 + 1 from rfl, run_equalIn_agg w 9999 91 _ _ hS hp]
 simp only [Program.fieldsOf, Try.underlying91]
 go_simp
 by_cases h0 : a.k = b.k <;> by_cases h1 : a.n = b.n <;> by_cases h2 : a.s.toList = b.s.toList <;> by_cases h3 : a.ar = b.ar <;> simp [h0, h1, h2, h3]
set_option maxHeartbeats 2000000 in
theorem ixMay_at (a b : KeyM) (w : World) : Calls Try.prog 47 #[ixV a, ixV b] w fun e w' => e = .returned (.bool (mayK a b)) ∧ Below w.heap.size w w' := by
 obtain ⟨w1, e1, B1, z1, X1⟩ := box_new w #[.int .i64 a.k, .int .i64 a.n, .string a.s, .int .i64 a.ar] 76
 obtain ⟨w2, e2, B2, z2, X2⟩ := box_new w1 #[.int .i64 b.k, .int .i64 b.n, .string b.s, .int .i64 b.ar] 76
 have hB := Ext.trans' B1 B2
 rw [z1] at X2
 obtain ⟨x0, x1, x2, x3, _⟩ := (X1.ext B2).four
 obtain ⟨y0, y1, y2, y3, _⟩ := X2.four
 have HE := Lib.hid (And.intro e1 e2)
 obtain ⟨r, hr⟩ : ∃ r, mayK a b = r := ⟨_, rfl⟩
 have HR := Lib.hid hr
 rw [hr]
 unfold mayK at hr
 clear e1 e2 B1 B2 z1 z2 X1 X2
 go_enter Try.func47, Try.ntmps47
 go_upto_region 1 with fail
 (try rw [HE.out.1])
 (try rw [HE.out.2])
 by_cases h1 : a.k = 0
 ·obtain rfl : r = true := by rw [← hr]; simp [h1]
  have h1' : (a.k == 0) = true := by simpa using h1
  clear HE
  go_wp2
  go_ret
  exact ⟨rfl, hB⟩
 have h1' : (a.k == 0) = false := by simpa using h1
 by_cases h2 : b.k = 0
 ·obtain rfl : r = true := by rw [← hr]; simp [h2]
  have h2' : (b.k == 0) = true := by simpa using h2
  clear HE
  go_wp2
  go_ret
  exact ⟨rfl, hB⟩
 have h2' : (b.k == 0) = false := by simpa using h2
 have hsk : sameKey a b = r := by rw [← hr, h1', h2']; simp
 have he : ∀ wq : World, (Op.equalIn 10000 76 (.agg #[.int .i64 a.k, .int .i64 a.n, .string a.s, .int .i64 a.ar]) (.agg #[.int .i64 b.k, .int .i64 b.n, .string b.s, .int .i64 b.ar])).run Try.prog wq = .ok r wq := fun wq => by rw [← hsk]; exact ixEq a b wq
 clear hsk hr
 clear HE
 go_wp2
 go_ret
 exact ⟨rfl, hB⟩
theorem ixKey_at (a : KeyM) (w : World) : Calls Try.prog 49 #[ixV a] w fun e w' => e = .returned (ixV a) ∧ Below w.heap.size w w' := by
 obtain ⟨w1, e1, B1, z1, X1⟩ := box_new w #[.int .i64 a.k, .int .i64 a.n, .string a.s, .int .i64 a.ar] 76
 obtain ⟨x0, x1, x2, x3, _⟩ := X1.four
 have HE := Lib.hid e1
 have HZ := Lib.hid z1
 have hB := B1
 clear e1 B1 z1 X1
 go_enter Try.func49, Try.ntmps49
 go_upto_region 1 with fail
 (try rw [HE.out])
 obtain ⟨w2, e2, B2, z2, X2⟩ := box_new w1 #[.int .i64 0, .int .i64 0, .string ⟨#[]⟩, .int .i64 0] 91
 (try rw [e2])
 rw [HZ.out] at X2
 obtain ⟨y0, y1, y2, y3, yf⟩ := X2.four
 replace x0 := cell_later B2 x0
 replace x1 := cell_later B2 x1
 replace x2 := cell_later B2 x2
 replace x3 := cell_later B2 x3
 have hs := hB.size
 have hs' : w.heap.size ≤ w.heap.size + 1 := by omega
 have hb2 := Below.set4 (b := w.heap.size + 1) (Ext.trans' hB B2) hs' (.int .i64 a.k) (.int .i64 a.n) (.string a.s) (.int .i64 a.ar)
 clear HE e2 X2 z2 B2
 go_wp2
 refine bodyPost_ret (v := ixV a) (by rw [results_cell1 rfl]; go_simp) rfl ⟨rfl, hb2⟩
end Go.Proofs.Ytchbbaehdcmcfaa
