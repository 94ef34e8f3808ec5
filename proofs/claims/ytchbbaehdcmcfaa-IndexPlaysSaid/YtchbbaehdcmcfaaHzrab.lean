import Derived.Test.YtchbbaehdcmcfaaHzraa
import Derived.Lib.Strings
import Derived.Deep.RegionHeld3
import Derived.Deep.Quiet
import Derived.Below
import Derived.BigQuiet
import Derived.Deep.QuietTactic
import Derived.Shelf.Spec.SlicesGrow
import Derived.Maps.AppendAt
import Derived.Laws.CopyOwn
import Derived.Laws.CopyRow
import Derived.Laws.Pointers
import Derived.Deep.OwnRows
import Derived.OwnWalk
import Derived.Deep.Upon
import Derived.Deep.AppendSrc
import Derived.Test.YtchbbaehdcmcfaaRows
import Derived.WideKeyPair
import Derived.DeepKeys4
set_option linter.unusedVariables false
set_option linter.unusedSimpArgs false
/- Package term: Size. -/
namespace Go.Proofs.Ytchbbaehdcmcfaa
open Go.RowKit
set_option linter.unusedVariables false
theorem sizes_drop' : ∀ {ts : List Tm} {i : Nat} {y : Tm}, ts[i]? = some y → sizesN (ts.take (i + 1)) = sizesN (ts.take i) + sizeN y
 | x :: r, 0, y, h => by
  simp at h; subst h
  simp [sizesN]
 | x :: r, i + 1, y, h => by
  have := sizes_drop' (ts := r) (i := i) (y := y) (by simpa using h)
  simp only [List.take_succ_cons, sizesN, this]
  omega
 | [], i, y, h => by simp at h
theorem sizes_take' (ts : List Tm) (i : Nat) : sizesN (ts.take i) ≤ sizesN ts := by
 induction ts generalizing i with
 | nil => simp
 | cons x r ih =>
  cases i with
  | zero => simp [sizesN]
  | succ i =>
   simp only [List.take_succ_cons, sizesN]
   have := ih i
   omega
theorem TmV.four {w : World} {x : Tm} {v : Value} (h : TmV w x v) : ∃ k n s u, v = .agg #[.int .i64 k, .int .i64 n, .string s, u] := by
 obtain ⟨u, rfl⟩ := h.pair
 exact ⟨_, _, _, _, rfl⟩
set_option maxHeartbeats 2000000 in
set_option maxRecDepth 100000 in
theorem count_at : ∀ (N : Nat) (x : Tm), sizeN x ≤ N → ∀ (q : Nat), 1 ≤ q → q ≤ 1000000 → ∀ (w : World) (v : Value), TmV w x v →
  Calls Try.prog 68 #[v, .int .i64 q] w fun e w' => e = .returned (.int .i64 (min (sizeN x) q : Nat)) ∧ Below w.heap.size w w'
 | 0, x, h, q, hq1, hq, w, v, hv => by have := size_pos x; omega
 | N + 1, .mk k n s ts, h, q, hq1, hq, w, v, hv => by
  obtain ⟨u, rfl, hs, hk, hn, hu⟩ := tmV_iff.1 hv
  obtain ⟨a, c, rfl, h1, h2, h3⟩ := hu.len
  unfold BIG at h3
  obtain ⟨m, hm⟩ : ∃ m, ts.length = m := ⟨_, rfl⟩
  have IH := Lib.hid (fun (y : Tm) (hy : y ∈ ts) => count_at N y (mem_size h hy))
  have HU := Lib.hid hu
  have HM := Lib.hid hm
  rw [hm] at h1 h3 hu HU ⊢
  obtain ⟨r, hr⟩ : ∃ r, min (sizeN (.mk k n s ts)) q = r := ⟨_, rfl⟩
  rw [hr]
  have HR := Lib.hid (show min (sizesN ts + 1) q = r by rw [← hr, sizeN])
  clear hv hu hm hr h
  go_enter Try.func68, Try.ntmps68
  go_wp2_with fail
  go_loopw [5, 11] (fun z v wr => ∃ i t : Nat, i ≤ m ∧ v = .int .i64 i ∧ z = .int .i64 t ∧ Hid (t = min (sizesN (ts.take i) + 1) q) ∧ t ≤ q ∧ Hid (Below (w.alloc (.cells #[.int .i64 k, .int .i64 n, .string s, .slice a m c] 31)).heap.size (w.alloc (.cells #[.int .i64 k, .int .i64 n, .string s, .slice a m c] 31)) wr)) (fun _ v _ => m - (RowKit.intOf v).toNat)
  case atStart => exact ⟨0, 1, Nat.zero_le _, rfl, rfl, Lib.hid (by simp [sizesN]; omega), by omega, Lib.hid (Below.refl _ _)⟩
  case round =>
   obtain ⟨i, t, hi, rfl, rfl, HT, ht, HB⟩ := hrel
   have HBW := Lib.hid (Ext.trans' (bel1' w _) HB.out)
   by_cases hil : i < m
   ·obtain ⟨y, hy⟩ : ∃ y, ts[i]? = some y := ⟨_, List.getElem?_eq_getElem (by rw [HM.out]; exact hil)⟩
    have hst := sizes_take' ts (i + 1)
    have hds := sizes_drop' hy
    obtain ⟨b, off, k', n', s', u', rfl, hbb, _, _, _, c0, c1, c2, c3, htu, hty⟩ := (HU.out.ext HBW.out).get hy
    obtain ⟨au, cu, rfl, _⟩ := htu.len
    clear htu
    by_cases htq : t < q
    ·obtain ⟨d, hd⟩ : ∃ d, q - t = d := ⟨_, rfl⟩
     have hqt : (q : Int) - t = d := by omega
     have htq' : ((t : Int) == q) = false := by apply beq_false_of_ne; omega
     have HNE := Lib.hid (show ¬ t = q by omega)
     have ih := IH.out y (List.mem_of_getElem? hy) d (by omega) (by omega) _ _ (TmV.ext (bel1' wr (box4 k' n' s' (.slice au y.args.length cu) 31)) _ _ hty)
     obtain ⟨z, hz⟩ : ∃ z, min (sizeN y) d = z := ⟨_, rfl⟩
     rw [hz] at ih
     have HN : Hid (t + z = min (sizesN (ts.take (i + 1)) + 1) q) := Lib.hid (by
      have := HT.out
      rw [hds]
      omega)
     have hzd : z ≤ d := by omega
     have hzq : t + z ≤ q := by omega
     clear hst hds hz hy hty hd HT
     (go_wp2_with fail; go_fit (ih); rintro e w2 ⟨rfl, b2⟩)
     have B2 := Lib.hid (Ext.trans' HB.out (Ext.trans' (bel1' _ _) b2))
     clear b2
     go_wp2
     go_roundw
     case rel => exact ⟨i + 1, t + z, by omega, by go_num, by go_num, HN, hzq, B2⟩
     case measure => simp [RowKit.intOf]; omega
    ·have hrt : q = r := by
      have a1 := HT.out
      have a2 := HR.out
      have a3 := sizes_take' ts i
      omega
     have htq2 : t = q := by omega
     subst hrt htq2
     clear hst hds hy hty
     go_wp2
     go_ret
     exact ⟨rfl, Ext.trans' HBW.out (bel1' _ _)⟩
   ·have hrt : t = r := by
     have a1 := HT.out
     have a2 := HR.out
     rw [List.take_of_length_le (by rw [HM.out]; omega)] at a1
     omega
    subst hrt
    go_wp2
    go_ret
    exact ⟨rfl, HBW.out⟩
theorem size_at (x : Tm) (w : World) (v : Value) (hv : TmV w x v) : Calls Try.prog 30 #[v] w fun e w' => e = .returned (.int .i64 (min (sizeN x) 2001 : Nat)) ∧ Below w.heap.size w w' := by
 have C := fun w (h : TmV w x v) => count_at _ x (Nat.le_refl _) 2001 (by omega) (by omega) w v h
 obtain ⟨z, hz⟩ : ∃ z, min (sizeN x) 2001 = z := ⟨_, rfl⟩
 rw [hz] at C ⊢
 obtain ⟨k, n, s, u, rfl⟩ := hv.four
 have hv0 := TmV.ext (bel1' w (box4 k n s u 31)) _ _ hv
 clear hz hv
 go_enter Try.func30, Try.ntmps30
 (go_wp2_with fail; go_fit (C _ hv0); rintro e w1 ⟨rfl, b1⟩)
 have B1 := Lib.hid (Ext.trans' (bel1' w _) b1)
 clear b1
 go_wp2
 go_ret
 exact ⟨rfl, B1.out⟩
end Go.Proofs.Ytchbbaehdcmcfaa
/- Package term: what fits. -/
namespace Go.Proofs.Ytchbbaehdcmcfaa
open Go.RowKit
set_option linter.unusedVariables false
theorem isEmpty_size' (s : ByteArray) : s.data.toList.isEmpty = decide (s.size = 0) := by
 have h : s.data.toList.length = s.size := rfl
 cases hq : s.data.toList with
 | nil => rw [hq] at h; simp at h; simp [← h]
 | cons a r =>
  rw [hq, List.length_cons] at h
  rw [decide_eq_false (by omega)]
  rfl
theorem toList_empty' {s : ByteArray} (h : s.size = 0) : s.toList.isEmpty = true := by rw [Lib.toList_data, isEmpty_size']; simpa using h
theorem toList_some' {s : ByteArray} (h : ¬ s.size = 0) : s.toList.isEmpty = false := by rw [Lib.toList_data, isEmpty_size']; simpa using h
theorem letter_eq' : ∀ c : UInt8, letterB c = (((c.toNat : Int) == 9) || ((c.toNat : Int) == 10) || (!decide ((c.toNat : Int) < 32) && !decide (126 < (c.toNat : Int)))) := by
 intro c
 have h : ((List.range 256).all fun n => letterB (UInt8.ofNat n) == ((((UInt8.ofNat n).toNat : Int) == 9) || (((UInt8.ofNat n).toNat : Int) == 10) || (!decide (((UInt8.ofNat n).toNat : Int) < 32) && !decide (126 < ((UInt8.ofNat n).toNat : Int))))) = true := by decide +kernel
 have hc := List.all_eq_true.1 h c.toNat (List.mem_range.2 (UInt8.toNat_lt c))
 rw [UInt8.ofNat_toNat] at hc
 exact eq_of_beq hc
def fitB (s : ByteArray) : Bool := decide (s.size ≤ 64) && s.data.toList.all letterB
set_option maxHeartbeats 2000000 in
theorem fitsName_at (s : ByteArray) (hs : s.size ≤ 140737488351232) (w : World) : Calls Try.prog 123 #[.string s] w fun e w' => e = .returned (.bool (fitB s)) ∧ w = w' := by
 by_cases hbig : 64 < s.size
 ·have hr : fitB s = false := by unfold fitB; rw [decide_eq_false (by omega)]; rfl
  rw [hr]
  clear hr
  go_enter Try.func123, Try.ntmps123
  go_wp2
  go_ret
  exact ⟨rfl, rfl⟩
 obtain ⟨r, hr⟩ : ∃ r, fitB s = r := ⟨_, rfl⟩
 rw [hr]
 have HR : Hid (s.data.toList.all letterB = r) := Lib.hid (by rw [← hr]; unfold fitB; rw [decide_eq_true (by omega)]; rfl)
 clear hr
 go_enter Try.func123, Try.ntmps123
 go_wp2_with fail
 go_loop [10] (fun z => ∃ i : Nat, i ≤ s.size ∧ z = .int .i64 i ∧ Hid (∀ j (hj : j < s.size), j < i → letterB s[j] = true)) (fun z => s.size - (RowKit.intOf z).toNat)
 case atStart => exact ⟨0, Nat.zero_le _, rfl, Lib.hid (fun j _ h => by omega)⟩
 case round =>
  obtain ⟨i, hi, rfl, HL⟩ := hrel
  by_cases hil : i < s.size
  ·cases hq : letterB s[i]
   ·have hlq := letter_eq' s[i]
    rw [hq] at hlq
    have hall : s.data.toList.all letterB = false := by
     rw [List.all_eq_false]
     exact ⟨s.data.toList[i]'hil, List.getElem_mem _, by show ¬ letterB s[i] = true; rw [hq]; simp⟩
    have hrf : r = false := by rw [← HR.out, hall]
    subst hrf
    obtain ⟨z, hz⟩ : ∃ z : Int, (s[i].toNat : Int) = z := ⟨_, rfl⟩
    rw [hz] at hlq
    have e9 : (z == 9) = false := by
     cases h : (z == 9)
     ·rfl
     ·rw [h] at hlq; cases hlq
    have e10 : (z == 10) = false := by
     cases h : (z == 10)
     ·rfl
     ·rw [h, Bool.or_true] at hlq; cases hlq
    rw [e9, e10, Bool.false_or, Bool.false_or] at hlq
    have n9 : (z != 9) = true := by unfold bne; rw [e9]; rfl
    have n10 : (z != 10) = true := by unfold bne; rw [e10]; rfl
    clear e9 e10
    clear hall hq HR HL
    by_cases h32 : z < 32
    ·clear hlq
     go_wp2
     go_ret
     exact ⟨rfl, rfl⟩
    ·have h126 : 126 < z := by
      simp [h32] at hlq
      omega
     clear hlq
     go_wp2
     go_ret
     exact ⟨rfl, rfl⟩
   ·have hlq := letter_eq' s[i]
    rw [hq] at hlq
    have HN : Hid (∀ j (hj : j < s.size), j < i + 1 → letterB s[j] = true) := Lib.hid (fun j hj h => by
     by_cases e : j = i
     ·subst e; exact hq
     ·exact HL.out j hj (by omega))
    obtain ⟨z, hz⟩ : ∃ z : Int, (s[i].toNat : Int) = z := ⟨_, rfl⟩
    rw [hz] at hlq
    clear hq HL
    by_cases e9 : z = 9
    ·subst e9
     clear hlq
     go_wp2
     go_round
     case rel => exact ⟨i + 1, by omega, by go_num, HN⟩
     case measure => simp [RowKit.intOf]; omega
    have e9' : (z == 9) = false := beq_false_of_ne e9
    by_cases e10 : z = 10
    ·subst e10
     clear hlq
     go_wp2
     go_round
     case rel => exact ⟨i + 1, by omega, by go_num, HN⟩
     case measure => simp [RowKit.intOf]; omega
    have e10' : (z == 10) = false := beq_false_of_ne e10
    rw [e9', e10'] at hlq
    have h32 : ¬ z < 32 := fun hh => by simp [hh] at hlq
    have h126 : ¬ 126 < z := fun hh => by simp [hh] at hlq
    have n9 : (z != 9) = true := by unfold bne; rw [e9']; rfl
    have n10 : (z != 10) = true := by unfold bne; rw [e10']; rfl
    clear hlq e9 e10 e9' e10'
    go_wp2
    go_round
    case rel => exact ⟨i + 1, by omega, by go_num, HN⟩
    case measure => simp [RowKit.intOf]; omega
  ·have hall : s.data.toList.all letterB = true := by
    rw [List.all_eq_true]
    intro x hx
    obtain ⟨j, hj, rfl⟩ := List.getElem_of_mem hx
    exact HL.out j hj (by have : j < s.size := hj; omega)
   have hrt : r = true := by rw [← HR.out, hall]
   subst hrt
   clear hall HR HL
   go_wp2
   go_ret
   exact ⟨rfl, rfl⟩
set_option maxHeartbeats 4000000 in
set_option maxRecDepth 100000 in
theorem fits_at {k n : Int} {s : ByteArray} {a : Option Addr} {m c : Nat} (hs : s.size ≤ 140737488351232) (hn : I64 n) (h1 : m ≤ c) (h2 : c ≤ maxLen) (h3 : m * 56 ≤ 140737488351232) (w : World) :
  Calls Try.prog 101 #[.agg #[.int .i64 k, .int .i64 n, .string s, .slice a m c]] w fun e w' => e = .returned (.bool (plainT k n s.data.toList m)) ∧ Below w.heap.size w w' := by
 have F := fun w => fitsName_at s hs w
 by_cases k0 : k = 0
 ·subst k0
  have hp : plainT 0 n s.data.toList m = (decide (0 ≤ n) && decide (n < 2147483648) && decide (s.size = 0) && decide (m = 0)) := by
   unfold plainT; rw [if_pos rfl, isEmpty_size']
  by_cases g1 : 0 ≤ n
  ·by_cases g2 : n < 2147483648
   ·have g2' : n ≤ 2147483647 := by omega
    by_cases g3 : s.size = 0
    ·have g3' := toList_empty' g3
     by_cases g4 : m = 0
     ·have hr : plainT 0 n s.data.toList m = true := by rw [hp]; simp [g1, g2, g3, g4]
      rw [hr]
      subst g4
      clear hp g3 hr F
      go_enter Try.func101, Try.ntmps101
      go_wp2
      go_ret
      exact ⟨rfl, bel1' _ _⟩
     ·have hr : plainT 0 n s.data.toList m = false := by rw [hp]; simp [g4]
      rw [hr]
      have g4' : ((m : Int) == 0) = false := by apply beq_false_of_ne; omega
      clear hp g3 hr F
      go_enter Try.func101, Try.ntmps101
      go_wp2
      go_ret
      exact ⟨rfl, bel1' _ _⟩
    ·have hr : plainT 0 n s.data.toList m = false := by rw [hp]; simp [g3]
     rw [hr]
     have g3' := toList_some' g3
     clear hp hr F
     go_enter Try.func101, Try.ntmps101
     go_wp2
     go_ret
     exact ⟨rfl, bel1' _ _⟩
   ·have hr : plainT 0 n s.data.toList m = false := by rw [hp]; simp [g2]
    rw [hr]
    have g2' : ¬ n ≤ 2147483647 := by omega
    clear hp hr F
    go_enter Try.func101, Try.ntmps101
    go_wp2
    go_ret
    exact ⟨rfl, bel1' _ _⟩
  ·have hr : plainT 0 n s.data.toList m = false := by rw [hp]; simp [g1]
   rw [hr]
   clear hp hr F
   go_enter Try.func101, Try.ntmps101
   go_wp2
   go_ret
   exact ⟨rfl, bel1' _ _⟩
 by_cases k1 : k = 1
 ·subst k1
  have hp : plainT 1 n s.data.toList m = (decide (s.size = 0) && decide (m = 0)) := by
   unfold plainT; rw [if_neg (by decide), if_pos rfl, isEmpty_size']
  by_cases g3 : s.size = 0
  ·have g3' := toList_empty' g3
   by_cases g4 : m = 0
   ·have hr : plainT 1 n s.data.toList m = true := by rw [hp]; simp [g3, g4]
    rw [hr]
    subst g4
    clear hp g3 hr F
    go_enter Try.func101, Try.ntmps101
    go_wp2
    go_ret
    exact ⟨rfl, bel1' _ _⟩
   ·have hr : plainT 1 n s.data.toList m = false := by rw [hp]; simp [g4]
    rw [hr]
    have g4' : ((m : Int) == 0) = false := by apply beq_false_of_ne; omega
    clear hp g3 hr F
    go_enter Try.func101, Try.ntmps101
    go_wp2
    go_ret
    exact ⟨rfl, bel1' _ _⟩
  ·have hr : plainT 1 n s.data.toList m = false := by rw [hp]; simp [g3]
   rw [hr]
   have g3' := toList_some' g3
   clear hp hr F
   go_enter Try.func101, Try.ntmps101
   go_wp2
   go_ret
   exact ⟨rfl, bel1' _ _⟩
 have k0' : (k == 0) = false := beq_false_of_ne k0
 have k1' : (k == 1) = false := beq_false_of_ne k1
 by_cases k2 : k = 2
 ·subst k2
  have hp : plainT 2 n s.data.toList m = (decide (n = 0) && decide (m ≤ 8) && fitB s) := by
   unfold plainT fitB; rw [if_neg (by decide), if_neg (by decide), if_pos rfl]
   have e : s.data.toList.length = s.size := rfl
   rw [e]
   cases decide (n = 0) <;> cases decide (s.size ≤ 64) <;> cases decide (m ≤ 8) <;> simp
  by_cases g1 : n = 0
  ·subst g1
   by_cases g3 : m ≤ 8
   ·have hr : plainT 2 0 s.data.toList m = fitB s := by rw [hp, decide_eq_true g3]; simp
    rw [hr]
    have g3i : (m : Int) ≤ 8 := by omega
    clear hr hp k0 k1 k0' k1'
    generalize fitB s = r at F ⊢
    cases r
    ·go_enter Try.func101, Try.ntmps101
     (go_wp2_with fail; go_fit (F _); rintro e w1 ⟨rfl, rfl⟩)
     go_wp2
     go_ret
     exact ⟨rfl, bel1' _ _⟩
    ·go_enter Try.func101, Try.ntmps101
     (go_wp2_with fail; go_fit (F _); rintro e w1 ⟨rfl, rfl⟩)
     go_wp2
     go_ret
     exact ⟨rfl, bel1' _ _⟩
   ·have hr : plainT 2 0 s.data.toList m = false := by rw [hp, decide_eq_false g3]; simp
    rw [hr]
    have g3i : (8 : Int) < m := by omega
    clear hr hp k0 k1 k0' k1'
    generalize fitB s = r at F
    cases r
    ·go_enter Try.func101, Try.ntmps101
     (go_wp2_with fail; go_fit (F _); rintro e w1 ⟨rfl, rfl⟩)
     go_wp2
     go_ret
     exact ⟨rfl, bel1' _ _⟩
    ·go_enter Try.func101, Try.ntmps101
     (go_wp2_with fail; go_fit (F _); rintro e w1 ⟨rfl, rfl⟩)
     go_wp2
     go_ret
     exact ⟨ret_bool (decide_eq_false (by omega)), bel1' _ _⟩
  ·have hr : plainT 2 n s.data.toList m = false := by rw [hp]; simp [g1]
   rw [hr]
   have g1' : (n == 0) = false := beq_false_of_ne g1
   clear hp hr k0 k1 k0' k1' F
   go_enter Try.func101, Try.ntmps101
   go_wp2
   go_ret
   exact ⟨rfl, bel1' _ _⟩
 ·have hr : plainT k n s.data.toList m = false := by unfold plainT; rw [if_neg k0, if_neg k1, if_neg k2]
  rw [hr]
  have k2' : (k == 2) = false := beq_false_of_ne k2
  clear hr k0 k1 k2 F
  go_enter Try.func101, Try.ntmps101
  go_wp2
  go_ret
  exact ⟨rfl, bel1' _ _⟩
end Go.Proofs.Ytchbbaehdcmcfaa
/- Package term: what is good. -/
namespace Go.Proofs.Ytchbbaehdcmcfaa
open Go.RowKit
set_option linter.unusedVariables false
def okT (t : Tm) (q : Nat) : Bool := decide (depthN t ≤ q) && formedT t
def okL : List Tm → Nat → Bool
 | [], _ => true
 | x :: r, q => okT x q && okL r q
theorem okL_eq : ∀ (l : List Tm) (q : Nat), okL l q = (decide (depthsN l ≤ q) && formedL l)
 | [], q => by simp [okL, depthsN, formedL]
 | x :: r, q => by
  rw [okL, okL_eq r q, depthsN, formedL]
  unfold okT
  by_cases h1 : depthN x ≤ q
  ·by_cases h2 : depthsN r ≤ q
   ·rw [decide_eq_true h1, decide_eq_true h2, decide_eq_true (by omega)]
    cases formedT x <;> cases formedL r <;> rfl
   ·rw [decide_eq_true h1, decide_eq_false h2, decide_eq_false (by omega)]
    cases formedT x <;> rfl
  ·have e : decide (max (depthN x) (depthsN r) ≤ q) = false := decide_eq_false (by omega)
   rw [decide_eq_false h1, e]
   rfl
theorem okT_zero (t : Tm) : okT t 0 = false := by
 unfold okT
 have := depth_pos t
 rw [decide_eq_false (by omega)]
 rfl
theorem okT_succ (k n : Int) (s : ByteArray) (ts : List Tm) (q : Nat) : okT (.mk k n s ts) (q + 1) = (plainT k n s.data.toList ts.length && okL ts q) := by
 unfold okT
 rw [okL_eq, formedT, depthN]
 by_cases h : depthsN ts ≤ q
 ·rw [decide_eq_true h, decide_eq_true (by omega)]
  cases plainT k n s.data.toList ts.length <;> rfl
 ·rw [decide_eq_false h, decide_eq_false (by omega)]
  cases plainT k n s.data.toList ts.length <;> rfl
set_option maxHeartbeats 4000000 in
set_option maxRecDepth 100000 in
theorem good_at : ∀ (q : Nat) (x : Tm), q ≤ 1000000 → ∀ (w : World) (v : Value), TmV w x v →
  Calls Try.prog 66 #[v, .int .i64 q] w fun e w' => e = .returned (.bool (okT x q)) ∧ Below w.heap.size w w'
 | 0, x, hq, w, v, hv => by
  obtain ⟨k, n, s, u, rfl⟩ := hv.four
  rw [okT_zero]
  clear hv
  go_enter Try.func66, Try.ntmps66
  go_wp2
  go_ret
  exact ⟨rfl, bel1' _ _⟩
 | q + 1, .mk k n s ts, hq, w, v, hv => by
  obtain ⟨u, rfl, hs, hk, hn, hu⟩ := tmV_iff.1 hv
  obtain ⟨a, c, rfl, h1, h2, h3⟩ := hu.len
  unfold BIG at h3 hs
  rw [okT_succ]
  obtain ⟨m, hm⟩ : ∃ m, ts.length = m := ⟨_, rfl⟩
  have IH := Lib.hid (fun (y : Tm) => good_at q y (by omega))
  have HU := Lib.hid hu
  have HM := Lib.hid hm
  rw [hm] at h1 h3 hu HU ⊢
  have F := fun w => fits_at (k := k) (n := n) (s := s) (a := a) (m := m) (c := c) hs hn h1 h2 h3 w
  obtain ⟨p, hp⟩ : ∃ p, plainT k n s.data.toList m = p := ⟨_, rfl⟩
  rw [hp] at F ⊢
  obtain ⟨Q, hQ⟩ : ∃ Q : Int, ((q + 1 : Nat) : Int) = Q := ⟨_, rfl⟩
  rw [hQ]
  have hq1 : Q - 1 = q := by omega
  have hQ0 : (Q == 0) = false := by apply beq_false_of_ne; omega
  have hQb : Q ≤ 1000001 := by omega
  have hQ1 : 0 < Q := by omega
  clear hv hu hm hp hQ
  cases p
  ·rw [Bool.false_and]
   go_enter Try.func66, Try.ntmps66
   (go_wp2_with fail; go_fit (F _); rintro e w1 ⟨rfl, b1⟩)
   have B1 := Lib.hid (Ext.trans' (bel1' w _) b1)
   clear b1
   go_wp2
   go_ret
   exact ⟨rfl, B1.out⟩
  ·rw [Bool.true_and]
   obtain ⟨r, hr⟩ : ∃ r, okL ts q = r := ⟨_, rfl⟩
   rw [hr]
   have HR := Lib.hid hr
   clear hr
   go_enter Try.func66, Try.ntmps66
   (go_wp2_with fail; go_fit (F _); rintro e w1 ⟨rfl, b1⟩)
   obtain ⟨e0, e1, e2, e3⟩ := box_cells w 31 _ _ _ _ b1
   have B1 := Lib.hid (Ext.trans' (bel1' w _) b1)
   clear b1 F
   go_wp2_with fail
   go_loopw [17] (fun v wr => ∃ i : Nat, i ≤ m ∧ v = .int .i64 i ∧ Hid (okL (ts.drop i) q = r) ∧ Hid (Below w.heap.size w wr)) (fun v _ => m - (RowKit.intOf v).toNat)
   case atStart => exact ⟨0, Nat.zero_le _, rfl, Lib.hid (by rw [List.drop_zero]; exact HR.out), B1⟩
   case round =>
    obtain ⟨i, hi, rfl, HD, HB⟩ := hrel
    by_cases hil : i < m
    ·obtain ⟨y, hy⟩ : ∃ y, ts[i]? = some y := ⟨_, List.getElem?_eq_getElem (by rw [HM.out]; exact hil)⟩
     have hdr : ts.drop i = y :: ts.drop (i + 1) := by
      obtain ⟨hlt', rfl⟩ := List.getElem?_eq_some_iff.1 hy
      exact List.drop_eq_getElem_cons hlt'
     have hd := HD.out
     rw [hdr, okL] at hd
     obtain ⟨b, off, k', n', s', u', rfl, hbb, _, _, _, c0, c1, c2, c3, htu, ht⟩ := (HU.out.ext HB.out).get hy
     obtain ⟨au, cu, rfl, _⟩ := htu.len
     clear htu
     have ih := IH.out y _ _ (TmV.ext (bel1' wr (box4 k' n' s' (.slice au y.args.length cu) 31)) _ _ ht)
     clear hdr HD ht
     cases hq : okT y q
     ·rw [hq, Bool.false_and] at hd
      rw [hq] at ih
      subst hd
      clear hq hy HR
      (go_wp2_with fail; go_fit (ih); rintro e w2 ⟨rfl, b2⟩)
      have B2 := Lib.hid (Ext.trans' HB.out (Ext.trans' (bel1' _ _) b2))
      clear b2
      go_wp2
      go_ret
      exact ⟨rfl, B2.out⟩
     ·rw [hq, Bool.true_and] at hd
      rw [hq] at ih
      have HD := Lib.hid hd
      clear hq hd hy
      (go_wp2_with fail; go_fit (ih); rintro e w2 ⟨rfl, b2⟩)
      have B2 := Lib.hid (Ext.trans' HB.out (Ext.trans' (bel1' _ _) b2))
      clear b2
      go_wp2
      go_roundw
      case rel => exact ⟨i + 1, by omega, by go_num, HD, B2⟩
      case measure => simp [RowKit.intOf]; omega
    ·have hd := HD.out
     rw [List.drop_eq_nil_of_le (by rw [HM.out]; omega), okL] at hd
     subst hd
     clear HR HD
     go_wp2
     go_ret
     exact ⟨rfl, HB.out⟩
theorem Good_at (x : Tm) (w : World) (v : Value) (hv : TmV w x v) : Calls Try.prog 27 #[v] w fun e w' => e = .returned (.bool (goodT x)) ∧ Below w.heap.size w w' := by
 have S := fun w (h : TmV w x v) => size_at x w v h
 have G := fun w (h : TmV w x v) => good_at 64 x (by omega) w v h
 have hg : goodT x = (decide (sizeN x ≤ 2000) && okT x 64) := by
  unfold goodT okT
  rw [Bool.and_assoc]
 obtain ⟨k, n, s, u, rfl⟩ := hv.four
 have hv0 := TmV.ext (bel1' w (box4 k n s u 31)) _ _ hv
 obtain ⟨p, hp⟩ : ∃ p, min (sizeN x) 2001 = p := ⟨_, rfl⟩
 rw [hp] at S
 rw [hg]
 generalize okT x 64 = f at G ⊢
 clear hg hv
 by_cases h1 : p ≤ 2000
 ·rw [decide_eq_true (by omega), Bool.true_and]
  clear hp
  go_enter Try.func27, Try.ntmps27
  (go_wp2_with fail; go_fit (S _ hv0); rintro e w1 ⟨rfl, b1⟩)
  obtain ⟨e0, e1, e2, e3⟩ := box_cells w 31 _ _ _ _ b1
  have hv1 := TmV.ext b1 _ _ hv0
  (go_wp2_with fail; go_fit (G _ hv1); rintro e w2 ⟨rfl, b2⟩)
  have B2 := Lib.hid (Ext.trans' (bel1' w _) (Ext.trans' b1 b2))
  clear b1 b2
  go_wp2
  go_ret
  exact ⟨rfl, B2.out⟩
 ·rw [decide_eq_false (by omega), Bool.false_and]
  clear hp
  go_enter Try.func27, Try.ntmps27
  (go_wp2_with fail; go_fit (S _ hv0); rintro e w1 ⟨rfl, b1⟩)
  obtain ⟨e0, e1, e2, e3⟩ := box_cells w 31 _ _ _ _ b1
  have B1 := Lib.hid (Ext.trans' (bel1' w _) b1)
  clear b1
  go_wp2
  go_ret
  exact ⟨rfl, B1.out⟩
end Go.Proofs.Ytchbbaehdcmcfaa
/- A region that draws its order, walked operation by operation while a condition holds. Nothing here speaks of one program. -/
namespace Go
section
variable {P : Program} {md : Region.Mode} {ops : Array Oper} {Q : Exit → Act → World → Prop} {S : World → Prop}
theorem held_t {i : Nat} {oi : Oper} {fuel : Nat} {listed : Array Bool} {a : Act} {w : World} (hS : S w)
  (h : ∃ v, (∀ w, S w → (execOp a.eval oi).run P w = .ok (.value v) w) ∧ wpAnyH P md ops Q S fuel (listed.setIfInBounds i true) (a.put oi.dst v) w)
  (hi : ops[i]? = some oi := by simp only [List.getElem?_toArray, List.getElem?_cons_zero, List.getElem?_cons_succ]; rfl)
  (hs : Region.noSelect ops = true := by kernel_rfl) (hf : Region.free md ops listed i = true := by kernel_rfl) (hr : (Region.ready md ops listed).contains i = true := by kernel_rfl) (hw : Region.wanted oi (yielded ops a.tmps) = true := by rfl)
  (hQ : ∀ v c a w, Q (.panic c) (a.put oi.dst v) w → Q (.panic c) a w := by exact fun _ _ _ _ h => h) : wpAnyH P md ops Q S (fuel + 1) listed a w := by
 obtain ⟨v, h1, h2⟩ := h
 exact wpAnyH_take hi hs hf hr (hQ v) (Or.inl ⟨hw, h1⟩) hS h2
theorem held_s {i : Nat} {oi : Oper} {fuel : Nat} {listed : Array Bool} {a : Act} {w : World} (hS : S w) (h : wpAnyH P md ops Q S fuel (listed.setIfInBounds i true) (a.put oi.dst undef) w)
  (hi : ops[i]? = some oi := by simp only [List.getElem?_toArray, List.getElem?_cons_zero, List.getElem?_cons_succ]; rfl)
  (hs : Region.noSelect ops = true := by kernel_rfl) (hf : Region.free md ops listed i = true := by kernel_rfl) (hr : (Region.ready md ops listed).contains i = true := by kernel_rfl) (hw : Region.wanted oi (yielded ops a.tmps) = false := by rfl)
  (hQ : ∀ c a w, Q (.panic c) (a.put oi.dst undef) w → Q (.panic c) a w := by exact fun _ _ _ h => h) : wpAnyH P md ops Q S (fuel + 1) listed a w :=
 wpAnyH_take hi hs hf hr hQ (Or.inr ⟨hw, rfl⟩) hS h
theorem held_c (i : Nat) {o : Oper} {fuel : Nat} {listed : Array Bool} {a : Act} {w : World}
  (h : ∀ K' : Act → World → Prop, Shut (∀ a w, S w → (S w → wpAnyH P md ops Q S fuel (listed.setIfInBounds i true) a w) → K' a w) → if Region.wanted o (yielded ops a.tmps) = true then Oper.wp P o a w K' Q else K' (a.put o.dst undef) w)
  (hr : Region.ready md ops listed = [i] := by kernel_rfl) (hi : ops[i]? = some o := by simp only [List.getElem?_toArray, List.getElem?_cons_zero, List.getElem?_cons_succ]; rfl) : wpAnyH P md ops Q S (fuel + 1) listed a w :=
 wpAnyH_ready hr (by simp) (AllReadyH.cons hi h AllReadyH.nil)
end
end Go
/- Drawn together by pull.py from XPrM XPrN XPrB XPrE XPrF XPrG XPrH XPsB. -/
namespace Go.Proofs.Ytchbbaehdcmcfaa
open Go.RowKit
set_option linter.unusedVariables false
theorem row_at {w w' : World} {B k n : Nat} {e : TypeId} {v : Value} {xs : List Value} (h : w.ownsRow B e k v n xs) (hb : ∀ g, v.ownBlock = some g → w'.heap[g]? = w.heap[g]?) : w'.ownsRow B e k v n xs := by
 obtain ⟨h0, h1⟩ := h
 refine ⟨h0, ?_⟩
 rcases h1 with h1 | ⟨g, cap, cur, rfl, hg, hh, h2⟩
 ·exact Or.inl h1
 ·exact Or.inr ⟨g, cap, cur, rfl, hg, by rw [hb g rfl]; exact hh, h2⟩
theorem row_in {w : World} {B k n : Nat} {e : TypeId} {v : Value} {xs : List Value} (h : w.ownsRow B e k v n xs) {g : Nat} (hg : v.ownBlock = some g) : B ≤ g ∧ g < w.heap.size := by
 rcases h.2 with ⟨rfl, _⟩ | ⟨g', cap, cur, rfl, h1, h2, _⟩
 ·cases hg
 ·cases hg
  exact ⟨h1, (Array.getElem?_eq_some_iff.1 h2).1⟩
structure Box (w : World) (b : Nat) (vs : List Value) : Prop where
 cells : ∀ j u, vs[j]? = some u → w.cell? ⟨b, j, none⟩ = some u
 fz : ∀ j, w.frozen? ⟨b, j, none⟩ = false
 lt : b < w.heap.size
theorem box_new (w : World) (cs : Array Value) (ty : TypeId) : ∃ w1, w.alloc (.cells cs ty) = w1 ∧ Below w.heap.size w w1 ∧ w1.heap.size = w.heap.size + 1 ∧ Box w1 w.heap.size cs.toList := by
 refine ⟨_, rfl, bel1' _ _, by simp, fun j u h => ?_, fun j => by simp, by simp⟩
 have := cell_new w cs ty j u h
 rw [add_plain, Nat.zero_add] at this
 exact this
theorem Box.ext {w w' : World} {b : Nat} {vs : List Value} (h : Box w b vs) (hb : Below w.heap.size w w') : Box w' b vs :=
 ⟨fun j u hu => cell_later hb (h.cells j u hu), fun j => (hb.frozen (p := ⟨b, j, none⟩) h.lt).trans (h.fz j), Nat.lt_of_lt_of_le h.lt hb.size⟩
theorem Box.far {w : World} {b c k : Nat} {u : Value} {vs : List Value} (h : Box w b vs) (hne : b ≠ c) : Box (w.setCell ⟨c, k, none⟩ u) b vs :=
 ⟨fun j v hv => by
  rw [World.cell?_setCell_other]
  ·exact h.cells j v hv
  ·intro e; injection e with e _ _; exact hne e.symm, fun j => by rw [World.frozen?_setCell]; exact h.fz j, by have := h.lt; simpa [World.setCell] using this⟩
theorem Box.set {w : World} {b k : Nat} {u : Value} {vs : List Value} (h : Box w b vs) (hk : k < vs.length) : Box (w.setCell ⟨b, k, none⟩ u) b (vs.set k u) :=
 ⟨fun j v hv => by
  by_cases hj : j = k
  ·subst hj
   rw [List.getElem?_set_self hk] at hv
   injection hv with hv
   subst hv
   exact css (h.cells j _ (List.getElem?_eq_getElem hk))
  ·rw [List.getElem?_set_ne (by omega)] at hv
   rw [World.cell?_setCell_other]
   ·exact h.cells j v hv
   ·intro e; injection e with _ e _; exact hj e.symm, fun j => by rw [World.frozen?_setCell]; exact h.fz j, by have := h.lt; simpa [World.setCell] using this⟩
theorem Box.four {w : World} {b : Nat} {v0 v1 v2 v3 : Value} (h : Box w b [v0, v1, v2, v3]) : w.cell? ⟨b, 0, none⟩ = some v0 ∧ w.cell? ⟨b, 1, none⟩ = some v1 ∧ w.cell? ⟨b, 2, none⟩ = some v2 ∧ w.cell? ⟨b, 3, none⟩ = some v3 ∧ ∀ j, w.frozen? ⟨b, j, none⟩ = false :=
 ⟨h.cells 0 _ rfl, h.cells 1 _ rfl, h.cells 2 _ rfl, h.cells 3 _ rfl, h.fz⟩
abbrev set3 (w : World) (b : Nat) (u0 u1 u2 : Value) : World := ((w.setCell ⟨b, 0, none⟩ u0).setCell ⟨b, 1, none⟩ u1).setCell ⟨b, 2, none⟩ u2
abbrev set4 (w : World) (b : Nat) (u0 u1 u2 u3 : Value) : World := (set3 w b u0 u1 u2).setCell ⟨b, 3, none⟩ u3
theorem Below.set3 {B : Nat} {w w' : World} (h : Below B w w') {b : Nat} (hb : B ≤ b) (u0 u1 u2 : Value) : Below B w (Go.Proofs.Ytchbbaehdcmcfaa.set3 w' b u0 u1 u2) :=
 ((h.setCell (p := ⟨b, 0, none⟩) hb _).setCell (p := ⟨b, 1, none⟩) hb _).setCell (p := ⟨b, 2, none⟩) hb _
theorem Below.set4 {B : Nat} {w w' : World} (h : Below B w w') {b : Nat} (hb : B ≤ b) (u0 u1 u2 u3 : Value) : Below B w (Go.Proofs.Ytchbbaehdcmcfaa.set4 w' b u0 u1 u2 u3) :=
 (Below.set3 h hb u0 u1 u2).setCell (p := ⟨b, 3, none⟩) hb _
theorem Box.block {w w' : World} {b : Nat} {vs : List Value} (h : Box w b vs) (hb : w'.heap[b]? = w.heap[b]?) (hlt : b < w'.heap.size) : Box w' b vs :=
 ⟨fun j u hu => by rw [World.cell?_of_block hb]; exact h.cells j u hu, fun j => by rw [World.frozen?_of_block hb]; exact h.fz j, hlt⟩
theorem take_next {α : Type} {l : List α} {k : Nat} {x : α} (h : l[k]? = some x) : l.take (k + 1) = l.take k ++ [x] := by rw [List.take_add_one, h]; rfl
end Go.Proofs.Ytchbbaehdcmcfaa
/- slices.Concat at rows of numbers. -/
namespace Go.Proofs.Ytchbbaehdcmcfaa
open Go.Shelf Go.RowKit
set_option linter.unusedVariables false
theorem numc_len (L : List Int) : (L.flatMap numCells).length = L.length * 1 := by
 induction L with
 | nil => rfl
 | cons a r ih => rw [List.flatMap_cons, List.length_append, ih]; simp; omega
theorem numc_get (L : List Int) (j : Nat) : (L.flatMap numCells)[j]? = (L[j]?).map (Value.int .i64) := by
 induction L generalizing j with
 | nil => simp
 | cons a r ih =>
  cases j with
  | zero => rfl
  | succ j => rw [List.flatMap_cons]; simpa using ih j
theorem numc_one (L : List Int) : ∀ u ∈ L.flatMap numCells, u.oneCell' = true := by
 intro u hu
 obtain ⟨x, _, hx⟩ := List.mem_flatMap.1 hu
 simp [numCells] at hx
 subst hx
 rfl
theorem Nums.src {w : World} {a : Option Addr} {n c : Nat} {L : List Int} (h : Nums w (.slice a n c) L) : n = 0 ∨ ∃ ad, a = some ad ∧ ∀ j u, (L.flatMap numCells)[j]? = some u → w.cell? (ad.add j) = some u := by
 obtain ⟨a', cap', e, h1, h2, h3⟩ := h
 cases e
 rcases h3 with rfl | ⟨b, off, rfl, hb, hc⟩
 ·exact Or.inl rfl
 ·refine Or.inr ⟨_, rfl, fun j u hu => ?_⟩
  rw [numc_get] at hu
  obtain ⟨x, hx, rfl⟩ := Option.map_eq_some_iff.1 hu
  rw [add_plain, ← hc j x hx 0 _ rfl]
  congr 2
  omega
theorem infoIntP : ∃ i, Try.prog.info? 3 = some i ∧ i.zero = some (.int .i64 0) ∧ i.size = 1 ∧ i.bytes = 8 := by
 have h : (Try.prog.info? 3).map (fun i => (i.zero, i.size, i.bytes)) = some (some (.int .i64 0), 1, 8) := by kernel_rfl
 cases hi : Try.prog.info? 3 with
 | none => rw [hi] at h; simp at h
 | some i => rw [hi] at h; simp only [Option.map_some, Option.some.injEq, Prod.mk.injEq] at h; exact ⟨i, rfl, h.1, h.2.1, h.2.2⟩
theorem growInt_at (n : Nat) (hn : n ≤ 1000000) (w : World) :
  Calls Try.prog 109 #[.slice none 0 0, .int .i64 n] w fun e w' => ∃ a c, e = .returned (.slice a 0 c) ∧ w'.ownsRow w.heap.size 3 1 (.slice a 0 c) 0 [] ∧ Below w.heap.size w w' := by
 obtain ⟨i0, hi0, hz0, hs0, hb0⟩ := infoIntP
 by_cases h0 : n = 0
 ·subst h0
  have hcon := Any8.slices_Grow_room Try.growLay none 0 0 0 w (by omega) (by omega) (by omega) (by omega)
  refine Calls.mono (show Calls Try.prog 109 _ _ _ from hcon) ?_
  rintro e w' ⟨rfl, rfl⟩
  exact ⟨none, 0, rfl, ⟨rfl, Or.inl ⟨rfl, rfl⟩⟩, Below.refl _ _⟩
 ·have hcon := Any8.slices_Grow_grow Try.growLay i0 _ hi0 hz0 (by omega) none 0 0 n [] w (by omega) (by omega) (by rw [hb0]; omega) (by omega) (by simp) (fun _ => rfl) (fun a h => by cases h)
  refine Calls.mono (show Calls Try.prog 109 _ _ _ from hcon) ?_
  rintro e w' ⟨rfl, rfl⟩
  refine ⟨_, _, rfl, ⟨rfl, Or.inr ⟨w.heap.size, _, _, rfl, Nat.le_refl _, heap_alloc_new w.drew _, Nat.zero_le _, ?_, ?_, by simp⟩⟩, ((Below.refl _ _).drew).alloc (Nat.le_refl _) _⟩
  ·exact grownCap_le_maxLen w _ _ _ (by unfold maxLen; omega)
  ·have hge := grownCap_ge w (0 + n) 0 3
   simp only [Array.size_append, size_zeroCells]
   show 0 + (0 + n - 0) * 1 + (grownCap w (0 + n) 0 3 - (0 + n)) * 1 = grownCap w (0 + n) 0 3 * 1
   omega
def uptoN (ps : List (Value × List Int)) (k : Nat) : List Int := (ps.take k).flatMap (·.2)
theorem uptoN_succ {ps : List (Value × List Int)} {k : Nat} {p : Value × List Int} (h : ps[k]? = some p) : uptoN ps (k + 1) = uptoN ps k ++ p.2 := by
 unfold uptoN
 rw [List.take_add_one, h]
 simp
theorem uptoN_all (ps : List (Value × List Int)) {k : Nat} (h : ps.length ≤ k) : uptoN ps k = ps.flatMap (·.2) := by
 unfold uptoN
 rw [List.take_of_length_le h]
theorem uptoN_le (ps : List (Value × List Int)) (k : Nat) : (uptoN ps k).length ≤ (ps.flatMap (·.2)).length := by
 unfold uptoN
 conv => rhs; rw [← List.take_append_drop k ps, List.flatMap_append, List.length_append]
 omega
set_option maxHeartbeats 1000000 in
theorem concatN_at {w : World} {v : Value} {ps : List (Value × List Int)} {L0 : List Int} (hL0 : ps.flatMap (·.2) = L0) (h : Elems 1 (fun p => [p.1]) w v ps) (hp : ∀ p ∈ ps, Nums w p.1 p.2) (hl : ps.length ≤ 20) (hs : L0.length ≤ 1000000) :
    Calls Try.prog 82 #[v] w fun e w' => ∃ r, e = .returned r ∧ w'.ownsRow w.heap.size 3 1 r L0.length (L0.flatMap numCells) ∧ Below w.heap.size w w' := by
  have HL0 := Lib.hid hL0
  rw [← hL0] at hs
  clear hL0
  obtain ⟨a, cap, rfl, h1, h2, h3⟩ := h
  have hc : ∀ (k : Nat) (p : Value × List Int), ps[k]? = some p → ∃ b off, a = some ⟨b, off, none⟩ ∧ b < w.heap.size ∧ w.cell? ⟨b, off + k, none⟩ = some p.1 := fun k p hk => by
    rcases h3 with rfl | ⟨b, off, rfl, hb, hc⟩
    · simp at hk
    · exact ⟨b, off, rfl, hb, by have := hc k p hk 0 _ rfl; rwa [show off + (k * 1 + 0) = off + k by omega] at this⟩
  have HC := Lib.hid hc; clear hc h3
  have HP := Lib.hid hp; clear hp
  unfold maxLen at h2
  have HS := Lib.hid hs; clear hs
  go_enter Try.func82, Try.ntmps82
  go_wp2_with fail
  go_loop [3, 11] (fun s i => ∃ k : Nat, k ≤ ps.length ∧ i = .int .i64 k ∧ s = .int .i64 ((uptoN ps k).length : Nat)) (fun _ i => ps.length - (RowKit.intOf i).toNat)
  case atStart => exact ⟨0, by omega, rfl, rfl⟩
  case round =>
    obtain ⟨k, hk, rfl, rfl⟩ := hrel
    by_cases hlt : k < ps.length
    · obtain ⟨p, hx⟩ : ∃ p, ps[k]? = some p := ⟨_, List.getElem?_eq_getElem hlt⟩
      obtain ⟨b, off, rfl, hb, d0⟩ := HC.out k p hx
      obtain ⟨pv, pl⟩ := p
      obtain ⟨a1, c1, hpv, hq1, hq2⟩ := (HP.out _ (List.mem_of_getElem? hx)).len
      simp only at hpv d0 hq1 hq2
      subst hpv
      unfold maxLen at hq2
      have hm := uptoN_le ps (k + 1)
      rw [uptoN_succ hx, List.length_append] at hm
      have hss := HS.out
      simp only at hm
      have HX : Hid ((uptoN ps (k + 1)).length = (uptoN ps k).length + pl.length) := Lib.hid (by rw [uptoN_succ hx, List.length_append])
      obtain ⟨m, hmm⟩ : ∃ m, (uptoN ps k).length = m := ⟨_, rfl⟩
      rw [hmm] at hm HX ⊢
      have hw : IntKind.i64.wrap ((m : Int) + (pl.length : Int)) = (m : Int) + (pl.length : Int) := by rw [IntKind.wrap_i64]; omega
      have hneg : decide ((m : Int) + (pl.length : Int) < 0) = false := by simp; omega
      clear hmm
      go_wp2_with fail
      exact ⟨⟨k + 1, by omega, by go_num, by rw [HX.out]; push_cast; rfl⟩, by simp [RowKit.intOf]; omega⟩
    · have hkn : k = ps.length := by omega
      subst hkn
      rw [uptoN_all ps (Nat.le_refl _)]
      obtain ⟨N, hN⟩ : ∃ N, (ps.flatMap (·.2)).length = N := ⟨_, rfl⟩
      have hNle : N ≤ 1000000 := by rw [← hN]; exact HS.out
      rw [hN]
      have HN := Lib.hid hN; clear hN
      (go_wp2_with fail; go_fit (growInt_at N hNle w); rintro e w1 ⟨a1, c1, rfl, hown, hb1⟩)
      obtain ⟨i0, hi0, hz0, hs0, hb0⟩ := infoIntP
      have HO := Lib.hid hown; have HB1 := Lib.hid hb1
      clear hown hb1
      go_wp2_with fail
      go_loopw [6, 27] (fun r i wr => ∃ (k : Nat) (a' : Option Addr) (c' : Nat), k ≤ ps.length ∧ i = .int .i64 k ∧ r = .slice a' (uptoN ps k).length c' ∧ Hid (wr.ownsRow w.heap.size 3 1 (.slice a' (uptoN ps k).length c') (uptoN ps k).length ((uptoN ps k).flatMap numCells) ∧ Below w.heap.size w wr)) (fun _ i _ => ps.length - (RowKit.intOf i).toNat)
      case atStart => exact ⟨0, a1, c1, by omega, rfl, rfl, Lib.hid ⟨HO.out, HB1.out⟩⟩
      case round =>
        obtain ⟨k, a2, c2, hk, rfl, rfl, HR⟩ := hrel
        by_cases hlt : k < ps.length
        · obtain ⟨p, hx⟩ : ∃ p, ps[k]? = some p := ⟨_, List.getElem?_eq_getElem hlt⟩
          obtain ⟨b, off, rfl, hb, d0⟩ := HC.out k p hx
          obtain ⟨pv, pl⟩ := p
          have hpo := (HP.out _ (List.mem_of_getElem? hx)).ext HR.out.2
          obtain ⟨a3, c3, hpv, hq1, hq2⟩ := hpo.len
          simp only at hpv d0 hq1 hq2 hpo
          subst hpv
          have d1 : wr.cell? ⟨b, off + k, none⟩ = some (.slice a3 pl.length c3) := cell_later HR.out.2 d0
          have HSC := Lib.hid (Nums.src hpo)
          have hm := uptoN_le ps (k + 1)
          rw [HN.out, uptoN_succ hx, List.length_append] at hm
          simp only at hm
          have HX : Hid (uptoN ps (k + 1) = uptoN ps k ++ pl) := Lib.hid (by rw [uptoN_succ hx])
          obtain ⟨L, hL⟩ : ∃ L, uptoN ps k = L := ⟨_, rfl⟩
          rw [hL] at hm HX HR ⊢
          have HL := Lib.hid hL
          clear hL hx d0 hpo
          obtain ⟨m, hmm⟩ : ∃ m, L.length = m := ⟨_, rfl⟩
          rw [hmm] at hm HR ⊢
          have HM := Lib.hid hmm
          clear hmm
          obtain ⟨n, hnn⟩ : ∃ n, pl.length = n := ⟨_, rfl⟩
          have HPL : Hid ((pl.flatMap numCells).length = n * 1) := Lib.hid (by rw [numc_len, hnn])
          have HNN := Lib.hid hnn
          rw [hnn] at hm d1 HSC hq1
          clear hnn
          go_wp2_with (first
            | (at_builtin; refine wpList_append_k rfl _ _ 81 rfl w.heap.size 3 i0 (.int .i64 0) 1 8 Try.underlying81 hi0 hz0 hs0 (by decide) hb0 rfl (.slice a2 m c2) m (L.flatMap numCells) rfl HR.out.1 a3 n c3 (pl.flatMap numCells) rfl HPL.out HSC.out (numc_one _) (by unfold maxLen; omega) (by omega) HR.out.2.size (m + n) ((L ++ pl).flatMap numCells) rfl (by rw [List.flatMap_append]) ?_; intro a4 c4 w4 hown4 hgrow4 hat4
               have HO4 := Lib.hid hown4
               have HB4 := Lib.hid (HR.out.2.grown hgrow4 HR.out.2.size (fun g hg => (row_in HR.out.1 hg).1))
               clear hown4 hgrow4 hat4)
            | fail)
          exact ⟨⟨k + 1, a4, c4, by omega, by go_num, by rw [HX.out, List.length_append, HM.out, HNN.out], Lib.hid ⟨by rw [HX.out, List.length_append, HM.out, HNN.out]; exact HO4.out, HB4.out⟩⟩, by simp [RowKit.intOf]; omega⟩
        · have hkk : ¬ (k : Int) < ps.length := by omega
          have HE : Hid (uptoN ps k = ps.flatMap (·.2)) := Lib.hid (uptoN_all ps (by omega))
          obtain ⟨m, hmm⟩ : ∃ m, (uptoN ps k).length = m := ⟨_, rfl⟩
          have HM := Lib.hid hmm
          rw [hmm]
          clear hmm
          go_wp2
          go_ret
          have hfin := HR.out.1
          rw [HM.out] at hfin
          have hfin2 : wr.ownsRow w.heap.size 3 1 (.slice a2 m c2) L0.length (L0.flatMap numCells) := by rw [← HL0.out, ← HE.out, HM.out]; exact hfin
          exact ⟨.slice a2 m c2, rfl, hfin2, HR.out.2⟩
end Go.Proofs.Ytchbbaehdcmcfaa
/- What stands for what, as chapter 11 says it: all the way in at once. Nothing here is walked. -/
namespace Go.Proofs.Ytchbbaehdcmcfaa
def varV (n : Int) : Tm := .mk 0 n ⟨#[]⟩ []
mutual
def occT : Tm → List Int
 | .mk k n _ ts => if k = 0 then [n] else occL ts
def occL : List Tm → List Int
 | [] => []
 | x :: r => occT x ++ occL r
end
end Go.Proofs.Ytchbbaehdcmcfaa
/- Has, as chapter 11 says it, over terms that are made whole; a search that keeps a pile and knows what it has seen; what reaches what. Nothing here is walked. -/
namespace Go.Proofs.Ytchbbaehdcmcfaa
structure Pl where
 t : Tm
 ends : Bool
 frm : Nat
def left (seen : List Int) : List (Int × Tm) → Nat
 | [] => 0
 | p :: R => (if p.1 ∈ seen then 0 else (occT p.2).length + 2) + left seen R
end Go.Proofs.Ytchbbaehdcmcfaa
/- The term of a variable 0, a name (of chapter 14's pure text nothing else is wanted here). Nothing here is walked. -/
namespace Go.Proofs.Ytchbbaehdcmcfaa
def nameT (s : ByteArray) (ts : List Tm) : Tm := .mk 2 0 s ts
end Go.Proofs.Ytchbbaehdcmcfaa
/- Chapter 15, what a head's steps are and that they make the head again. Nothing here is walked. -/
namespace Go.Proofs.Ytchbbaehdcmcfaa
set_option linter.unusedVariables false
theorem formed_kids {t : Tm} (h : formedT t = true) : (t.k = 0 ∧ t = varV t.n) ∨ (t.k = 1 ∧ t = .mk 1 t.n ⟨#[]⟩ []) ∨ (t.k = 2 ∧ t = nameT t.s t.args) := by
 obtain ⟨k, n, s, ts⟩ := t
 rw [formedT, Bool.and_eq_true] at h
 have hp := h.1
 unfold plainT at hp
 by_cases h0 : k = 0
 ·rw [if_pos h0] at hp
  simp only [Bool.and_eq_true, decide_eq_true_eq, List.isEmpty_iff] at hp
  left
  refine ⟨h0, ?_⟩
  subst h0
  obtain rfl : ts = [] := List.length_eq_zero_iff.1 hp.2
  obtain rfl : s = ⟨#[]⟩ := bytes_eq hp.1.2
  rfl
 ·rw [if_neg h0] at hp
  by_cases h1 : k = 1
  ·rw [if_pos h1] at hp
   simp only [Bool.and_eq_true, decide_eq_true_eq, List.isEmpty_iff] at hp
   right; left
   refine ⟨h1, ?_⟩
   subst h1
   obtain rfl : ts = [] := List.length_eq_zero_iff.1 hp.2
   obtain rfl : s = ⟨#[]⟩ := bytes_eq hp.1
   rfl
  ·rw [if_neg h1] at hp
   by_cases h2 : k = 2
   ·rw [if_pos h2] at hp
    simp only [Bool.and_eq_true, decide_eq_true_eq] at hp
    right; right
    refine ⟨h2, ?_⟩
    subst h2
    obtain rfl : n = 0 := hp.1.1.1
    rfl
   ·rw [if_neg h2] at hp; cases hp
end Go.Proofs.Ytchbbaehdcmcfaa
/- Chapter 16, keys: pure. Nothing here is walked. -/
namespace Go.Proofs.Ytchbbaehdcmcfaa
set_option linter.unusedVariables false
structure KeyM where
 k : Int
 n : Int
 s : ByteArray
 ar : Int
def zeroKey : KeyM := ⟨0, 0, ⟨#[]⟩, 0⟩
def argKey (a : Tm) : KeyM := if a.k = 0 then zeroKey else if a.k = 1 then ⟨1, a.n, ⟨#[]⟩, 0⟩ else ⟨2, 0, a.s, (a.args.length : Nat)⟩
def keyT (t : Tm) : KeyM := if goodT t = true then (match t.args with
 | [] => zeroKey
 | a :: _ => argKey a) else zeroKey
def sameKey (a b : KeyM) : Bool := a.k == b.k && a.n == b.n && a.s.data.toList == b.s.data.toList && a.ar == b.ar
def mayK (a b : KeyM) : Bool := a.k == 0 || b.k == 0 || sameKey a b
theorem sameKey_self (a : KeyM) : sameKey a a = true := by unfold sameKey; simp
theorem sameKey_iff {a b : KeyM} : sameKey a b = true ↔ a = b := by
 cases a with
 | mk k n s r =>
  cases b with
  | mk k' n' s' r' =>
   unfold sameKey
   constructor
   ·intro h
    simp at h
    obtain ⟨⟨⟨rfl, rfl⟩, h3⟩, rfl⟩ := h
    have : s = s' := by
     cases s; cases s'
     rename_i d d'
     have : d = d' := h3
     rw [this]
    rw [this]
   ·intro h
    injection h with h1 h2 h3 h4
    subst h1 h2 h3 h4
    simp
def pickF (k : KeyM) : List KeyM → Nat → List Int
 | [], _ => []
 | a :: l, i => if mayK a k = true then (i : Int) :: pickF k l (i + 1) else pickF k l (i + 1)
def pickT (k : KeyM) : List (KeyM × Bool) → Nat → List Int
 | [], _ => []
 | a :: l, i => if (mayK a.1 k && a.2) = true then (i : Int) :: pickT k l (i + 1) else pickT k l (i + 1)
theorem pickF_app (k : KeyM) : ∀ (a b : List KeyM) (i : Nat), pickF k (a ++ b) i = pickF k a i ++ pickF k b (i + a.length)
 | [], b, i => by rw [List.nil_append, pickF, List.nil_append]; rfl
 | x :: a, b, i => by
  rw [List.cons_append, pickF, pickF, pickF_app k a b (i + 1), List.length_cons, show i + 1 + a.length = i + (a.length + 1) by omega]
  split <;> rfl
theorem pickF_snoc (k x : KeyM) (a : List KeyM) : pickF k (a ++ [x]) 0 = pickF k a 0 ++ (if mayK x k = true then [(a.length : Int)] else []) := by
 rw [pickF_app, pickF, pickF, Nat.zero_add]
end Go.Proofs.Ytchbbaehdcmcfaa
/- A stack in memory: its block, its row. -/
namespace Go.Proofs.Ytchbbaehdcmcfaa
open Go.RowKit
structure Touch (F : List Nat) (w w' : World) : Prop where
 os : w'.os = w.os
 tape : w'.tape = w.tape
 output : w'.output = w.output
 size : w.heap.size ≤ w'.heap.size
 block : ∀ k, k < w.heap.size → k ∉ F → w'.heap[k]? = w.heap[k]?
theorem Touch.of_below {w w' : World} (h : Below w.heap.size w w') (F : List Nat) : Touch F w w' := ⟨h.os, h.tape, h.output, h.size, fun k hk _ => h.block k hk⟩
theorem Touch.below {F : List Nat} {w w' : World} (h : Touch F w w') {B : Nat} (hB : B ≤ w.heap.size) (hF : ∀ k ∈ F, B ≤ k) : Below B w w' :=
 ⟨h.os, h.tape, h.output, h.size, fun k hk => h.block k (by omega) (fun hm => by have := hF k hm; omega)⟩
theorem Touch.trans {F F' : List Nat} {a b c : World} (h : Touch F a b) (h' : Touch F' b c) (hF : ∀ k ∈ F', k ∈ F ∨ a.heap.size ≤ k) : Touch F a c :=
 ⟨h'.os.trans h.os, h'.tape.trans h.tape, h'.output.trans h.output, Nat.le_trans h.size h'.size, fun k hk hn =>
  (h'.block k (Nat.lt_of_lt_of_le hk h.size) (fun hm => by rcases hF k hm with h1 | h1; exact hn h1; omega)).trans (h.block k hk hn)⟩
section
variable {e tb : TypeId} {F : List Nat} {w : World} {p : Value} {R : Nat} {xs : List Value}
end
section
variable {e tb : TypeId} {W w : World} {p : Value} {R : Nat} {xs : List Value} {G : List Nat}
end
end Go.Proofs.Ytchbbaehdcmcfaa
/- Package index: keys in memory, what '==' says of them, keys of maps. -/
namespace Go.Proofs.Ytchbbaehdcmcfaa
open Go.RowKit Go.Maps Go.WideMaps
set_option linter.unusedVariables false
abbrev ixV (k : KeyM) : Value := .agg #[.int .i64 k.k, .int .i64 k.n, .string k.s, .int .i64 k.ar]
def ixCells (k : KeyM) : List Value := [.int .i64 k.k, .int .i64 k.n, .string k.s, .int .i64 k.ar]
def ixOk (k : KeyM) : Prop := I64 k.k ∧ I64 k.n ∧ k.s.size ≤ BIG ∧ I64 k.ar
def ixLit (k : KeyM) : Lit := .string (keyBytes [.int .i64 k.k, .int .i64 k.n, .string k.s.data.toList, .int .i64 k.ar])
theorem ixZero : ixOk zeroKey := ⟨⟨by decide, by decide⟩, ⟨by decide, by decide⟩, by unfold BIG zeroKey; decide, ⟨by decide, by decide⟩⟩
theorem ixRow : (76 : TypeId) < Try.prog.types.size := of_decide_eq_true (by kernel_rfl)
theorem ixLaid : laidOutB Try.prog = true := by kernel_rfl
theorem ixWide : (match Try.prog.underlying 76 with | some (.array _ _) | some (.struct _) => true | _ => false) = true := by rw [Try.underlying76]
set_option maxRecDepth 100000 in
theorem ixLaw : Keyed Try.prog 76 := Keyed.of_law (deep_law_laid ixLaid (m := 2) (by omega) ixRow (by kernel_rfl) ixWide)
theorem ixSize : ∃ m, Try.prog.types.size = m + 2 := ⟨Try.prog.types.size - 2, by have h : 2 ≤ Try.prog.types.size := of_decide_eq_true (by kernel_rfl); omega⟩
theorem ixWf {n : Int} (h : I64 n) : (Lit.int .i64 n).wf = true := by
 unfold I64 at h
 simp [Lit.wf, IntKind.min, IntKind.max, IntKind.signed, IntKind.bits]
 omega
theorem ixKeyOf {k : KeyM} (h : ixOk k) : keyOf Try.prog 76 (ixV k) = some (ixLit k) := by
 obtain ⟨h1, h2, h3, h4⟩ := h
 obtain ⟨m, hm⟩ := ixSize
 have hkt : Try.prog.keyType 76 = true := by kernel_rfl
 have hc : Try.prog.cellsOf 76 = 4 := by kernel_rfl
 have c1 : Try.prog.cellsOf 3 = 1 := by kernel_rfl
 have c2 : Try.prog.cellsOf 2 = 1 := by kernel_rfl
 have c3 : Try.prog.cellsOf 9 = 1 := by kernel_rfl
 have h3' : k.s.size ≤ maxLen := by unfold BIG at h3; unfold maxLen; omega
 unfold keyOf
 simp only [Try.underlying76]
 rw [if_pos (by simp [hkt, Value.formed, Try.underlying76, hc]), hm]
 unfold Program.keyLits
 simp only [Try.underlying76, Value.cells]
 rw [if_pos ⟨by rw [hc]; rfl, by decide +kernel⟩]
 simp [List.mapM_cons, Program.keyLits, Try.underlying3, Try.underlying2, Try.underlying9, c1, c2, c3, ixWf h1, ixWf h2, ixWf h4, h3', ixLit]
end Go.Proofs.Ytchbbaehdcmcfaa
/- Package index, what is kept and what is picked: pure. Nothing here is walked. -/
namespace Go.Proofs.Ytchbbaehdcmcfaa
set_option linter.unusedVariables false
def plainK (k : KeyM) : KeyM := if k.k = 0 then zeroKey else k
theorem plain_may (a k : KeyM) : mayK (plainK a) k = mayK a k := by
 unfold plainK
 split
 ·rename_i h
  unfold mayK
  simp [zeroKey, h]
 ·rfl
def selI (p : KeyM × Bool → Bool) : List (KeyM × Bool) → Nat → List Int
 | [], _ => []
 | a :: l, i => if p a = true then (i : Int) :: selI p l (i + 1) else selI p l (i + 1)
theorem pickT_sel (k : KeyM) : ∀ (l : List (KeyM × Bool)) (i : Nat), pickT k l i = selI (fun x => mayK x.1 k && x.2) l i
 | [], i => rfl
 | a :: l, i => by rw [pickT, selI, pickT_sel k l (i + 1)]
section
variable {p q r : KeyM × Bool → Bool}
theorem mem_selI {m : Int} : ∀ {l : List (KeyM × Bool)} {i : Nat}, m ∈ selI p l i ↔ ∃ j x, l[j]? = some x ∧ m = ((i + j : Nat) : Int) ∧ p x = true
 | [], i => by rw [selI]; simp
 | a :: l, i => by
  have ih := mem_selI (m := m) (l := l) (i := i + 1)
  have key : m ∈ selI p (a :: l) i ↔ (m = (i : Int) ∧ p a = true) ∨ m ∈ selI p l (i + 1) := by
   rw [selI]
   by_cases h : p a = true
   ·rw [if_pos h, List.mem_cons]
    simp [h]
   ·rw [if_neg h]
    exact ⟨Or.inr, fun h' => h'.elim (fun h2 => absurd h2.2 h) id⟩
  rw [key, ih]
  constructor
  ·rintro (⟨h1, h2⟩ | ⟨j, x, h1, h2, h3⟩)
   ·exact ⟨0, a, rfl, by rw [h1]; simp, h2⟩
   ·exact ⟨j + 1, x, h1, by rw [h2, show i + 1 + j = i + (j + 1) by omega], h3⟩
  ·rintro ⟨j, x, h1, h2, h3⟩
   cases j with
   | zero => injection h1 with h1; subst h1; exact Or.inl ⟨by rw [h2]; simp, h3⟩
   | succ j => exact Or.inr ⟨j, x, h1, by rw [h2, show i + 1 + j = i + (j + 1) by omega], h3⟩
theorem selI_ge {l : List (KeyM × Bool)} {i : Nat} : ∀ m ∈ selI p l i, (i : Int) ≤ m := fun m hm => by
 obtain ⟨j, x, _, rfl, _⟩ := mem_selI.1 hm
 omega
theorem selI_lt {l : List (KeyM × Bool)} {i : Nat} : ∀ m ∈ selI p l i, m < ((i + l.length : Nat) : Int) := fun m hm => by
 obtain ⟨j, x, h, rfl, _⟩ := mem_selI.1 hm
 have := (List.getElem?_eq_some_iff.1 h).1
 omega
theorem selI_rising : ∀ {l : List (KeyM × Bool)} {i : Nat}, (selI p l i).Pairwise (· < ·)
 | [], i => List.Pairwise.nil
 | a :: l, i => by
  rw [selI]
  split
  ·refine List.Pairwise.cons (fun m hm => ?_) selI_rising
   have := selI_ge m hm
   omega
  ·exact selI_rising
theorem selI_nodup {l : List (KeyM × Bool)} {i : Nat} : (selI p l i).Nodup := selI_rising.imp fun h e => by omega
theorem selI_app : ∀ (a b : List (KeyM × Bool)) (i : Nat), selI p (a ++ b) i = selI p a i ++ selI p b (i + a.length)
 | [], b, i => by rw [List.nil_append, selI, List.nil_append]; rfl
 | x :: a, b, i => by
  rw [List.cons_append, selI, selI, selI_app a b (i + 1), List.length_cons, show i + 1 + a.length = i + (a.length + 1) by omega]
  split <;> rfl
theorem selI_snoc (x : KeyM × Bool) (a : List (KeyM × Bool)) : selI p (a ++ [x]) 0 = selI p a 0 ++ (if p x = true then [(a.length : Int)] else []) := by
 rw [selI_app, selI, selI, Nat.zero_add]
theorem selI_len : ∀ {l : List (KeyM × Bool)} {i : Nat}, (selI p l i).length ≤ l.length
 | [], i => Nat.le_refl _
 | a :: l, i => by
  have := selI_len (l := l) (i := i + 1)
  rw [selI]
  split
  ·simp only [List.length_cons]; omega
  ·simp only [List.length_cons]; omega
theorem selI_congr : ∀ {l : List (KeyM × Bool)} {i : Nat}, (∀ x ∈ l, p x = q x) → selI p l i = selI q l i
 | [], i, _ => rfl
 | a :: l, i, h => by
  rw [selI, selI, h a (by simp), selI_congr (l := l) (i := i + 1) (fun x hx => h x (List.mem_cons_of_mem _ hx))]
theorem selI_sort {L : List Int} {l : List (KeyM × Bool)} {i : Nat} (h : L.Perm (selI p l i)) : L.mergeSort (fun x y => decide (x ≤ y)) = selI p l i := by
 have tr : ∀ a b c : Int, decide (a ≤ b) = true → decide (b ≤ c) = true → decide (a ≤ c) = true := fun a b c h1 h2 => by simp only [decide_eq_true_eq] at *; omega
 have tt : ∀ a b : Int, (decide (a ≤ b) || decide (b ≤ a)) = true := fun a b => by simp only [Bool.or_eq_true, decide_eq_true_eq]; omega
 refine List.Perm.eq_of_pairwise (le := fun a b => decide (a ≤ b) = true) (fun a b _ _ h1 h2 => ?_) (List.pairwise_mergeSort tr tt L) ((selI_rising (p := p) (l := l) (i := i)).imp fun {a b} hab => by simp only [decide_eq_true_eq]; omega) ((List.mergeSort_perm L _).trans h)
 simp only [decide_eq_true_eq] at h1 h2
 omega
theorem selI_two : ∀ {l : List (KeyM × Bool)} {i : Nat}, (∀ x ∈ l, r x = (p x || q x)) → (∀ x ∈ l, ¬ (p x = true ∧ q x = true)) → (selI p l i ++ selI q l i).Perm (selI r l i)
 | [], i, _, _ => List.Perm.refl _
 | a :: l, i, h, hd => by
  have ih := selI_two (l := l) (i := i + 1) (fun x hx => h x (List.mem_cons_of_mem _ hx)) (fun x hx => hd x (List.mem_cons_of_mem _ hx))
  have ha := h a (by simp)
  have hda := hd a (by simp)
  rw [selI, selI, selI]
  cases hp : p a with
  | true =>
   have hq : q a = false := by
    cases hq : q a with
    | false => rfl
    | true => exact absurd ⟨hp, hq⟩ hda
   rw [hp, hq] at ha
   rw [ha, hq]
   simpa using ih
  | false =>
   rw [hp] at ha
   cases hq : q a with
   | true =>
    rw [hq] at ha
    rw [ha]
    simp only [Bool.false_eq_true, if_false, Bool.or_true, if_true]
    exact List.perm_middle.trans (List.Perm.cons _ ih)
   | false =>
    rw [hq] at ha
    rw [ha]
    simpa using ih
theorem selI_cut {l : List (KeyM × Bool)} {j : Nat} {x y : KeyM × Bool} (hx : l[j]? = some x) (hp : p x = true) (hy : p y = false) :
  ∃ A B, selI p l 0 = A ++ (j : Int) :: B ∧ selI p (l.set j y) 0 = A ++ B ∧ (∀ m ∈ A, m < (j : Int)) ∧ ∀ m ∈ B, (j : Int) < m := by
 obtain ⟨hj, rfl⟩ := List.getElem?_eq_some_iff.1 hx
 have e1 : l = l.take j ++ l[j] :: l.drop (j + 1) := by rw [← List.drop_eq_getElem_cons hj, List.take_append_drop]
 have e2 : l.set j y = l.take j ++ y :: l.drop (j + 1) := List.set_eq_take_append_cons_drop.trans (by rw [if_pos hj])
 have ht : (l.take j).length = j := by rw [List.length_take]; omega
 refine ⟨selI p (l.take j) 0, selI p (l.drop (j + 1)) (j + 1), ?_, ?_, fun m hm => ?_, fun m hm => ?_⟩
 ·conv => lhs; rw [e1]
  rw [selI_app, selI, if_pos hp, ht, Nat.zero_add]
 ·rw [e2, selI_app, selI, hy, if_neg (by simp), ht, Nat.zero_add]
 ·have := selI_lt m hm
  rw [ht] at this
  omega
 ·have := selI_ge m hm
  omega
theorem selI_same : ∀ {l : List (KeyM × Bool)} {i j : Nat} {x y : KeyM × Bool}, l[j]? = some x → p x = p y → selI p (l.set j y) i = selI p l i
 | [], i, j, x, y, h, _ => by simp at h
 | a :: l, i, 0, x, y, h, e => by
  injection h with h
  subst h
  rw [List.set_cons_zero, selI, selI, e]
 | a :: l, i, j + 1, x, y, h, e => by
  rw [List.set_cons_succ, selI, selI, selI_same (l := l) (i := i + 1) h e]
end
def isK (k : KeyM) : KeyM × Bool → Bool := fun x => sameKey x.1 k && x.2
theorem isK_iff {k : KeyM} {x : KeyM × Bool} : isK k x = true ↔ x.1 = k ∧ x.2 = true := by
 unfold isK
 rw [Bool.and_eq_true, sameKey_iff]
abbrev rowI (k : KeyM) (l : List (KeyM × Bool)) : List Int := selI (isK k) l 0
abbrev allI (l : List (KeyM × Bool)) : List Int := selI (fun x => x.2) l 0
def KeptK (l : List (KeyM × Bool)) : Prop := ∀ x ∈ l, plainK x.1 = x.1
theorem pick_zero {l : List (KeyM × Bool)} {k : KeyM} (hk : k.k = 0) : pickT k l 0 = allI l := by
 rw [pickT_sel]
 refine selI_congr fun x _ => ?_
 show (mayK x.1 k && x.2) = x.2
 rw [show mayK x.1 k = true by unfold mayK; simp [hk]]
 rfl
theorem pick_two {l : List (KeyM × Bool)} {k : KeyM} (hl : KeptK l) (hk : k.k ≠ 0) : (rowI zeroKey l ++ rowI k l).Perm (pickT k l 0) := by
 rw [pickT_sel]
 have hz : k ≠ zeroKey := fun e => hk (by rw [e]; rfl)
 refine selI_two (fun x hx => ?_) (fun x hx h => ?_)
 ·show (mayK x.1 k && x.2) = (sameKey x.1 zeroKey && x.2 || sameKey x.1 k && x.2)
  rw [show (sameKey x.1 zeroKey && x.2 || sameKey x.1 k && x.2) = ((sameKey x.1 zeroKey || sameKey x.1 k) && x.2) by cases x.2 <;> simp]
  congr 1
  unfold mayK
  by_cases h0 : x.1.k = 0
  ·have : x.1 = zeroKey := by rw [← hl x hx]; unfold plainK; rw [if_pos h0]
   rw [this, sameKey_self]
   simp [zeroKey]
  ·have h1 : sameKey x.1 zeroKey = false := by
    cases h : sameKey x.1 zeroKey with
    | false => rfl
    | true => exact absurd (by rw [sameKey_iff.1 h]; rfl) h0
   rw [h1]
   simp [h0, hk]
 ·have h1 := (isK_iff.1 h.1).1
  have h2 := (isK_iff.1 h.2).1
  exact hz (h2.symm.trans h1)
end Go.Proofs.Ytchbbaehdcmcfaa
