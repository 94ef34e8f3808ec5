import Derived.Test.YtchbbaehdcmcfaaHyfzz
import Derived.Test.YtchbbaehdcmcfaaHyfaa
import Derived.Lib.Strings
import Derived.Deep.RegionHeld3
import Derived.Deep.Quiet
import Derived.Below
import Derived.BigQuiet
import Derived.Deep.QuietTactic
import Derived.Laws.StructEq
import Derived.Deep.Cut
import Derived.Deep.CutRange
import Derived.Test.YtchbbaehdcmcfaaRows
import Derived.Shelf.SlGeneric
import Derived.Shelf.SlIterI.Nil
import Derived.Ground.GgzProg
import Derived.Shelf.Spec.SlicesGrow
import Derived.Ground.Names7Prog
import Derived.Test.YtchbbaehdcmcfaaProg
set_option linter.unusedVariables false
set_option linter.unusedSimpArgs false
/- Package term: what fits. -/
namespace Go.Proofs.Ytchbbaehdcmcfaa
open Go.RowKit
set_option linter.unusedVariables false
theorem isEmpty_size' (s : ByteArray) : s.data.toList.isEmpty = decide (s.size = 0) := by
 have h : s.data.toList.length = s.size := rfl
 cases hq : s.data.toList with
 | nil => rw [hq] at h; simp at h; simp [← h]
 | cons a r =>
  rw [hq, List.length_cons] at h
  rw [decide_eq_false (by omega)]
  rfl
theorem toList_empty' {s : ByteArray} (h : s.size = 0) : s.toList.isEmpty = true := by rw [Lib.toList_data, isEmpty_size']; simpa using h
theorem toList_some' {s : ByteArray} (h : ¬ s.size = 0) : s.toList.isEmpty = false := by rw [Lib.toList_data, isEmpty_size']; simpa using h
theorem letter_eq' : ∀ c : UInt8, letterB c = (((c.toNat : Int) == 9) || ((c.toNat : Int) == 10) || (!decide ((c.toNat : Int) < 32) && !decide (126 < (c.toNat : Int)))) := by
 intro c
 have h : ((List.range 256).all fun n => letterB (UInt8.ofNat n) == ((((UInt8.ofNat n).toNat : Int) == 9) || (((UInt8.ofNat n).toNat : Int) == 10) || (!decide (((UInt8.ofNat n).toNat : Int) < 32) && !decide (126 < ((UInt8.ofNat n).toNat : Int))))) = true := by decide +kernel
 have hc := List.all_eq_true.1 h c.toNat (List.mem_range.2 (UInt8.toNat_lt c))
 rw [UInt8.ofNat_toNat] at hc
 exact eq_of_beq hc
def fitB (s : ByteArray) : Bool := decide (s.size ≤ 64) && s.data.toList.all letterB
set_option maxHeartbeats 2000000 in
theorem fitsName_at (s : ByteArray) (hs : s.size ≤ 140737488351232) (w : World) : Calls Try.prog 123 #[.string s] w fun e w' => e = .returned (.bool (fitB s)) ∧ w = w' := by
 by_cases hbig : 64 < s.size
 ·have hr : fitB s = false := by unfold fitB; rw [decide_eq_false (by omega)]; rfl
  rw [hr]
  clear hr
  go_enter Try.func123, Try.ntmps123
  go_wp2
  go_ret
  exact ⟨rfl, rfl⟩
 obtain ⟨r, hr⟩ : ∃ r, fitB s = r := ⟨_, rfl⟩
 rw [hr]
 have HR : Hid (s.data.toList.all letterB = r) := Lib.hid (by rw [← hr]; unfold fitB; rw [decide_eq_true (by omega)]; rfl)
 clear hr
 go_enter Try.func123, Try.ntmps123
 go_wp2_with fail
 go_loop [10] (fun z => ∃ i : Nat, i ≤ s.size ∧ z = .int .i64 i ∧ Hid (∀ j (hj : j < s.size), j < i → letterB s[j] = true)) (fun z => s.size - (RowKit.intOf z).toNat)
 case atStart => exact ⟨0, Nat.zero_le _, rfl, Lib.hid (fun j _ h => by omega)⟩
 case round =>
  obtain ⟨i, hi, rfl, HL⟩ := hrel
  by_cases hil : i < s.size
  ·cases hq : letterB s[i]
   ·have hlq := letter_eq' s[i]
    rw [hq] at hlq
    have hall : s.data.toList.all letterB = false := by
     rw [List.all_eq_false]
     exact ⟨s.data.toList[i]'hil, List.getElem_mem _, by show ¬ letterB s[i] = true; rw [hq]; simp⟩
    have hrf : r = false := by rw [← HR.out, hall]
    subst hrf
    obtain ⟨z, hz⟩ : ∃ z : Int, (s[i].toNat : Int) = z := ⟨_, rfl⟩
    rw [hz] at hlq
    have e9 : (z == 9) = false := by
     cases h : (z == 9)
     ·rfl
     ·rw [h] at hlq; cases hlq
    have e10 : (z == 10) = false := by
     cases h : (z == 10)
     ·rfl
     ·rw [h, Bool.or_true] at hlq; cases hlq
    rw [e9, e10, Bool.false_or, Bool.false_or] at hlq
    have n9 : (z != 9) = true := by unfold bne; rw [e9]; rfl
    have n10 : (z != 10) = true := by unfold bne; rw [e10]; rfl
    clear e9 e10
    clear hall hq HR HL
    by_cases h32 : z < 32
    ·clear hlq
     go_wp2
     go_ret
     exact ⟨rfl, rfl⟩
    ·have h126 : 126 < z := by
      simp [h32] at hlq
      omega
     clear hlq
     go_wp2
     go_ret
     exact ⟨rfl, rfl⟩
   ·have hlq := letter_eq' s[i]
    rw [hq] at hlq
    have HN : Hid (∀ j (hj : j < s.size), j < i + 1 → letterB s[j] = true) := Lib.hid (fun j hj h => by
     by_cases e : j = i
     ·subst e; exact hq
     ·exact HL.out j hj (by omega))
    obtain ⟨z, hz⟩ : ∃ z : Int, (s[i].toNat : Int) = z := ⟨_, rfl⟩
    rw [hz] at hlq
    clear hq HL
    by_cases e9 : z = 9
    ·subst e9
     clear hlq
     go_wp2
     go_round
     case rel => exact ⟨i + 1, by omega, by go_num, HN⟩
     case measure => simp [RowKit.intOf]; omega
    have e9' : (z == 9) = false := beq_false_of_ne e9
    by_cases e10 : z = 10
    ·subst e10
     clear hlq
     go_wp2
     go_round
     case rel => exact ⟨i + 1, by omega, by go_num, HN⟩
     case measure => simp [RowKit.intOf]; omega
    have e10' : (z == 10) = false := beq_false_of_ne e10
    rw [e9', e10'] at hlq
    have h32 : ¬ z < 32 := fun hh => by simp [hh] at hlq
    have h126 : ¬ 126 < z := fun hh => by simp [hh] at hlq
    have n9 : (z != 9) = true := by unfold bne; rw [e9']; rfl
    have n10 : (z != 10) = true := by unfold bne; rw [e10']; rfl
    clear hlq e9 e10 e9' e10'
    go_wp2
    go_round
    case rel => exact ⟨i + 1, by omega, by go_num, HN⟩
    case measure => simp [RowKit.intOf]; omega
  ·have hall : s.data.toList.all letterB = true := by
    rw [List.all_eq_true]
    intro x hx
    obtain ⟨j, hj, rfl⟩ := List.getElem_of_mem hx
    exact HL.out j hj (by have : j < s.size := hj; omega)
   have hrt : r = true := by rw [← HR.out, hall]
   subst hrt
   clear hall HR HL
   go_wp2
   go_ret
   exact ⟨rfl, rfl⟩
set_option maxHeartbeats 4000000 in
set_option maxRecDepth 100000 in
theorem fits_at {k n : Int} {s : ByteArray} {a : Option Addr} {m c : Nat} (hs : s.size ≤ 140737488351232) (hn : I64 n) (h1 : m ≤ c) (h2 : c ≤ maxLen) (h3 : m * 56 ≤ 140737488351232) (w : World) :
  Calls Try.prog 101 #[.agg #[.int .i64 k, .int .i64 n, .string s, .slice a m c]] w fun e w' => e = .returned (.bool (plainT k n s.data.toList m)) ∧ Below w.heap.size w w' := by
 have F := fun w => fitsName_at s hs w
 by_cases k0 : k = 0
 ·subst k0
  have hp : plainT 0 n s.data.toList m = (decide (0 ≤ n) && decide (n < 2147483648) && decide (s.size = 0) && decide (m = 0)) := by
   unfold plainT; rw [if_pos rfl, isEmpty_size']
  by_cases g1 : 0 ≤ n
  ·by_cases g2 : n < 2147483648
   ·have g2' : n ≤ 2147483647 := by omega
    by_cases g3 : s.size = 0
    ·have g3' := toList_empty' g3
     by_cases g4 : m = 0
     ·have hr : plainT 0 n s.data.toList m = true := by rw [hp]; simp [g1, g2, g3, g4]
      rw [hr]
      subst g4
      clear hp g3 hr F
      go_enter Try.func101, Try.ntmps101
      go_wp2
      go_ret
      exact ⟨rfl, bel1' _ _⟩
     ·have hr : plainT 0 n s.data.toList m = false := by rw [hp]; simp [g4]
      rw [hr]
      have g4' : ((m : Int) == 0) = false := by apply beq_false_of_ne; omega
      clear hp g3 hr F
      go_enter Try.func101, Try.ntmps101
      go_wp2
      go_ret
      exact ⟨rfl, bel1' _ _⟩
    ·have hr : plainT 0 n s.data.toList m = false := by rw [hp]; simp [g3]
     rw [hr]
     have g3' := toList_some' g3
     clear hp hr F
     go_enter Try.func101, Try.ntmps101
     go_wp2
     go_ret
     exact ⟨rfl, bel1' _ _⟩
   ·have hr : plainT 0 n s.data.toList m = false := by rw [hp]; simp [g2]
    rw [hr]
    have g2' : ¬ n ≤ 2147483647 := by omega
    clear hp hr F
    go_enter Try.func101, Try.ntmps101
    go_wp2
    go_ret
    exact ⟨rfl, bel1' _ _⟩
  ·have hr : plainT 0 n s.data.toList m = false := by rw [hp]; simp [g1]
   rw [hr]
   clear hp hr F
   go_enter Try.func101, Try.ntmps101
   go_wp2
   go_ret
   exact ⟨rfl, bel1' _ _⟩
 by_cases k1 : k = 1
 ·subst k1
  have hp : plainT 1 n s.data.toList m = (decide (s.size = 0) && decide (m = 0)) := by
   unfold plainT; rw [if_neg (by decide), if_pos rfl, isEmpty_size']
  by_cases g3 : s.size = 0
  ·have g3' := toList_empty' g3
   by_cases g4 : m = 0
   ·have hr : plainT 1 n s.data.toList m = true := by rw [hp]; simp [g3, g4]
    rw [hr]
    subst g4
    clear hp g3 hr F
    go_enter Try.func101, Try.ntmps101
    go_wp2
    go_ret
    exact ⟨rfl, bel1' _ _⟩
   ·have hr : plainT 1 n s.data.toList m = false := by rw [hp]; simp [g4]
    rw [hr]
    have g4' : ((m : Int) == 0) = false := by apply beq_false_of_ne; omega
    clear hp g3 hr F
    go_enter Try.func101, Try.ntmps101
    go_wp2
    go_ret
    exact ⟨rfl, bel1' _ _⟩
  ·have hr : plainT 1 n s.data.toList m = false := by rw [hp]; simp [g3]
   rw [hr]
   have g3' := toList_some' g3
   clear hp hr F
   go_enter Try.func101, Try.ntmps101
   go_wp2
   go_ret
   exact ⟨rfl, bel1' _ _⟩
 have k0' : (k == 0) = false := beq_false_of_ne k0
 have k1' : (k == 1) = false := beq_false_of_ne k1
 by_cases k2 : k = 2
 ·subst k2
  have hp : plainT 2 n s.data.toList m = (decide (n = 0) && decide (m ≤ 8) && fitB s) := by
   unfold plainT fitB; rw [if_neg (by decide), if_neg (by decide), if_pos rfl]
   have e : s.data.toList.length = s.size := rfl
   rw [e]
   cases decide (n = 0) <;> cases decide (s.size ≤ 64) <;> cases decide (m ≤ 8) <;> simp
  by_cases g1 : n = 0
  ·subst g1
   by_cases g3 : m ≤ 8
   ·have hr : plainT 2 0 s.data.toList m = fitB s := by rw [hp, decide_eq_true g3]; simp
    rw [hr]
    have g3i : (m : Int) ≤ 8 := by omega
    clear hr hp k0 k1 k0' k1'
    generalize fitB s = r at F ⊢
    cases r
    ·go_enter Try.func101, Try.ntmps101
     (go_wp2_with fail; go_fit (F _); rintro e w1 ⟨rfl, rfl⟩)
     go_wp2
     go_ret
     exact ⟨rfl, bel1' _ _⟩
    ·go_enter Try.func101, Try.ntmps101
     (go_wp2_with fail; go_fit (F _); rintro e w1 ⟨rfl, rfl⟩)
     go_wp2
     go_ret
     exact ⟨rfl, bel1' _ _⟩
   ·have hr : plainT 2 0 s.data.toList m = false := by rw [hp, decide_eq_false g3]; simp
    rw [hr]
    have g3i : (8 : Int) < m := by omega
    clear hr hp k0 k1 k0' k1'
    generalize fitB s = r at F
    cases r
    ·go_enter Try.func101, Try.ntmps101
     (go_wp2_with fail; go_fit (F _); rintro e w1 ⟨rfl, rfl⟩)
     go_wp2
     go_ret
     exact ⟨rfl, bel1' _ _⟩
    ·go_enter Try.func101, Try.ntmps101
     (go_wp2_with fail; go_fit (F _); rintro e w1 ⟨rfl, rfl⟩)
     go_wp2
     go_ret
     exact ⟨ret_bool (decide_eq_false (by omega)), bel1' _ _⟩
  ·have hr : plainT 2 n s.data.toList m = false := by rw [hp]; simp [g1]
   rw [hr]
   have g1' : (n == 0) = false := beq_false_of_ne g1
   clear hp hr k0 k1 k0' k1' F
   go_enter Try.func101, Try.ntmps101
   go_wp2
   go_ret
   exact ⟨rfl, bel1' _ _⟩
 ·have hr : plainT k n s.data.toList m = false := by unfold plainT; rw [if_neg k0, if_neg k1, if_neg k2]
  rw [hr]
  have k2' : (k == 2) = false := beq_false_of_ne k2
  clear hr k0 k1 k2 F
  go_enter Try.func101, Try.ntmps101
  go_wp2
  go_ret
  exact ⟨rfl, bel1' _ _⟩
end Go.Proofs.Ytchbbaehdcmcfaa
/- Package term: what is good. -/
namespace Go.Proofs.Ytchbbaehdcmcfaa
open Go.RowKit
set_option linter.unusedVariables false
def okT (t : Tm) (q : Nat) : Bool := decide (depthN t ≤ q) && formedT t
def okL : List Tm → Nat → Bool
 | [], _ => true
 | x :: r, q => okT x q && okL r q
theorem okL_eq : ∀ (l : List Tm) (q : Nat), okL l q = (decide (depthsN l ≤ q) && formedL l)
 | [], q => by simp [okL, depthsN, formedL]
 | x :: r, q => by
  rw [okL, okL_eq r q, depthsN, formedL]
  unfold okT
  by_cases h1 : depthN x ≤ q
  ·by_cases h2 : depthsN r ≤ q
   ·rw [decide_eq_true h1, decide_eq_true h2, decide_eq_true (by omega)]
    cases formedT x <;> cases formedL r <;> rfl
   ·rw [decide_eq_true h1, decide_eq_false h2, decide_eq_false (by omega)]
    cases formedT x <;> rfl
  ·have e : decide (max (depthN x) (depthsN r) ≤ q) = false := decide_eq_false (by omega)
   rw [decide_eq_false h1, e]
   rfl
theorem okT_zero (t : Tm) : okT t 0 = false := by
 unfold okT
 have := depth_pos t
 rw [decide_eq_false (by omega)]
 rfl
theorem okT_succ (k n : Int) (s : ByteArray) (ts : List Tm) (q : Nat) : okT (.mk k n s ts) (q + 1) = (plainT k n s.data.toList ts.length && okL ts q) := by
 unfold okT
 rw [okL_eq, formedT, depthN]
 by_cases h : depthsN ts ≤ q
 ·rw [decide_eq_true h, decide_eq_true (by omega)]
  cases plainT k n s.data.toList ts.length <;> rfl
 ·rw [decide_eq_false h, decide_eq_false (by omega)]
  cases plainT k n s.data.toList ts.length <;> rfl
set_option maxHeartbeats 4000000 in
set_option maxRecDepth 100000 in
theorem good_at : ∀ (q : Nat) (x : Tm), q ≤ 1000000 → ∀ (w : World) (v : Value), TmV w x v →
  Calls Try.prog 66 #[v, .int .i64 q] w fun e w' => e = .returned (.bool (okT x q)) ∧ Below w.heap.size w w'
 | 0, x, hq, w, v, hv => by
  obtain ⟨k, n, s, u, rfl⟩ := hv.four
  rw [okT_zero]
  clear hv
  go_enter Try.func66, Try.ntmps66
  go_wp2
  go_ret
  exact ⟨rfl, bel1' _ _⟩
 | q + 1, .mk k n s ts, hq, w, v, hv => by
  obtain ⟨u, rfl, hs, hk, hn, hu⟩ := tmV_iff.1 hv
  obtain ⟨a, c, rfl, h1, h2, h3⟩ := hu.len
  unfold BIG at h3 hs
  rw [okT_succ]
  obtain ⟨m, hm⟩ : ∃ m, ts.length = m := ⟨_, rfl⟩
  have IH := Lib.hid (fun (y : Tm) => good_at q y (by omega))
  have HU := Lib.hid hu
  have HM := Lib.hid hm
  rw [hm] at h1 h3 hu HU ⊢
  have F := fun w => fits_at (k := k) (n := n) (s := s) (a := a) (m := m) (c := c) hs hn h1 h2 h3 w
  obtain ⟨p, hp⟩ : ∃ p, plainT k n s.data.toList m = p := ⟨_, rfl⟩
  rw [hp] at F ⊢
  obtain ⟨Q, hQ⟩ : ∃ Q : Int, ((q + 1 : Nat) : Int) = Q := ⟨_, rfl⟩
  rw [hQ]
  have hq1 : Q - 1 = q := by omega
  have hQ0 : (Q == 0) = false := by apply beq_false_of_ne; omega
  have hQb : Q ≤ 1000001 := by omega
  have hQ1 : 0 < Q := by omega
  clear hv hu hm hp hQ
  cases p
  ·rw [Bool.false_and]
   go_enter Try.func66, Try.ntmps66
   (go_wp2_with fail; go_fit (F _); rintro e w1 ⟨rfl, b1⟩)
   have B1 := Lib.hid (Ext.trans' (bel1' w _) b1)
   clear b1
   go_wp2
   go_ret
   exact ⟨rfl, B1.out⟩
  ·rw [Bool.true_and]
   obtain ⟨r, hr⟩ : ∃ r, okL ts q = r := ⟨_, rfl⟩
   rw [hr]
   have HR := Lib.hid hr
   clear hr
   go_enter Try.func66, Try.ntmps66
   (go_wp2_with fail; go_fit (F _); rintro e w1 ⟨rfl, b1⟩)
   obtain ⟨e0, e1, e2, e3⟩ := box_cells w 31 _ _ _ _ b1
   have B1 := Lib.hid (Ext.trans' (bel1' w _) b1)
   clear b1 F
   go_wp2_with fail
   go_loopw [17] (fun v wr => ∃ i : Nat, i ≤ m ∧ v = .int .i64 i ∧ Hid (okL (ts.drop i) q = r) ∧ Hid (Below w.heap.size w wr)) (fun v _ => m - (RowKit.intOf v).toNat)
   case atStart => exact ⟨0, Nat.zero_le _, rfl, Lib.hid (by rw [List.drop_zero]; exact HR.out), B1⟩
   case round =>
    obtain ⟨i, hi, rfl, HD, HB⟩ := hrel
    by_cases hil : i < m
    ·obtain ⟨y, hy⟩ : ∃ y, ts[i]? = some y := ⟨_, List.getElem?_eq_getElem (by rw [HM.out]; exact hil)⟩
     have hdr : ts.drop i = y :: ts.drop (i + 1) := by
      obtain ⟨hlt', rfl⟩ := List.getElem?_eq_some_iff.1 hy
      exact List.drop_eq_getElem_cons hlt'
     have hd := HD.out
     rw [hdr, okL] at hd
     obtain ⟨b, off, k', n', s', u', rfl, hbb, _, _, _, c0, c1, c2, c3, htu, ht⟩ := (HU.out.ext HB.out).get hy
     obtain ⟨au, cu, rfl, _⟩ := htu.len
     clear htu
     have ih := IH.out y _ _ (TmV.ext (bel1' wr (box4 k' n' s' (.slice au y.args.length cu) 31)) _ _ ht)
     clear hdr HD ht
     cases hq : okT y q
     ·rw [hq, Bool.false_and] at hd
      rw [hq] at ih
      subst hd
      clear hq hy HR
      (go_wp2_with fail; go_fit (ih); rintro e w2 ⟨rfl, b2⟩)
      have B2 := Lib.hid (Ext.trans' HB.out (Ext.trans' (bel1' _ _) b2))
      clear b2
      go_wp2
      go_ret
      exact ⟨rfl, B2.out⟩
     ·rw [hq, Bool.true_and] at hd
      rw [hq] at ih
      have HD := Lib.hid hd
      clear hq hd hy
      (go_wp2_with fail; go_fit (ih); rintro e w2 ⟨rfl, b2⟩)
      have B2 := Lib.hid (Ext.trans' HB.out (Ext.trans' (bel1' _ _) b2))
      clear b2
      go_wp2
      go_roundw
      case rel => exact ⟨i + 1, by omega, by go_num, HD, B2⟩
      case measure => simp [RowKit.intOf]; omega
    ·have hd := HD.out
     rw [List.drop_eq_nil_of_le (by rw [HM.out]; omega), okL] at hd
     subst hd
     clear HR HD
     go_wp2
     go_ret
     exact ⟨rfl, HB.out⟩
theorem Good_at (x : Tm) (w : World) (v : Value) (hv : TmV w x v) : Calls Try.prog 27 #[v] w fun e w' => e = .returned (.bool (goodT x)) ∧ Below w.heap.size w w' := by
 have S := fun w (h : TmV w x v) => size_at x w v h
 have G := fun w (h : TmV w x v) => good_at 64 x (by omega) w v h
 have hg : goodT x = (decide (sizeN x ≤ 2000) && okT x 64) := by
  unfold goodT okT
  rw [Bool.and_assoc]
 obtain ⟨k, n, s, u, rfl⟩ := hv.four
 have hv0 := TmV.ext (bel1' w (box4 k n s u 31)) _ _ hv
 obtain ⟨p, hp⟩ : ∃ p, min (sizeN x) 2001 = p := ⟨_, rfl⟩
 rw [hp] at S
 rw [hg]
 generalize okT x 64 = f at G ⊢
 clear hg hv
 by_cases h1 : p ≤ 2000
 ·rw [decide_eq_true (by omega), Bool.true_and]
  clear hp
  go_enter Try.func27, Try.ntmps27
  (go_wp2_with fail; go_fit (S _ hv0); rintro e w1 ⟨rfl, b1⟩)
  obtain ⟨e0, e1, e2, e3⟩ := box_cells w 31 _ _ _ _ b1
  have hv1 := TmV.ext b1 _ _ hv0
  (go_wp2_with fail; go_fit (G _ hv1); rintro e w2 ⟨rfl, b2⟩)
  have B2 := Lib.hid (Ext.trans' (bel1' w _) (Ext.trans' b1 b2))
  clear b1 b2
  go_wp2
  go_ret
  exact ⟨rfl, B2.out⟩
 ·rw [decide_eq_false (by omega), Bool.false_and]
  clear hp
  go_enter Try.func27, Try.ntmps27
  (go_wp2_with fail; go_fit (S _ hv0); rintro e w1 ⟨rfl, b1⟩)
  obtain ⟨e0, e1, e2, e3⟩ := box_cells w 31 _ _ _ _ b1
  have B1 := Lib.hid (Ext.trans' (bel1' w _) b1)
  clear b1
  go_wp2
  go_ret
  exact ⟨rfl, B1.out⟩
end Go.Proofs.Ytchbbaehdcmcfaa
/- A region that draws its order, walked operation by operation while a condition holds. Nothing here speaks of one program. -/
namespace Go
section
variable {P : Program} {md : Region.Mode} {ops : Array Oper} {Q : Exit → Act → World → Prop} {S : World → Prop}
theorem held_t {i : Nat} {oi : Oper} {fuel : Nat} {listed : Array Bool} {a : Act} {w : World} (hS : S w)
  (h : ∃ v, (∀ w, S w → (execOp a.eval oi).run P w = .ok (.value v) w) ∧ wpAnyH P md ops Q S fuel (listed.setIfInBounds i true) (a.put oi.dst v) w)
  (hi : ops[i]? = some oi := by simp only [List.getElem?_toArray, List.getElem?_cons_zero, List.getElem?_cons_succ]; rfl)
  (hs : Region.noSelect ops = true := by kernel_rfl) (hf : Region.free md ops listed i = true := by kernel_rfl) (hr : (Region.ready md ops listed).contains i = true := by kernel_rfl) (hw : Region.wanted oi (yielded ops a.tmps) = true := by rfl)
  (hQ : ∀ v c a w, Q (.panic c) (a.put oi.dst v) w → Q (.panic c) a w := by exact fun _ _ _ _ h => h) : wpAnyH P md ops Q S (fuel + 1) listed a w := by
 obtain ⟨v, h1, h2⟩ := h
 exact wpAnyH_take hi hs hf hr (hQ v) (Or.inl ⟨hw, h1⟩) hS h2
theorem held_s {i : Nat} {oi : Oper} {fuel : Nat} {listed : Array Bool} {a : Act} {w : World} (hS : S w) (h : wpAnyH P md ops Q S fuel (listed.setIfInBounds i true) (a.put oi.dst undef) w)
  (hi : ops[i]? = some oi := by simp only [List.getElem?_toArray, List.getElem?_cons_zero, List.getElem?_cons_succ]; rfl)
  (hs : Region.noSelect ops = true := by kernel_rfl) (hf : Region.free md ops listed i = true := by kernel_rfl) (hr : (Region.ready md ops listed).contains i = true := by kernel_rfl) (hw : Region.wanted oi (yielded ops a.tmps) = false := by rfl)
  (hQ : ∀ c a w, Q (.panic c) (a.put oi.dst undef) w → Q (.panic c) a w := by exact fun _ _ _ h => h) : wpAnyH P md ops Q S (fuel + 1) listed a w :=
 wpAnyH_take hi hs hf hr hQ (Or.inr ⟨hw, rfl⟩) hS h
theorem held_c (i : Nat) {o : Oper} {fuel : Nat} {listed : Array Bool} {a : Act} {w : World}
  (h : ∀ K' : Act → World → Prop, Shut (∀ a w, S w → (S w → wpAnyH P md ops Q S fuel (listed.setIfInBounds i true) a w) → K' a w) → if Region.wanted o (yielded ops a.tmps) = true then Oper.wp P o a w K' Q else K' (a.put o.dst undef) w)
  (hr : Region.ready md ops listed = [i] := by kernel_rfl) (hi : ops[i]? = some o := by simp only [List.getElem?_toArray, List.getElem?_cons_zero, List.getElem?_cons_succ]; rfl) : wpAnyH P md ops Q S (fuel + 1) listed a w :=
 wpAnyH_ready hr (by simp) (AllReadyH.cons hi h AllReadyH.nil)
end
end Go
/- Drawn together by pull.py from XPrM XPrN XPrB XPrE XPrF XPrG XPrH XPsB. -/
namespace Go.Proofs.Ytchbbaehdcmcfaa
open Go.RowKit
set_option linter.unusedVariables false
theorem row_at {w w' : World} {B k n : Nat} {e : TypeId} {v : Value} {xs : List Value} (h : w.ownsRow B e k v n xs) (hb : ∀ g, v.ownBlock = some g → w'.heap[g]? = w.heap[g]?) : w'.ownsRow B e k v n xs := by
 obtain ⟨h0, h1⟩ := h
 refine ⟨h0, ?_⟩
 rcases h1 with h1 | ⟨g, cap, cur, rfl, hg, hh, h2⟩
 ·exact Or.inl h1
 ·exact Or.inr ⟨g, cap, cur, rfl, hg, by rw [hb g rfl]; exact hh, h2⟩
theorem row_in {w : World} {B k n : Nat} {e : TypeId} {v : Value} {xs : List Value} (h : w.ownsRow B e k v n xs) {g : Nat} (hg : v.ownBlock = some g) : B ≤ g ∧ g < w.heap.size := by
 rcases h.2 with ⟨rfl, _⟩ | ⟨g', cap, cur, rfl, h1, h2, _⟩
 ·cases hg
 ·cases hg
  exact ⟨h1, (Array.getElem?_eq_some_iff.1 h2).1⟩
structure Box (w : World) (b : Nat) (vs : List Value) : Prop where
 cells : ∀ j u, vs[j]? = some u → w.cell? ⟨b, j, none⟩ = some u
 fz : ∀ j, w.frozen? ⟨b, j, none⟩ = false
 lt : b < w.heap.size
theorem box_new (w : World) (cs : Array Value) (ty : TypeId) : ∃ w1, w.alloc (.cells cs ty) = w1 ∧ Below w.heap.size w w1 ∧ w1.heap.size = w.heap.size + 1 ∧ Box w1 w.heap.size cs.toList := by
 refine ⟨_, rfl, bel1' _ _, by simp, fun j u h => ?_, fun j => by simp, by simp⟩
 have := cell_new w cs ty j u h
 rw [add_plain, Nat.zero_add] at this
 exact this
theorem Box.ext {w w' : World} {b : Nat} {vs : List Value} (h : Box w b vs) (hb : Below w.heap.size w w') : Box w' b vs :=
 ⟨fun j u hu => cell_later hb (h.cells j u hu), fun j => (hb.frozen (p := ⟨b, j, none⟩) h.lt).trans (h.fz j), Nat.lt_of_lt_of_le h.lt hb.size⟩
theorem Box.four {w : World} {b : Nat} {v0 v1 v2 v3 : Value} (h : Box w b [v0, v1, v2, v3]) : w.cell? ⟨b, 0, none⟩ = some v0 ∧ w.cell? ⟨b, 1, none⟩ = some v1 ∧ w.cell? ⟨b, 2, none⟩ = some v2 ∧ w.cell? ⟨b, 3, none⟩ = some v3 ∧ ∀ j, w.frozen? ⟨b, j, none⟩ = false :=
 ⟨h.cells 0 _ rfl, h.cells 1 _ rfl, h.cells 2 _ rfl, h.cells 3 _ rfl, h.fz⟩
abbrev set3 (w : World) (b : Nat) (u0 u1 u2 : Value) : World := ((w.setCell ⟨b, 0, none⟩ u0).setCell ⟨b, 1, none⟩ u1).setCell ⟨b, 2, none⟩ u2
abbrev set4 (w : World) (b : Nat) (u0 u1 u2 u3 : Value) : World := (set3 w b u0 u1 u2).setCell ⟨b, 3, none⟩ u3
theorem Below.set3 {B : Nat} {w w' : World} (h : Below B w w') {b : Nat} (hb : B ≤ b) (u0 u1 u2 : Value) : Below B w (Go.Proofs.Ytchbbaehdcmcfaa.set3 w' b u0 u1 u2) :=
 ((h.setCell (p := ⟨b, 0, none⟩) hb _).setCell (p := ⟨b, 1, none⟩) hb _).setCell (p := ⟨b, 2, none⟩) hb _
theorem Below.set4 {B : Nat} {w w' : World} (h : Below B w w') {b : Nat} (hb : B ≤ b) (u0 u1 u2 u3 : Value) : Below B w (Go.Proofs.Ytchbbaehdcmcfaa.set4 w' b u0 u1 u2 u3) :=
 (Below.set3 h hb u0 u1 u2).setCell (p := ⟨b, 3, none⟩) hb _
theorem take_next {α : Type} {l : List α} {k : Nat} {x : α} (h : l[k]? = some x) : l.take (k + 1) = l.take k ++ [x] := by rw [List.take_add_one, h]; rfl
end Go.Proofs.Ytchbbaehdcmcfaa
/- Package index: Of, May, plain; the document's own May; the law's key. -/
namespace Go.Proofs.Ytchbbaehdcmcfaa
open Go.RowKit
set_option linter.unusedVariables false
theorem sameKey_l (a b : KeyM) : (a.k == b.k && (a.n == b.n && (a.s.toList == b.s.toList && a.ar == b.ar))) = sameKey a b := by
 unfold sameKey
 rw [Lib.toList_data, Lib.toList_data, Bool.and_assoc, Bool.and_assoc]
theorem ixEq (a b : KeyM) (w : World) : (Op.equalIn 10000 76 (ixV a) (ixV b)).run Try.prog w = .ok (sameKey a b) w := by
 have u2 := Try.underlying2
 have a2 := Try.isAgg2
 have z2 := Try.sizeOf2
 have u3 := Try.underlying3
 have a3 := Try.isAgg3
 have z3 := Try.sizeOf3
 have u9 := Try.underlying9
 have a9 := Try.isAgg9
 have z9 := Try.sizeOf9
 have hS : Try.prog.underlying 76 = some (.struct (Try.prog.fieldsOf 76)) := by kernel_rfl
 have hp : Try.prog.stoodInHeld 76 = false := by kernel_rfl
 rw [← sameKey_l, show (10000 : Nat) = 9999 + 1 from rfl, run_equalIn_agg w 9999 76 _ _ hS hp]
 simp only [Program.fieldsOf, Try.underlying76]
 go_simp
 by_cases h0 : a.k = b.k <;> by_cases h1 : a.n = b.n <;> by_cases h2 : a.s.toList = b.s.toList <;> by_cases h3 : a.ar = b.ar <;> simp [h0, h1, h2, h3]
set_option maxHeartbeats 2000000 in
theorem ixMay_at (a b : KeyM) (w : World) : Calls Try.prog 47 #[ixV a, ixV b] w fun e w' => e = .returned (.bool (mayK a b)) ∧ Below w.heap.size w w' := by
 obtain ⟨w1, e1, B1, z1, X1⟩ := box_new w #[.int .i64 a.k, .int .i64 a.n, .string a.s, .int .i64 a.ar] 76
 obtain ⟨w2, e2, B2, z2, X2⟩ := box_new w1 #[.int .i64 b.k, .int .i64 b.n, .string b.s, .int .i64 b.ar] 76
 have hB := Ext.trans' B1 B2
 rw [z1] at X2
 obtain ⟨x0, x1, x2, x3, _⟩ := (X1.ext B2).four
 obtain ⟨y0, y1, y2, y3, _⟩ := X2.four
 have HE := Lib.hid (And.intro e1 e2)
 obtain ⟨r, hr⟩ : ∃ r, mayK a b = r := ⟨_, rfl⟩
 have HR := Lib.hid hr
 rw [hr]
 unfold mayK at hr
 clear e1 e2 B1 B2 z1 z2 X1 X2
 go_enter Try.func47, Try.ntmps47
 go_upto_region 1 with fail
 (try rw [HE.out.1])
 (try rw [HE.out.2])
 by_cases h1 : a.k = 0
 ·obtain rfl : r = true := by rw [← hr]; simp [h1]
  have h1' : (a.k == 0) = true := by simpa using h1
  clear HE
  go_wp2
  go_ret
  exact ⟨rfl, hB⟩
 have h1' : (a.k == 0) = false := by simpa using h1
 by_cases h2 : b.k = 0
 ·obtain rfl : r = true := by rw [← hr]; simp [h2]
  have h2' : (b.k == 0) = true := by simpa using h2
  clear HE
  go_wp2
  go_ret
  exact ⟨rfl, hB⟩
 have h2' : (b.k == 0) = false := by simpa using h2
 have hsk : sameKey a b = r := by rw [← hr, h1', h2']; simp
 have he : ∀ wq : World, (Op.equalIn 10000 76 (.agg #[.int .i64 a.k, .int .i64 a.n, .string a.s, .int .i64 a.ar]) (.agg #[.int .i64 b.k, .int .i64 b.n, .string b.s, .int .i64 b.ar])).run Try.prog wq = .ok r wq := fun wq => by rw [← hsk]; exact ixEq a b wq
 clear hsk hr
 clear HE
 go_wp2
 go_ret
 exact ⟨rfl, hB⟩
end Go.Proofs.Ytchbbaehdcmcfaa
/- Package index: Of; the document's KeyOf. -/
namespace Go.Proofs.Ytchbbaehdcmcfaa
open Go.RowKit
set_option linter.unusedVariables false
theorem argKey_is {a : Tm} (h : formedT a = true) (hk : a.k ≠ 0) : argKey a = ⟨a.k, a.n, a.s, (a.args.length : Nat)⟩ := by
 rcases formed_kids h with ⟨g, _⟩ | ⟨g, e⟩ | ⟨g, e⟩
 ·exact absurd g hk
 ·unfold argKey
  rw [if_neg hk, if_pos g]
  have e1 : a.s = ⟨#[]⟩ := by rw [e]; rfl
  have e2 : a.args = [] := by rw [e]; rfl
  rw [g, e1, e2]
  rfl
 ·unfold argKey
  rw [if_neg hk, if_neg (by rw [g]; decide)]
  have e1 : a.n = 0 := by rw [e]; rfl
  rw [g, e1]
theorem i64of2 : I64 2 := ⟨by decide, by decide⟩
theorem i64of0 : I64 0 := ⟨by decide, by decide⟩
set_option maxHeartbeats 4000000 in
set_option maxRecDepth 100000 in
theorem ixOf_at (t : Tm) (w : World) (v : Value) (hv : TmV w t v) : Calls Try.prog 41 #[v] w fun e w' => e = .returned (ixV (keyT t)) ∧ Below w.heap.size w w' := by
 have HV := Lib.hid hv
 obtain ⟨k, n, s, ts⟩ := t
 obtain ⟨u, rfl, hss, hkk, hnn, hts⟩ := tmV_iff.1 hv
 obtain ⟨a, c, rfl, ha1, ha2, ha3⟩ := hts.len
 unfold maxLen at ha2
 unfold BIG at ha3
 obtain ⟨m, hm⟩ : ∃ m, ts.length = m := ⟨_, rfl⟩
 have HM := Lib.hid hm
 have HT := Lib.hid hts
 obtain ⟨R, hR⟩ : ∃ R, keyT (.mk k n s ts) = R := ⟨_, rfl⟩
 have HR := Lib.hid hR
 rw [hR]
 rw [hm] at HV HT ha1 ha3 ⊢
 obtain ⟨w1, e1, B1, z1, X1⟩ := box_new w #[.int .i64 k, .int .i64 n, .string s, .slice a m c] 31
 obtain ⟨w2, e2, B2, z2, X2⟩ := box_new w1 #[.int .i64 0, .int .i64 0, .string ⟨#[]⟩, .int .i64 0] 76
 have hB := Ext.trans' B1 B2
 rw [z1] at X2
 have HE := Lib.hid (And.intro e1 e2)
 have HB := Lib.hid hB
 have HX := Lib.hid (And.intro (X1.ext B2) X2)
 obtain ⟨x0, x1, x2, x3, _⟩ := HX.out.1.four
 clear e1 e2 B1 B2 z1 z2 X1 X2 hB hv hss hkk hnn hts hm hR
 go_enter Try.func41, Try.ntmps41
 go_upto_region 1 with fail
 (try rw [HE.out.1])
 (try rw [HE.out.2])
 clear HE
 by_cases hm0 : m = 0
 ·subst hm0
  have hr : R = zeroKey := by
   rw [← HR.out]
   unfold keyT
   split
   ·rw [show (Tm.mk k n s ts).args = [] from List.length_eq_zero_iff.1 HM.out]
   ·rfl
  obtain ⟨y0, y1, y2, y3, yf⟩ := HX.out.2.four
  have hb2 := Below.set4 (b := w.heap.size + 1) HB.out (by omega) (.int .i64 0) (.int .i64 0) (.string ⟨#[]⟩) (.int .i64 0)
  go_wp2
  refine bodyPost_ret (v := .agg #[.int .i64 0, .int .i64 0, .string ⟨#[]⟩, .int .i64 0]) (by rw [results_cell1 rfl]; go_simp) rfl ⟨by first | rfl | (rw [hr]; rfl), hb2⟩
 have hm1 : ((m : Int) == 0) = false := by simp; omega
 have C := Good_at (.mk k n s ts) w2 _ (TmV.ext HB.out _ _ HV.out)
 cases hg : goodT (.mk k n s ts)
 ·rw [hg] at C
  (go_wp2_with fail; go_fit (C); rintro e w3 ⟨rfl, b3⟩)
  have hr : R = zeroKey := by rw [← HR.out]; unfold keyT; rw [if_neg (by rw [hg]; simp)]
  obtain ⟨y0, y1, y2, y3, yf⟩ := (HX.out.2.ext b3).four
  have hb2 := Below.set4 (b := w.heap.size + 1) (Ext.trans' HB.out b3) (by omega) (.int .i64 0) (.int .i64 0) (.string ⟨#[]⟩) (.int .i64 0)
  clear hg b3 C x0 x1 x2 x3
  go_wp2
  refine bodyPost_ret (v := .agg #[.int .i64 0, .int .i64 0, .string ⟨#[]⟩, .int .i64 0]) (by rw [results_cell1 rfl]; go_simp) rfl ⟨by first | rfl | (rw [hr]; rfl), hb2⟩
 rw [hg] at C
 (go_wp2_with fail; go_fit (C); rintro e w3 ⟨rfl, b3⟩)
 have HB3 := Lib.hid (Ext.trans' HB.out b3)
 have HX3 := Lib.hid (And.intro (HX.out.1.ext b3) (HX.out.2.ext b3))
 have HG := Lib.hid hg
 clear hg b3 C x0 x1 x2 x3
 obtain ⟨x0, x1, x2, x3, _⟩ := HX3.out.1.four
 obtain ⟨y, hy⟩ : ∃ y, ts[0]? = some y := ⟨_, List.getElem?_eq_getElem (by rw [HM.out]; omega)⟩
 obtain ⟨b, off, k1, n1, s1, u1, rfl, hbb, g1, g2, g3, c0, c1, c2, c3, hu1, ht⟩ := HT.out.get hy
 obtain ⟨a1, l1, rfl, _, hl2, _⟩ := hu1.len
 unfold maxLen at hl2
 replace c0 := cell_later HB3.out c0
 replace c1 := cell_later HB3.out c1
 replace c2 := cell_later HB3.out c2
 replace c3 := cell_later HB3.out c3
 rw [Nat.zero_mul, Nat.add_zero] at c0 c1 c2 c3
 have hR : R = argKey y := by
  rw [← HR.out]
  unfold keyT
  rw [if_pos HG.out]
  show (match ts with | [] => zeroKey | a :: _ => argKey a) = _
  cases ts with
  | nil => simp at hy
  | cons q r => injection hy with hy; rw [hy]
 have hf : formedT y = true := (good_parts (good_arg HG.out (t := .mk k n s ts) (List.mem_of_getElem? hy))).2.2
 have HKey := Lib.hid (And.intro hR (And.intro hf (And.intro g1 (And.intro g2 g3))))
 obtain ⟨q, hq⟩ : ∃ q, y.args.length = q := ⟨_, rfl⟩
 have HQ := Lib.hid hq
 rw [hq] at c3
 clear hR hf g1 g2 g3 hu1 ht hy hbb hq
 go_upto_region 4 with fail
 obtain ⟨w4, e4, B4, z4, X4⟩ := box_new w3 #[.int .i64 k1, .int .i64 n1, .string s1, .slice a1 q l1] 31
 (try rw [e4])
 obtain ⟨z0, zz1, zz2, zz3, _⟩ := X4.four
 obtain ⟨y0, y1, y2, y3, yf⟩ := (HX3.out.2.ext B4).four
 have HB4 := Lib.hid (Ext.trans' HB3.out B4)
 clear e4 B4 z4 X4 x0 x1 x2 x3 c0 c1 c2 c3
 by_cases hk1 : k1 = 0
 ·have hk1' : (k1 == 0) = true := by simpa using hk1
  have hr : R = zeroKey := by
   rw [HKey.out.1]
   unfold argKey
   rw [if_pos (by rw [HKey.out.2.2.1]; exact hk1)]
  have hb2 := Below.set4 (b := w.heap.size + 1) HB4.out (by omega) (.int .i64 0) (.int .i64 0) (.string ⟨#[]⟩) (.int .i64 0)
  go_wp2
  refine bodyPost_ret (v := .agg #[.int .i64 0, .int .i64 0, .string ⟨#[]⟩, .int .i64 0]) (by rw [results_cell1 rfl]; go_simp) rfl ⟨by first | rfl | (rw [hr]; rfl), hb2⟩
 ·have hk1' : (k1 == 0) = false := by simpa using hk1
  have hr : R = ⟨k1, n1, s1, (q : Int)⟩ := by
   rw [HKey.out.1, argKey_is HKey.out.2.1 (by rw [HKey.out.2.2.1]; exact hk1), HKey.out.2.2.1, HKey.out.2.2.2.1, HKey.out.2.2.2.2, HQ.out]
  have hb2 := Below.set4 (b := w.heap.size + 1) HB4.out (by omega) (.int .i64 k1) (.int .i64 n1) (.string s1) (.int .i64 (q : Int))
  go_wp2
  refine bodyPost_ret (v := .agg #[.int .i64 k1, .int .i64 n1, .string s1, .int .i64 (q : Int)]) (by rw [results_cell1 rfl]; go_simp) rfl ⟨by first | rfl | rw [hr], hb2⟩
end Go.Proofs.Ytchbbaehdcmcfaa
/- Rows of numbers; a term's variables' numbers, one behind the other. -/
namespace Go.Proofs.Ytchbbaehdcmcfaa
open Go.RowKit
set_option linter.unusedVariables false
def Nums (w : World) (v : Value) (l : List Int) : Prop := Elems 1 (fun n => [Value.int .i64 n]) w v l
theorem Nums.ext {w w' : World} {v : Value} {l : List Int} (h : Nums w v l) (hb : Below w.heap.size w w') : Nums w' v l := Elems.ext h hb
theorem Nums.get {w : World} {a : Option Addr} {m c : Nat} {l : List Int} (h : Nums w (.slice a m c) l) {i : Nat} {x : Int} (hx : l[i]? = some x) : ∃ b off, a = some ⟨b, off, none⟩ ∧ b < w.heap.size ∧ w.cell? ⟨b, off + i, none⟩ = some (.int .i64 x) := by
 obtain ⟨a', c', e, h1, h2, h3⟩ := h
 cases e
 rcases h3 with rfl | ⟨b, off, rfl, hb, hc⟩
 ·simp at hx
 ·exact ⟨b, off, rfl, hb, by have := hc i x hx 0 _ rfl; simpa using this⟩
theorem Nums.len {w : World} {v : Value} {l : List Int} (h : Nums w v l) : ∃ a c, v = .slice a l.length c ∧ l.length ≤ c ∧ c ≤ maxLen := by
 obtain ⟨a, c, h1, h2, h3, _⟩ := h
 exact ⟨a, c, h1, h2, h3⟩
abbrev numCells (n : Int) : List Value := [Value.int .i64 n]
end Go.Proofs.Ytchbbaehdcmcfaa
/- slices.Concat at rows of numbers. -/
namespace Go.Proofs.Ytchbbaehdcmcfaa
open Go.Shelf Go.RowKit
set_option linter.unusedVariables false
theorem infoIntP : ∃ i, Try.prog.info? 3 = some i ∧ i.zero = some (.int .i64 0) ∧ i.size = 1 ∧ i.bytes = 8 := by
 have h : (Try.prog.info? 3).map (fun i => (i.zero, i.size, i.bytes)) = some (some (.int .i64 0), 1, 8) := by kernel_rfl
 cases hi : Try.prog.info? 3 with
 | none => rw [hi] at h; simp at h
 | some i => rw [hi] at h; simp only [Option.map_some, Option.some.injEq, Prod.mk.injEq] at h; exact ⟨i, rfl, h.1, h.2.1, h.2.2⟩
end Go.Proofs.Ytchbbaehdcmcfaa
/- Package index: Pick over a row of keys; the law's ints. -/
namespace Go.Proofs.Ytchbbaehdcmcfaa
open Go.RowKit
set_option linter.unusedVariables false
def Keys (w : World) (v : Value) (l : List KeyM) : Prop := Elems 4 ixCells w v l
theorem Keys.ext {w w' : World} {v : Value} {l : List KeyM} (h : Keys w v l) (hb : Below w.heap.size w w') : Keys w' v l := Elems.ext h hb
theorem Keys.len {w : World} {v : Value} {l : List KeyM} (h : Keys w v l) : ∃ a c, v = .slice a l.length c ∧ l.length ≤ c ∧ c ≤ maxLen := by
 obtain ⟨a, c, h1, h2, h3, _⟩ := h
 exact ⟨a, c, h1, h2, h3⟩
theorem Keys.get {w : World} {a : Option Addr} {m c : Nat} {l : List KeyM} (h : Keys w (.slice a m c) l) {i : Nat} {x : KeyM} (hx : l[i]? = some x) : ∃ b off, a = some ⟨b, off, none⟩ ∧ b < w.heap.size ∧ w.cell? ⟨b, off + i * 4, none⟩ = some (.int .i64 x.k) ∧ w.cell? ⟨b, off + i * 4 + 1, none⟩ = some (.int .i64 x.n) ∧ w.cell? ⟨b, off + i * 4 + 2, none⟩ = some (.string x.s) ∧ w.cell? ⟨b, off + i * 4 + 3, none⟩ = some (.int .i64 x.ar) := by
 obtain ⟨a', c', e, h1, h2, h3⟩ := h
 cases e
 rcases h3 with rfl | ⟨b, off, rfl, hb, hc⟩
 ·simp at hx
 ·have c0 := hc i x hx 0 _ rfl
  have c1 := hc i x hx 1 _ rfl
  have c2 := hc i x hx 2 _ rfl
  have c3 := hc i x hx 3 _ rfl
  rw [Nat.add_zero] at c0
  rw [← Nat.add_assoc] at c1 c2 c3
  exact ⟨b, off, rfl, hb, c0, c1, c2, c3⟩
theorem pickF_len (k : KeyM) : ∀ (l : List KeyM) (i : Nat), (pickF k l i).length ≤ l.length
 | [], i => Nat.le_refl _
 | a :: l, i => by
  have := pickF_len k l (i + 1)
  rw [pickF]
  split
  ·simp only [List.length_cons]; omega
  ·simp only [List.length_cons]; omega
theorem pickF_next {k : KeyM} {l : List KeyM} {i : Nat} {x : KeyM} (h : l[i]? = some x) : pickF k (l.take (i + 1)) 0 = pickF k (l.take i) 0 ++ (if mayK x k = true then [(i : Int)] else []) := by
 have hi := (List.getElem?_eq_some_iff.1 h).1
 rw [take_next h, pickF_snoc, List.length_take, Nat.min_eq_left (by omega)]
set_option maxHeartbeats 4000000 in
set_option maxRecDepth 100000 in
theorem ixPick_at {w : World} {v : Value} {l : List KeyM} (h : Keys w v l) (hl : l.length ≤ 1000000) (k : KeyM) :
    Calls Try.prog 50 #[v, ixV k] w fun e w' => ∃ r, e = .returned r ∧ w'.ownsRow w.heap.size 3 1 r (pickF k l 0).length ((pickF k l 0).flatMap numCells) ∧ Below w.heap.size w w' := by
  obtain ⟨a, c, rfl, h1, h2⟩ := h.len
  unfold maxLen at h2
  obtain ⟨m, hm⟩ : ∃ m, l.length = m := ⟨_, rfl⟩
  have HM := Lib.hid hm
  rw [hm] at h h1 hl ⊢
  have HK := Lib.hid h
  obtain ⟨w1, e1, B1, z1, X1⟩ := box_new w #[.int .i64 k.k, .int .i64 k.n, .string k.s, .int .i64 k.ar] 76
  have HE := Lib.hid e1
  have HB1 := Lib.hid B1
  have HX1 := Lib.hid X1
  obtain ⟨i0, hi0, hz0, hs0, hb0⟩ := infoIntP
  obtain ⟨R, hR⟩ : ∃ R, pickF k l 0 = R := ⟨_, rfl⟩
  have HR := Lib.hid hR
  rw [hR]
  clear hm h e1 B1 z1 X1 hR
  go_enter Try.func50, Try.ntmps50
  go_upto_region 1 with fail
  (try rw [HE.out])
  clear HE
  go_wp2_with fail
  go_loopw [5, 10] (fun r z wr => ∃ (i q cr : Nat) (ar : Option Addr), i ≤ m ∧ z = .int .i64 i ∧ r = .slice ar q cr ∧ Hid ((pickF k (l.take i) 0).length = q) ∧ Hid (wr.ownsRow w1.heap.size 3 1 (.slice ar q cr) q ((pickF k (l.take i) 0).flatMap numCells)) ∧ Hid (Below w1.heap.size w1 wr)) (fun _ z _ => m - (RowKit.intOf z).toNat)
  case atStart => exact ⟨0, 0, 0, none, Nat.zero_le _, rfl, rfl, Lib.hid rfl, Lib.hid (World.ownsRow_nil _ _ _ _), Lib.hid (Below.refl _ _)⟩
  case round =>
    obtain ⟨i, q, cr, ar, hi, rfl, rfl, HQ, HRow, HB⟩ := hrel
    by_cases him : i < m
    · obtain ⟨x, hx⟩ : ∃ x, l[i]? = some x := ⟨_, List.getElem?_eq_getElem (by rw [HM.out]; exact him)⟩
      have HBr := Lib.hid (Ext.trans' HB1.out HB.out)
      have HNX := Lib.hid (pickF_next (k := k) hx)
      have hq : q ≤ i := by
        rw [← HQ.out]
        exact Nat.le_trans (pickF_len k _ 0) (by rw [List.length_take]; omega)
      obtain ⟨b, off, rfl, hbb, c0, c1, c2, c3⟩ := (HK.out.ext HBr.out).get hx
      clear hx
      go_upto_region 5 with fail
      obtain ⟨w2, e2, B2, z2, X2⟩ := box_new wr #[.int .i64 x.k, .int .i64 x.n, .string x.s, .int .i64 x.ar] 76
      (try rw [e2])
      obtain ⟨y0, y1, y2, y3, _⟩ := X2.four
      obtain ⟨x0, x1, x2, x3, _⟩ := (HX1.out.ext (Ext.trans' HB.out B2)).four
      have HB2 := Lib.hid B2
      clear e2 B2 z2 X2 c0 c1 c2 c3 hbb
      have C := ixMay_at x k w2
      obtain ⟨mb, hmb⟩ : ∃ mb, mayK x k = mb := ⟨_, rfl⟩
      have HMB := Lib.hid hmb
      rw [hmb] at C
      clear hmb
      (go_wp2_with fail; go_fit (C); rintro e w3 ⟨rfl, b3⟩)
      have HB3 := Lib.hid (Ext.trans' HB2.out b3)
      have HRow3 := Lib.hid (show w3.ownsRow w1.heap.size 3 1 (.slice ar q cr) q ((pickF k (l.take i) 0).flatMap numCells) from row_at HRow.out (fun g hg => HB3.out.block g (row_in HRow.out hg).2))
      have HBB3 := Lib.hid (Ext.trans' HB.out HB3.out)
      clear b3 C x0 x1 x2 x3 y0 y1 y2 y3
      cases mb
      · have HN := Lib.hid (show pickF k (l.take (i + 1)) 0 = pickF k (l.take i) 0 from by rw [HNX.out, HMB.out, if_neg (by simp), List.append_nil])
        go_wp2
        go_roundw
        case rel => exact ⟨i + 1, q, cr, ar, him, by go_num, by go_num, Lib.hid (by rw [HN.out]; exact HQ.out), Lib.hid (by rw [HN.out]; exact HRow3.out), HBB3⟩
        case measure => simp [RowKit.intOf]; omega
      · have HN := Lib.hid (show pickF k (l.take (i + 1)) 0 = pickF k (l.take i) 0 ++ [(i : Int)] from by rw [HNX.out, HMB.out, if_pos rfl])
        have HSZ := Lib.hid HBB3.out.size
        go_wp2_with (first
          | (at_builtin; refine wpList_append_k rfl _ _ 81 rfl w1.heap.size 3 i0 (.int .i64 0) 1 8 Try.underlying81 hi0 hz0 hs0 (by decide) hb0 rfl (.slice ar q cr) q ((pickF k (l.take i) 0).flatMap numCells) rfl (row_at HRow3.out (fun g hg => (bel1' w3 _).block g (row_in HRow3.out hg).2)) (some ⟨w3.heap.size, 0, none⟩) 1 1 [.int .i64 (i : Int)] rfl rfl (Or.inr ⟨_, rfl, fun jj uu hu => cell_new w3 #[.int .i64 (i : Int)] _ jj uu hu⟩) (by simp [Value.oneCell']) (by unfold maxLen; omega) (by omega) (by have := HSZ.out; simp; omega) (q + 1) ((pickF k (l.take i) 0).flatMap numCells ++ [.int .i64 (i : Int)]) rfl rfl ?_; intro a4 c4 w4 hown4 hgrow4 hat4
             have HO4 := Lib.hid hown4
             have HB4 := Lib.hid (show Below w1.heap.size w1 w4 from (HBB3.out.trans ((bel1' w3 _).mono HBB3.out.size)).grown hgrow4 (by have := HBB3.out.size; simp; omega) (fun g hg => (row_in HRow3.out hg).1))
             clear hown4 hgrow4 hat4)
          | fail)
        go_roundw
        case rel => exact ⟨i + 1, q + 1, c4, a4, him, by go_num, by go_num, Lib.hid (by rw [HN.out, List.length_append, HQ.out]; rfl), Lib.hid (by rw [HN.out, List.flatMap_append]; exact HO4.out), HB4⟩
        case measure => simp [RowKit.intOf]; omega
    · have hie : m = i := by omega
      subst hie
      have HQ2 := Lib.hid (show pickF k (l.take m) 0 = R from by rw [List.take_of_length_le (by rw [HM.out]; exact Nat.le_refl _)]; exact HR.out)
      have hmx : ¬ (m : Int) < m := by omega
      go_wp2
      go_ret
      refine ⟨_, rfl, ?_, Ext.trans' HB1.out HB.out⟩
      have h1 := HRow.out
      rw [HQ2.out] at h1
      have hqR : R.length = q := by rw [← HQ2.out]; exact HQ.out
      rw [hqR]
      exact ownsRow_base_a h1 HB1.out.size
end Go.Proofs.Ytchbbaehdcmcfaa
/- Stage 16's laws: ints, deep. -/
namespace Go.Proofs.Ytchbbaehdcmcfaa
open Go.RowKit
set_option linter.unusedVariables false
theorem Nums.cellsAt {w : World} {v : Value} {l : List Int} (h : Nums w v l) : ∃ a c, v = .slice a l.length c ∧ l.length ≤ c ∧ c ≤ maxLen ∧ ∀ (i : Nat) x, l[i]? = some x → ∃ b off, a = some ⟨b, off, none⟩ ∧ b < w.heap.size ∧ w.cell? ⟨b, off + i, none⟩ = some (.int .i64 x) := by
 obtain ⟨a, c, rfl, h1, h2⟩ := h.len
 exact ⟨a, c, rfl, h1, h2, fun i x hx => h.get hx⟩
set_option maxHeartbeats 4000000 in
theorem ints_at {w : World} {va vb : Value} {l r : List Int} (ha : Nums w va l) (hb : Nums w vb r) : Calls Try.prog 46 #[va, vb] w fun e w' => e = .returned (.bool (decide (l = r))) ∧ Below w.heap.size w w' := by
 obtain ⟨a, c, rfl, ha1, ha2, ha3⟩ := ha.cellsAt
 obtain ⟨b, d, rfl, hb1, hb2, hb3⟩ := hb.cellsAt
 unfold maxLen at ha2 hb2
 obtain ⟨m, hm⟩ : ∃ m, l.length = m := ⟨_, rfl⟩
 obtain ⟨n, hn⟩ : ∃ n, r.length = n := ⟨_, rfl⟩
 have HL := Lib.hid (And.intro hm hn)
 have HA := Lib.hid ha3
 have HB := Lib.hid hb3
 rw [hm] at ha1 ⊢
 rw [hn] at hb1 ⊢
 clear ha hb ha3 hb3 hm hn
 go_enter Try.func46, Try.ntmps46
 by_cases hmn : m = n
 rotate_left
 ·have hmn' : ((m : Int) == (n : Int)) = false := by simp; omega
  have hd : decide (l = r) = false := decide_eq_false fun e => hmn (by rw [← HL.out.1, ← HL.out.2, e])
  go_wp2
  go_ret
  exact ⟨by first | rfl | (rw [hd]; rfl), Below.refl _ _⟩
 subst hmn
 go_wp2_with fail
 go_loopw [5] (fun z wr => ∃ i : Nat, i ≤ m ∧ z = .int .i64 i ∧ Hid (Below w.heap.size w wr) ∧ Hid (l.take i = r.take i)) (fun z _ => m - (RowKit.intOf z).toNat)
 case atStart => exact ⟨0, Nat.zero_le _, rfl, Lib.hid (Below.refl _ _), Lib.hid rfl⟩
 case round =>
  obtain ⟨i, hi, rfl, HW, HT⟩ := hrel
  by_cases him : i < m
  ·obtain ⟨x, hx⟩ : ∃ x, l[i]? = some x := ⟨_, List.getElem?_eq_getElem (by rw [HL.out.1]; exact him)⟩
   obtain ⟨y, hy⟩ : ∃ y, r[i]? = some y := ⟨_, List.getElem?_eq_getElem (by rw [HL.out.2]; exact him)⟩
   obtain ⟨ba, oa, rfl, _, c0⟩ := HA.out i x hx
   obtain ⟨bb, ob, rfl, _, c1⟩ := HB.out i y hy
   have HX := Lib.hid (And.intro hx hy)
   replace c0 := cell_later HW.out c0
   replace c1 := cell_later HW.out c1
   have himi : (i : Int) < m := by omega
   clear hx hy
   by_cases hxy : x = y
   ·subst hxy
    have HN := Lib.hid (show l.take (i + 1) = r.take (i + 1) from by rw [take_next HX.out.1, take_next HX.out.2, HT.out])
    go_upto_region 6 with fail
    refine wp_region_held_drew (S := fun wq => wq.cell? ⟨ba, oa + i, none⟩ = some (.int .i64 x) ∧ wq.cell? ⟨bb, ob + i, none⟩ = some (.int .i64 x)) (by kernel_rfl) ⟨c0, c1⟩ (fun hHeld => ?_)
    first | (refine held_t (i := 0) hHeld ?_; constructor; constructor; intro wq hq; focus ((try dsimp only at hq); go_simp; first | done | with_reducible rfl | fail)) | refine held_s (i := 0) hHeld ?_ | fail
    first | (refine held_t (i := 1) hHeld ?_; constructor; constructor; intro wq hq; focus ((try dsimp only at hq); go_simp; first | done | with_reducible rfl | fail)) | refine held_s (i := 1) hHeld ?_ | fail
    first | (refine held_t (i := 2) hHeld ?_; constructor; constructor; intro wq hq; focus ((try dsimp only at hq); go_simp; first | done | with_reducible rfl | fail)) | refine held_s (i := 2) hHeld ?_ | fail
    first | (refine held_t (i := 3) hHeld ?_; constructor; constructor; intro wq hq; focus ((try dsimp only at hq); go_simp; first | done | with_reducible rfl | fail)) | refine held_s (i := 3) hHeld ?_ | fail
    first | (refine held_t (i := 4) hHeld ?_; constructor; constructor; intro wq hq; focus ((try dsimp only at hq); go_simp; first | done | with_reducible rfl | fail)) | refine held_s (i := 4) hHeld ?_ | fail
    first | (refine held_t (i := 5) hHeld ?_; constructor; constructor; intro wq hq; focus ((try dsimp only at hq); go_simp; first | done | with_reducible rfl | fail)) | refine held_s (i := 5) hHeld ?_ | fail
    first | (refine held_t (i := 6) hHeld ?_; constructor; constructor; intro wq hq; focus ((try dsimp only at hq); go_simp; first | done | with_reducible rfl | fail)) | refine held_s (i := 6) hHeld ?_ | fail
    first | (refine held_t (i := 7) hHeld ?_; constructor; constructor; intro wq hq; focus ((try dsimp only at hq); go_simp; first | done | with_reducible rfl | fail)) | refine held_s (i := 7) hHeld ?_ | fail
    first | (refine held_t (i := 8) hHeld ?_; constructor; constructor; intro wq hq; focus ((try dsimp only at hq); go_simp; first | done | with_reducible rfl | fail)) | refine held_s (i := 8) hHeld ?_ | fail
    try simp only [Act.put, lay4]
    refine wpAnyH_done (by kernel_rfl) ?_ _
    have HW2 := Lib.hid (show Below w.heap.size w wr.drew from HW.out.drew)
    clear hHeld c0 c1
    go_wp2
    go_roundw
    case rel => exact ⟨i + 1, him, by go_num, HW2, HN⟩
    case measure => simp [RowKit.intOf]; omega
   ·have hxy' : (x == y) = false := by simpa using hxy
    have hd : decide (l = r) = false := decide_eq_false fun e => hxy (by
     have h1 := HX.out.1
     rw [e, HX.out.2] at h1
     exact (Option.some.inj h1).symm)
    go_upto_region 6 with fail
    refine wp_region_held_drew (S := fun wq => wq.cell? ⟨ba, oa + i, none⟩ = some (.int .i64 x) ∧ wq.cell? ⟨bb, ob + i, none⟩ = some (.int .i64 y)) (by kernel_rfl) ⟨c0, c1⟩ (fun hHeld => ?_)
    first | (refine held_t (i := 0) hHeld ?_; constructor; constructor; intro wq hq; focus ((try dsimp only at hq); go_simp; first | done | with_reducible rfl | fail)) | refine held_s (i := 0) hHeld ?_ | fail
    first | (refine held_t (i := 1) hHeld ?_; constructor; constructor; intro wq hq; focus ((try dsimp only at hq); go_simp; first | done | with_reducible rfl | fail)) | refine held_s (i := 1) hHeld ?_ | fail
    first | (refine held_t (i := 2) hHeld ?_; constructor; constructor; intro wq hq; focus ((try dsimp only at hq); go_simp; first | done | with_reducible rfl | fail)) | refine held_s (i := 2) hHeld ?_ | fail
    first | (refine held_t (i := 3) hHeld ?_; constructor; constructor; intro wq hq; focus ((try dsimp only at hq); go_simp; first | done | with_reducible rfl | fail)) | refine held_s (i := 3) hHeld ?_ | fail
    first | (refine held_t (i := 4) hHeld ?_; constructor; constructor; intro wq hq; focus ((try dsimp only at hq); go_simp; first | done | with_reducible rfl | fail)) | refine held_s (i := 4) hHeld ?_ | fail
    first | (refine held_t (i := 5) hHeld ?_; constructor; constructor; intro wq hq; focus ((try dsimp only at hq); go_simp; first | done | with_reducible rfl | fail)) | refine held_s (i := 5) hHeld ?_ | fail
    first | (refine held_t (i := 6) hHeld ?_; constructor; constructor; intro wq hq; focus ((try dsimp only at hq); go_simp; first | done | with_reducible rfl | fail)) | refine held_s (i := 6) hHeld ?_ | fail
    first | (refine held_t (i := 7) hHeld ?_; constructor; constructor; intro wq hq; focus ((try dsimp only at hq); go_simp; first | done | with_reducible rfl | fail)) | refine held_s (i := 7) hHeld ?_ | fail
    first | (refine held_t (i := 8) hHeld ?_; constructor; constructor; intro wq hq; focus ((try dsimp only at hq); go_simp; first | done | with_reducible rfl | fail)) | refine held_s (i := 8) hHeld ?_ | fail
    try simp only [Act.put, lay4]
    refine wpAnyH_done (by kernel_rfl) ?_ _
    have HW2 := Lib.hid (show Below w.heap.size w wr.drew from HW.out.drew)
    clear hHeld c0 c1
    go_wp2
    go_ret
    exact ⟨by first | rfl | (rw [hd]; rfl), HW2.out⟩
  ·have hie : m = i := by omega
   subst hie
   have hd : decide (l = r) = true := decide_eq_true (by
    have h := HT.out
    rw [List.take_of_length_le (by rw [HL.out.1]; exact Nat.le_refl _), List.take_of_length_le (by rw [HL.out.2]; exact Nat.le_refl _)] at h
    exact h)
   have hmx : ¬ (m : Int) < m := by omega
   go_wp2
   go_ret
   exact ⟨by first | rfl | (rw [hd]; rfl), HW.out⟩
end Go.Proofs.Ytchbbaehdcmcfaa
