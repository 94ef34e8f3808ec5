/- The document's NumParse. -/
import Derived.Test.YtcpfhjdjooakcaaDoorR4
namespace Go.Proofs.YtcpfhjdjooakcaaDoor
open Go.RowKit
set_option linter.unusedVariables false
theorem digit_at {c : UInt8} {w : World} : Calls Tryd.prog 40 #[.int .u8 c.toNat] w fun e w' => e = .returned (.bool (isDig c)) ∧ w = w' := by
  by_cases h1 : (c.toNat : Int) < 48
  · have e : isDig c = false := by simp [isDig, h1]
    rw [e]
    go_enter Tryd.func40, Tryd.ntmps40
    go_wp2
    go_ret
    exact ⟨rfl, rfl⟩
  · by_cases h2 : 57 < (c.toNat : Int)
    · have e : isDig c = false := by simp [isDig, h2]
      rw [e]
      go_enter Tryd.func40, Tryd.ntmps40
      go_wp2
      go_ret
      exact ⟨ret_bool (by simp; omega), rfl⟩
    · have e : isDig c = true := by simp only [isDig, decide_eq_false h1, decide_eq_false h2]; rfl
      rw [e]
      go_enter Tryd.func40, Tryd.ntmps40
      go_wp2
      go_ret
      exact ⟨rfl, rfl⟩
theorem ex_R (x : Int) : R (ex x).1 := by
  by_cases h : R x
  · rw [ex_in h]; exact h
  · rw [ex_out h]; exact R0
/-- One digit more. -/
theorem refGo_step {neg : Bool} {q m e x f : Int} {c : UInt8} {r : List UInt8} {d : Int} (hd : d = if neg then -((c.toNat : Int) - 48) else (c.toNat : Int) - 48) (h1 : ex (q * 10) = (m, e)) (h2 : ex (m + d) = (x, f)) :
    refGo neg q (c :: r) = if e ≠ 0 ∨ f ≠ 0 then (0, 3) else refGo neg x r := by
  simp only [refGo]
  rw [← hd, h1]
  simp only []
  rw [h2]
/-- What the second loop keeps: the number so far, and what is still to be read. -/
def ReadAt (neg : Bool) (l : List UInt8) (k : Nat) (q : Int) (x : Int × Int) : Prop := R q ∧ refGo neg q (l.drop k) = x

set_option maxHeartbeats 1000000 in
theorem nump_pos (s : ByteArray) {w : World} {x : Int × Int} (hs : s.size ≤ 140737488351232) (hn : 0 < s.size) (hc : ((s[0].toNat : Int) == 45) = false) (hx : (if digitsL ((bl s).drop 0) then refGo false 0 ((bl s).drop 0) else (0, 2)) = x) :
    Calls Tryd.prog 20 #[.string s] w fun e w' => e = Ret2 x ∧ w = w' := by
  have HX := Lib.hid hx; clear hx
  by_cases hz : s.size ≤ 0
  · have hl : (bl s).drop 0 = [] := List.drop_eq_nil_of_le hz
    obtain rfl : x = (0, 2) := by have := HX.out; rw [hl, if_neg (by decide)] at this; exact this.symm
    clear HX hl
    exact absurd hn (by omega)

  obtain ⟨x1, x2⟩ := x
  have hse : ¬ s = ByteArray.empty := fun e => by subst e; exact absurd hn (by decide)
  go_enter Tryd.func20, Tryd.ntmps20
  go_wp2
  go_loop [6] (fun i => ∃ k : Nat, 0 ≤ k ∧ k ≤ s.size ∧ i = .int .i64 k ∧ Hid (∀ j (h : j < s.size), 0 ≤ j → j < k → isDig s[j] = true)) (fun i => s.size - (intOf i).toNat)
  case atStart => exact ⟨0, by omega, by omega, rfl, Lib.hid (fun j _ h h2 => by omega)⟩
  case round =>
    obtain ⟨k, hk1, hk, rfl, H⟩ := hrel
    by_cases hlt : k < s.size
    · have D := fun w => @digit_at s[k] w
      cases hd : isDig s[k]
      · rw [hd] at D
        have hbad : digitsL ((bl s).drop 0) = false := by
          refine digitsL_bad (k := k - 0) (by rw [List.length_drop, bl_len]; omega) ?_
          rw [List.getElem_drop]
          have : 0 + (k - 0) = k := by omega
          simp only [this]
          exact hd
        obtain ⟨rfl, rfl⟩ : x1 = 0 ∧ x2 = 2 := by have := HX.out; rw [hbad, if_neg (by decide)] at this; cases this; exact ⟨rfl, rfl⟩
        clear hbad
        (go_wp2_with fail; go_fit (D _); rintro e w' ⟨rfl, rfl⟩)
        go_wp2
        go_ret2
        exact ⟨rfl, rfl⟩
      · rw [hd] at D
        have HN : Hid (∀ j (h : j < s.size), 0 ≤ j → j < k + 1 → isDig s[j] = true) := Lib.hid (fun j hj h1 h2 => by
          by_cases e : j = k
          · subst e; exact hd
          · exact H.out j hj h1 (by omega))
        clear hd
        (go_wp2_with fail; go_fit (D _); rintro e w' ⟨rfl, rfl⟩)
        go_wp2
        go_round
        case rel => exact ⟨k + 1, by omega, by omega, by go_num, HN⟩
        case measure => simp [intOf]; omega
    · have HD : Hid (∀ j (h : j < s.size), 0 ≤ j → isDig s[j] = true) := Lib.hid (fun j hj h => H.out j hj h (by omega))
      have hgood : digitsL ((bl s).drop 0) = true := by
        rw [digitsL_ok (fun j hj => by
          rw [List.getElem_drop]
          exact HD.out (0 + j) (by rw [List.length_drop, bl_len] at hj; omega) (by omega))]
        cases h : (bl s).drop 0 with
        | nil => have := List.drop_eq_nil_iff.1 h; rw [bl_len] at this; omega
        | cons a r => rfl
      have HG : Hid (refGo false 0 ((bl s).drop 0) = (x1, x2)) := Lib.hid (by have := HX.out; rw [hgood, if_pos rfl] at this; exact this)
      clear HX hgood H
      go_wp2
      go_loop [4, 7] (fun i n => ∃ (j : Nat) (q : Int), 0 ≤ j ∧ j ≤ s.size ∧ i = .int .i64 j ∧ n = .int .i64 q ∧ Hid (ReadAt false (bl s) j q (x1, x2))) (fun i _ => s.size - (intOf i).toNat)
      case atStart => exact ⟨0, 0, by omega, by omega, rfl, rfl, Lib.hid ⟨R0, HG.out⟩⟩
      case round =>
        obtain ⟨j, q, hj1, hj, rfl, rfl, HR⟩ := hrel
        by_cases hjl : j < s.size
        · have hdig := isDig_of (HD.out j hjl hj1)
          obtain ⟨m, e, hme⟩ : ∃ m e, ex (q * 10) = (m, e) := ⟨_, _, rfl⟩
          have hm : R m := by have := ex_R (q * 10); rw [hme] at this; exact this
          have M := fun w => @r_mul q 10 w HR.out.1 (by decide)
          rw [hme] at M
          obtain ⟨d, hd⟩ : ∃ d : Int, d = (s[j].toNat : Int) - 48 := ⟨_, rfl⟩
          obtain ⟨y, f, hyf⟩ : ∃ y f, ex (m + d) = (y, f) := ⟨_, _, rfl⟩
          have hy : R y := by have := ex_R (m + d); rw [hyf] at this; exact this
          have A := fun w => @r_add m d w hm (by unfold R; omega)
          rw [hyf] at A
          have hstep := HR.out.2
          rw [List.drop_eq_getElem_cons (show j < (bl s).length from hjl), refGo_step (d := d) (by rw [hd]; rfl) hme hyf] at hstep
          have HS := Lib.hid hstep; clear hstep hme hyf hm
          have u1 : IntKind.u8.wrap ((s[j].toNat : Int) - 48) = (s[j].toNat : Int) - 48 := by rw [IntKind.wrap_u8]; omega
          have u2 : IntKind.i64.wrap ((s[j].toNat : Int) - 48) = (s[j].toNat : Int) - 48 := wrap_in (by unfold R; omega)
          have u3 : IntKind.i64.wrap (-((s[j].toNat : Int) - 48)) = -((s[j].toNat : Int) - 48) := wrap_in (by unfold R; omega)
          have u4 : IntKind.i64.wrap (0 - ((s[j].toNat : Int) - 48)) = -((s[j].toNat : Int) - 48) := by rw [wrap_in (by unfold R; omega)]; omega
          rw [hd] at A
          by_cases he : e = 0
          · subst he
            by_cases hf : f = 0
            · subst hf
              have HN : Hid (ReadAt false (bl s) (j + 1) y (x1, x2)) := Lib.hid ⟨hy, by have := HS.out; rw [if_neg (by simp)] at this; exact this⟩
              clear HR HS hy
              (go_wp2_with fail; go_fit (M _); rintro e w' ⟨rfl, rfl⟩)
              (go_wp2_with fail; go_fit (A _); rintro e w' ⟨rfl, rfl⟩)
              (go_wp2_with fail; go_fit (A _); rintro e w' ⟨rfl, rfl⟩)
              go_wp2
              go_round
              case rel => exact ⟨j + 1, y, by omega, by omega, by go_num, by go_num, HN⟩
              case measure => simp [intOf]; omega
            · have ff : (f == 0) = false := beq_false_of_ne hf
              obtain ⟨rfl, rfl⟩ : x1 = 0 ∧ x2 = 3 := by have := HS.out; rw [if_pos (Or.inr hf)] at this; cases this; exact ⟨rfl, rfl⟩
              clear HR HS hy
              (go_wp2_with fail; go_fit (M _); rintro e w' ⟨rfl, rfl⟩)
              (go_wp2_with fail; go_fit (A _); rintro e w' ⟨rfl, rfl⟩)
              (go_wp2_with fail; go_fit (A _); rintro e w' ⟨rfl, rfl⟩)
              go_wp2
              go_ret2
              exact ⟨rfl, rfl⟩
          · have fe : (e == 0) = false := beq_false_of_ne he
            obtain ⟨rfl, rfl⟩ : x1 = 0 ∧ x2 = 3 := by have := HS.out; rw [if_pos (Or.inl he)] at this; cases this; exact ⟨rfl, rfl⟩
            clear HR HS hy
            (go_wp2_with fail; go_fit (M _); rintro e w' ⟨rfl, rfl⟩)
            (go_wp2_with fail; go_fit (A _); rintro e w' ⟨rfl, rfl⟩)
            (go_wp2_with fail; go_fit (A _); rintro e w' ⟨rfl, rfl⟩)
            go_wp2
            go_ret2
            exact ⟨rfl, rfl⟩
        · obtain ⟨rfl, rfl⟩ : x1 = q ∧ x2 = 0 := by
            have := HR.out.2
            rw [List.drop_eq_nil_of_le (by rw [bl_len]; omega), refGo] at this
            cases this; exact ⟨rfl, rfl⟩
          clear HR
          go_wp2
          go_ret2
          exact ⟨rfl, rfl⟩
set_option maxHeartbeats 1000000 in
theorem nump_neg (s : ByteArray) {w : World} {x : Int × Int} (hs : s.size ≤ 140737488351232) (hn : 0 < s.size) (hc : ((s[0].toNat : Int) == 45) = true) (hx : (if digitsL ((bl s).drop 1) then refGo true 0 ((bl s).drop 1) else (0, 2)) = x) :
    Calls Tryd.prog 20 #[.string s] w fun e w' => e = Ret2 x ∧ w = w' := by
  have HX := Lib.hid hx; clear hx
  by_cases hz : s.size ≤ 1
  · have hl : (bl s).drop 1 = [] := List.drop_eq_nil_of_le hz
    obtain rfl : x = (0, 2) := by have := HX.out; rw [hl, if_neg (by decide)] at this; exact this.symm
    clear HX hl
    go_enter Tryd.func20, Tryd.ntmps20
    go_wp2
    go_ret2
    exact ⟨rfl, rfl⟩
  obtain ⟨x1, x2⟩ := x
  have hse : ¬ s = ByteArray.empty := fun e => by subst e; exact absurd hn (by decide)
  go_enter Tryd.func20, Tryd.ntmps20
  go_wp2
  go_loop [6] (fun i => ∃ k : Nat, 1 ≤ k ∧ k ≤ s.size ∧ i = .int .i64 k ∧ Hid (∀ j (h : j < s.size), 1 ≤ j → j < k → isDig s[j] = true)) (fun i => s.size - (intOf i).toNat)
  case atStart => exact ⟨1, by omega, by omega, rfl, Lib.hid (fun j _ h h2 => by omega)⟩
  case round =>
    obtain ⟨k, hk1, hk, rfl, H⟩ := hrel
    by_cases hlt : k < s.size
    · have D := fun w => @digit_at s[k] w
      cases hd : isDig s[k]
      · rw [hd] at D
        have hbad : digitsL ((bl s).drop 1) = false := by
          refine digitsL_bad (k := k - 1) (by rw [List.length_drop, bl_len]; omega) ?_
          rw [List.getElem_drop]
          have : 1 + (k - 1) = k := by omega
          simp only [this]
          exact hd
        obtain ⟨rfl, rfl⟩ : x1 = 0 ∧ x2 = 2 := by have := HX.out; rw [hbad, if_neg (by decide)] at this; cases this; exact ⟨rfl, rfl⟩
        clear hbad
        (go_wp2_with fail; go_fit (D _); rintro e w' ⟨rfl, rfl⟩)
        go_wp2
        go_ret2
        exact ⟨rfl, rfl⟩
      · rw [hd] at D
        have HN : Hid (∀ j (h : j < s.size), 1 ≤ j → j < k + 1 → isDig s[j] = true) := Lib.hid (fun j hj h1 h2 => by
          by_cases e : j = k
          · subst e; exact hd
          · exact H.out j hj h1 (by omega))
        clear hd
        (go_wp2_with fail; go_fit (D _); rintro e w' ⟨rfl, rfl⟩)
        go_wp2
        go_round
        case rel => exact ⟨k + 1, by omega, by omega, by go_num, HN⟩
        case measure => simp [intOf]; omega
    · have HD : Hid (∀ j (h : j < s.size), 1 ≤ j → isDig s[j] = true) := Lib.hid (fun j hj h => H.out j hj h (by omega))
      have hgood : digitsL ((bl s).drop 1) = true := by
        rw [digitsL_ok (fun j hj => by
          rw [List.getElem_drop]
          exact HD.out (1 + j) (by rw [List.length_drop, bl_len] at hj; omega) (by omega))]
        cases h : (bl s).drop 1 with
        | nil => have := List.drop_eq_nil_iff.1 h; rw [bl_len] at this; omega
        | cons a r => rfl
      have HG : Hid (refGo true 0 ((bl s).drop 1) = (x1, x2)) := Lib.hid (by have := HX.out; rw [hgood, if_pos rfl] at this; exact this)
      clear HX hgood H
      go_wp2
      go_loop [4, 7] (fun i n => ∃ (j : Nat) (q : Int), 1 ≤ j ∧ j ≤ s.size ∧ i = .int .i64 j ∧ n = .int .i64 q ∧ Hid (ReadAt true (bl s) j q (x1, x2))) (fun i _ => s.size - (intOf i).toNat)
      case atStart => exact ⟨1, 0, by omega, by omega, rfl, rfl, Lib.hid ⟨R0, HG.out⟩⟩
      case round =>
        obtain ⟨j, q, hj1, hj, rfl, rfl, HR⟩ := hrel
        by_cases hjl : j < s.size
        · have hdig := isDig_of (HD.out j hjl hj1)
          obtain ⟨m, e, hme⟩ : ∃ m e, ex (q * 10) = (m, e) := ⟨_, _, rfl⟩
          have hm : R m := by have := ex_R (q * 10); rw [hme] at this; exact this
          have M := fun w => @r_mul q 10 w HR.out.1 (by decide)
          rw [hme] at M
          obtain ⟨d, hd⟩ : ∃ d : Int, d = -((s[j].toNat : Int) - 48) := ⟨_, rfl⟩
          obtain ⟨y, f, hyf⟩ : ∃ y f, ex (m + d) = (y, f) := ⟨_, _, rfl⟩
          have hy : R y := by have := ex_R (m + d); rw [hyf] at this; exact this
          have A := fun w => @r_add m d w hm (by unfold R; omega)
          rw [hyf] at A
          have hstep := HR.out.2
          rw [List.drop_eq_getElem_cons (show j < (bl s).length from hjl), refGo_step (d := d) (by rw [hd]; rfl) hme hyf] at hstep
          have HS := Lib.hid hstep; clear hstep hme hyf hm
          have u1 : IntKind.u8.wrap ((s[j].toNat : Int) - 48) = (s[j].toNat : Int) - 48 := by rw [IntKind.wrap_u8]; omega
          have u2 : IntKind.i64.wrap ((s[j].toNat : Int) - 48) = (s[j].toNat : Int) - 48 := wrap_in (by unfold R; omega)
          have u3 : IntKind.i64.wrap (-((s[j].toNat : Int) - 48)) = -((s[j].toNat : Int) - 48) := wrap_in (by unfold R; omega)
          have u4 : IntKind.i64.wrap (0 - ((s[j].toNat : Int) - 48)) = -((s[j].toNat : Int) - 48) := by rw [wrap_in (by unfold R; omega)]; omega
          rw [hd] at A
          by_cases he : e = 0
          · subst he
            by_cases hf : f = 0
            · subst hf
              have HN : Hid (ReadAt true (bl s) (j + 1) y (x1, x2)) := Lib.hid ⟨hy, by have := HS.out; rw [if_neg (by simp)] at this; exact this⟩
              clear HR HS hy
              (go_wp2_with fail; go_fit (M _); rintro e w' ⟨rfl, rfl⟩)
              (go_wp2_with fail; go_fit (A _); rintro e w' ⟨rfl, rfl⟩)
              (go_wp2_with fail; go_fit (A _); rintro e w' ⟨rfl, rfl⟩)
              go_wp2
              go_round
              case rel => exact ⟨j + 1, y, by omega, by omega, by go_num, by go_num, HN⟩
              case measure => simp [intOf]; omega
            · have ff : (f == 0) = false := beq_false_of_ne hf
              obtain ⟨rfl, rfl⟩ : x1 = 0 ∧ x2 = 3 := by have := HS.out; rw [if_pos (Or.inr hf)] at this; cases this; exact ⟨rfl, rfl⟩
              clear HR HS hy
              (go_wp2_with fail; go_fit (M _); rintro e w' ⟨rfl, rfl⟩)
              (go_wp2_with fail; go_fit (A _); rintro e w' ⟨rfl, rfl⟩)
              (go_wp2_with fail; go_fit (A _); rintro e w' ⟨rfl, rfl⟩)
              go_wp2
              go_ret2
              exact ⟨rfl, rfl⟩
          · have fe : (e == 0) = false := beq_false_of_ne he
            obtain ⟨rfl, rfl⟩ : x1 = 0 ∧ x2 = 3 := by have := HS.out; rw [if_pos (Or.inl he)] at this; cases this; exact ⟨rfl, rfl⟩
            clear HR HS hy
            (go_wp2_with fail; go_fit (M _); rintro e w' ⟨rfl, rfl⟩)
            (go_wp2_with fail; go_fit (A _); rintro e w' ⟨rfl, rfl⟩)
            (go_wp2_with fail; go_fit (A _); rintro e w' ⟨rfl, rfl⟩)
            go_wp2
            go_ret2
            exact ⟨rfl, rfl⟩
        · obtain ⟨rfl, rfl⟩ : x1 = q ∧ x2 = 0 := by
            have := HR.out.2
            rw [List.drop_eq_nil_of_le (by rw [bl_len]; omega), refGo] at this
            cases this; exact ⟨rfl, rfl⟩
          clear HR
          go_wp2
          go_ret2
          exact ⟨rfl, rfl⟩
theorem nump_none {w : World} : Calls Tryd.prog 20 #[.string ⟨#[]⟩] w fun e w' => e = Ret2 (0, 2) ∧ w = w' := by
  go_enter Tryd.func20, Tryd.ntmps20
  go_wp2
  go_ret2
  exact ⟨rfl, rfl⟩
theorem nump_at (s : ByteArray) {w : World} (hs : s.size ≤ 140737488351232) : Calls Tryd.prog 20 #[.string s] w fun e w' => e = Ret2 (numParse (bl s)) ∧ w = w' := by
  rw [← refParse_eq]
  by_cases h0 : s.size = 0
  · obtain rfl : s = ⟨#[]⟩ := bl_inj (bl_nil h0)
    exact nump_none
  · have hn : 0 < s.size := by omega
    have hneg : isNeg (bl s) = ((s[0].toNat : Int) == 45) := by
      cases h : bl s with
      | nil => exact absurd (by rw [← bl_len, h]; rfl) h0
      | cons a r =>
        have : s[0] = a := by
          have := bl_get s 0 hn
          rw [← this]; simp [h]
        rw [this]; rfl
    cases hc : ((s[0].toNat : Int) == 45)
    · refine nump_pos s hs hn hc ?_
      unfold refParse
      rw [hneg, hc]; rfl
    · refine nump_neg s hs hn hc ?_
      unfold refParse
      rw [hneg, hc]; rfl
end Go.Proofs.YtcpfhjdjooakcaaDoor
