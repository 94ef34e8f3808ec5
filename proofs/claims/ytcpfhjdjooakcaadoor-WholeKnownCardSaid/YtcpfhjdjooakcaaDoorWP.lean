/- Package whole's Parse and Cmp. -/
import Derived.Test.YtcpfhjdjooakcaaDoorWD
import Derived.Test.YtcpfhjdjooakcaaDoorDig
import Derived.Lib.AtoiErrMem
namespace Go.Proofs.YtcpfhjdjooakcaaDoor
open Go.RowKit
theorem gRange : Tryd.prog.globalNamed "strconv.ErrRange" = some 1 := by kernel_rfl
/-- strconv's ErrRange is an error. -/
def Err (w : World) : Prop := ∃ tp p, w.var? Tryd.prog "strconv.ErrRange" = some #[.iface tp p]
theorem Err.ext {w w' : World} (h : Err w) (hb : Below w.heap.size w w') : Err w' := by
  obtain ⟨tp, p, h⟩ := h
  exact ⟨tp, p, Joins.var_stays gRange h hb (Nat.le_refl _)⟩
theorem digits_at (s : ByteArray) {w : World} (hs : s.size ≤ 140737488351232) : Calls Tryd.prog 24 #[.string s] w fun e w' => e = .returned (.bool (digitsL (bl s))) ∧ w = w' := by
  go_enter Tryd.func24, Tryd.ntmps24
  go_wp2
  go_loop [6] (fun i => ∃ k : Nat, k ≤ s.size ∧ i = .int .i64 k ∧ ∀ j (h : j < s.size), j < k → isDig s[j] = true) (fun i => s.size - (intOf i).toNat)
  case atStart => exact ⟨0, by omega, rfl, fun j _ h => by omega⟩
  case round =>
    obtain ⟨k, hk, rfl, hall⟩ := hrel
    have H := Lib.hid hall; clear hall
    by_cases hlt : k < s.size
    · by_cases h1 : (s[k].toNat : Int) < 48
      · have hb := Lib.hid (show isDig s[k] = false by simp [isDig, h1])
        go_wp2
        go_ret
        exact ⟨ret_bool (digitsL_bad (l := bl s) (k := k) hlt hb.out).symm, rfl⟩
      · by_cases h2 : 57 < (s[k].toNat : Int)
        · have hb := Lib.hid (show isDig s[k] = false by simp [isDig, h2])
          go_wp2
          go_ret
          exact ⟨ret_bool (digitsL_bad (l := bl s) (k := k) hlt hb.out).symm, rfl⟩
        · have hb := Lib.hid (show isDig s[k] = true by simp only [isDig, decide_eq_false h1, decide_eq_false h2]; rfl)
          go_wp2
          go_round
          case rel =>
            refine ⟨k + 1, by omega, by go_num, fun j hj h => ?_⟩
            by_cases e : j = k
            · subst e; exact hb.out
            · exact H.out j hj (by omega)
          case measure => simp [intOf]; omega
    · have hq : digitsL (bl s) = !(bl s).isEmpty := digitsL_ok (l := bl s) (fun j hj => H.out j hj (by have : j < s.size := hj; omega))
      have HQ := Lib.hid hq; clear hq
      by_cases h0 : s.size = 0
      · have e := bl_nil h0
        obtain rfl : s = ⟨#[]⟩ := bl_inj e
        go_wp2
        go_ret
        exact ⟨ret_bool (by rw [HQ.out]; rfl), rfl⟩
      · have e : (bl s).isEmpty = false := by
          cases h : bl s with
          | nil => exact absurd (by rw [← bl_len, h]; rfl) h0
          | cons a r => rfl
        have e' : s.toList.isEmpty = false := by rw [Lib.toList_data]; exact e
        go_wp2
        go_ret
        exact ⟨ret_bool (by rw [HQ.out, e]; first | rfl | (rw [e']; rfl)), rfl⟩
/-- What ParseInt hands back, and its error: nil just where it is a number. -/
theorem parseInt_ok (s : ByteArray) {w : World} {v : Int} (hs : s.size ≤ 140737488351232) (h : Lib.parseIntB 64 (bl s) = .ok v) : Calls Tryd.prog 26 #[.string s, .int .i64 10, .int .i64 64] w fun e w' => e = .returned (.tuple #[.int .i64 v, .nilIface]) ∧ Below w.heap.size w w' :=
  (Tryd.strconv_ParseInt_10_at64_ok s (by omega) v h w).mono fun e w' h => ⟨h.1, by
    rcases h.2 with rfl | ⟨t, rfl⟩
    · exact Below.refl _ _
    · exact Lib.bytesWorld_below _ _ _⟩
theorem parseInt_range (s : ByteArray) {w : World} (he : Err w) (hs : s.size ≤ 140737488351232) (h : Lib.parseIntB 64 (bl s) = .range) : Calls Tryd.prog 26 #[.string s, .int .i64 10, .int .i64 64] w fun e w' => (∃ (x : Int) (t : TypeId) (q : Value), e = .returned (.tuple #[.int .i64 x, .iface t q])) ∧ Below w.heap.size w w' := by
  obtain ⟨tp, p, he⟩ := he
  refine (Tryd.strconv_ParseInt_10_at64_range_var s (by omega) h tp p w he).mono fun e w' h => ?_
  obtain ⟨N, h1, _, _, h4⟩ := h
  exact ⟨⟨_, _, _, h1⟩, h4⟩
theorem trim_at (s : ByteArray) {w : World} : Calls Tryd.prog 25 #[.string s, .string ⟨#[45]⟩] w fun e w' => e = .returned (.string ⟨(Lib.trimPrefix (bl s) [45]).toArray⟩) ∧ w = w' :=
  (Tryd.strings_TrimPrefix s ⟨#[45]⟩ w).mono fun e w' h => ⟨h.1, h.2.symm⟩
theorem trim_len (l p : List UInt8) : (Lib.trimPrefix l p).length ≤ l.length := by
  unfold Lib.trimPrefix; split <;> simp
set_option maxHeartbeats 400000 in
theorem parse_at (s : ByteArray) {w : World} {x : Int × Int} (he : Err w) (hs : s.size ≤ 140737488351232) (hx : numParse (bl s) = x) : Calls Tryd.prog 14 #[.string s] w fun e w' => e = .returned (.tuple #[.int .i64 x.1, .int .i64 x.2]) ∧ Below w.heap.size w w' := by
  have T := fun w => @trim_at s w
  generalize hq : (⟨(Lib.trimPrefix (bl s) [45]).toArray⟩ : ByteArray) = q at T
  have hql : bl q = Lib.trimPrefix (bl s) [45] := by rw [← hq]
  have hqs : q.size ≤ 140737488351232 := by
    have h1 := trim_len (bl s) [45]
    rw [← hql, bl_len, bl_len] at h1; omega
  have D := fun w => @digits_at q w hqs
  unfold numParse at hx
  rw [← hql] at hx
  have HP := Lib.hid (@parse_ends (bl s))
  rw [← hql] at HP
  clear hq
  cases hd : digitsL (bl q)
  · rw [hd] at D hx
    rw [if_neg (by simp)] at hx
    subst hx
    clear hd HP hql
    go_enter Tryd.func14, Tryd.ntmps14
    go_wp2_with (first | (go_at_call 25; go_fit (T _); rintro e w' ⟨rfl, rfl⟩) | (go_at_call 24; go_fit (D _); rintro e w' ⟨rfl, rfl⟩))
    go_ret2
    exact ⟨rfl, Below.refl _ _⟩
  · rw [hd] at D hx
    rw [if_pos rfl] at hx
    have HX := Lib.hid hx; clear hx
    rcases HP.out hd with ⟨v, hv⟩ | hv
    · obtain rfl : x = (v, 0) := by have := HX.out; rw [hv] at this; exact this.symm
      have P := fun w => @parseInt_ok s w v hs hv
      clear hd HP hql hv HX
      go_enter Tryd.func14, Tryd.ntmps14
      go_wp2_with (first | (go_at_call 25; go_fit (T _); rintro e w' ⟨rfl, rfl⟩) | (go_at_call 24; go_fit (D _); rintro e w' ⟨rfl, rfl⟩))
      (go_wp2_with fail; go_fit (P _); rintro e w1 ⟨rfl, b1⟩)
      go_wp2
      go_ret2
      exact ⟨rfl, b1⟩
    · obtain rfl : x = (0, 3) := by have := HX.out; rw [hv] at this; exact this.symm
      have P := fun w h => @parseInt_range s w h hs hv
      clear hd HP hql hv HX
      go_enter Tryd.func14, Tryd.ntmps14
      go_wp2_with (first | (go_at_call 25; go_fit (T _); rintro e w' ⟨rfl, rfl⟩) | (go_at_call 24; go_fit (D _); rintro e w' ⟨rfl, rfl⟩))
      (go_wp2_with fail; go_fit (P _ he); rintro e w1 ⟨⟨x, t, r, rfl⟩, b1⟩)
      go_wp2
      go_ret2
      exact ⟨rfl, b1⟩
theorem cmp_eq {a b : Int} {w : World} : Calls Tryd.prog 13 #[.string ⟨#[61, 58, 61]⟩, .int .i64 a, .int .i64 b] w fun e w' => e = .returned (.tuple #[.bool (a == b), .int .i64 0]) ∧ w = w' := by
  go_enter Tryd.func13, Tryd.ntmps13
  go_wp2
  go_ret2
  exact ⟨rfl, rfl⟩
theorem cmp_ne {a b : Int} {w : World} : Calls Tryd.prog 13 #[.string ⟨#[61, 92, 61]⟩, .int .i64 a, .int .i64 b] w fun e w' => e = .returned (.tuple #[.bool (a != b), .int .i64 0]) ∧ w = w' := by
  go_enter Tryd.func13, Tryd.ntmps13
  go_wp2
  go_ret2
  exact ⟨rfl, rfl⟩
theorem cmp_lt {a b : Int} {w : World} : Calls Tryd.prog 13 #[.string ⟨#[60]⟩, .int .i64 a, .int .i64 b] w fun e w' => e = .returned (.tuple #[.bool (decide (a < b)), .int .i64 0]) ∧ w = w' := by
  go_enter Tryd.func13, Tryd.ntmps13
  go_wp2
  go_ret2
  exact ⟨rfl, rfl⟩
theorem cmp_gt {a b : Int} {w : World} : Calls Tryd.prog 13 #[.string ⟨#[62]⟩, .int .i64 a, .int .i64 b] w fun e w' => e = .returned (.tuple #[.bool (decide (b < a)), .int .i64 0]) ∧ w = w' := by
  go_enter Tryd.func13, Tryd.ntmps13
  go_wp2
  go_ret2
  exact ⟨rfl, rfl⟩
theorem cmp_le {a b : Int} {w : World} : Calls Tryd.prog 13 #[.string ⟨#[61, 60]⟩, .int .i64 a, .int .i64 b] w fun e w' => e = .returned (.tuple #[.bool (decide (a ≤ b)), .int .i64 0]) ∧ w = w' := by
  go_enter Tryd.func13, Tryd.ntmps13
  go_wp2
  go_ret2
  exact ⟨rfl, rfl⟩
theorem cmp_ge {a b : Int} {w : World} : Calls Tryd.prog 13 #[.string ⟨#[62, 61]⟩, .int .i64 a, .int .i64 b] w fun e w' => e = .returned (.tuple #[.bool (decide (b ≤ a)), .int .i64 0]) ∧ w = w' := by
  go_enter Tryd.func13, Tryd.ntmps13
  go_wp2
  go_ret2
  exact ⟨rfl, rfl⟩
end Go.Proofs.YtcpfhjdjooakcaaDoor
