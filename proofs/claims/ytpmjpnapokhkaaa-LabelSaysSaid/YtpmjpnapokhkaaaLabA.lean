/- Package label, its small functions. -/
import Derived.Test.YtpmjpnapokhkaaaLab
import Derived.Test.YtpmjpnapokhkaaaRows
namespace Go.Proofs.Ytpmjpnapokhkaaa
open Go.RowKit

theorem small_any (c : UInt8) (w : World) :
    Calls Try.prog 30 #[.int .u8 c.toNat] w fun e w' => e = .returned (.bool (isSmall c)) ∧ w = w' := by
  go_enter Try.func30, Try.ntmps30
  go_wp2
  all_goals go_ret
  all_goals exact ⟨ret_bool (by unfold isSmall; simp_all; try omega), rfl⟩
theorem digit_any (c : UInt8) (w : World) :
    Calls Try.prog 31 #[.int .u8 c.toNat] w fun e w' => e = .returned (.bool (isDigit c)) ∧ w = w' := by
  go_enter Try.func31, Try.ntmps31
  go_wp2
  all_goals go_ret
  all_goals exact ⟨ret_bool (by unfold isDigit; simp_all; try omega), rfl⟩

set_option maxHeartbeats 400000 in
theorem goodName_any (s : ByteArray) (w : World) (hs : s.size ≤ 140737488351232) :
    Calls Try.prog 23 #[.string s] w fun e w' => e = .returned (.bool (goodName (bl s))) ∧ w = w' := by
  by_cases h0 : s.size < 1
  · go_enter Try.func23, Try.ntmps23
    go_wp2
    go_ret
    exact ⟨ret_bool (by rw [bl_nil (by omega)]; rfl), rfl⟩
  by_cases h1 : 16 < s.size
  · go_enter Try.func23, Try.ntmps23
    go_wp2
    go_ret
    exact ⟨ret_bool (goodName_long _ h1).symm, rfl⟩
  cases hsm : isSmall s[0]
  · go_enter Try.func23, Try.ntmps23
    go_wp2_with (go_at_call 30; go_fit (small_any _ _); rintro e w' ⟨rfl, rfl⟩)
    go_ret
    exact ⟨ret_bool (goodName_head (bl s) (show 0 < s.size by omega) (by show (!isSmall s[0]) = true; rw [hsm]; rfl)).symm, rfl⟩
  go_enter Try.func23, Try.ntmps23
  go_wp2_with (go_at_call 30; go_fit (small_any _ _); rintro e w' ⟨rfl, rfl⟩)
  go_loop [3] (fun i => ∃ k : Nat, 1 ≤ k ∧ k ≤ s.size ∧ i = .int .i64 k ∧ ∀ j (h : j < s.size), 1 ≤ j → j < k → isWord s[j] = true) (fun i => s.size - (intOf i).toNat)
  case atStart => exact ⟨1, by omega, by omega, rfl, fun j _ h1 h2 => by omega⟩
  case round =>
    obtain ⟨k, hk1, hk, rfl, hall⟩ := hrel
    have H := Lib.hid hall; clear hall
    by_cases hlt : k < s.size
    · have next (hw : isWord s[k] = true) : ∀ j (h : j < s.size), 1 ≤ j → j < k + 1 → isWord s[j] = true := fun j hj h1 h2 => by
        by_cases e : j = k
        · subst e; exact hw
        · exact H.out j hj h1 (by omega)
      have N := Lib.hid next; clear next
      cases h2 : isSmall s[k]
      · cases h3 : isDigit s[k]
        · cases h4 : ((s[k].toNat : Int) != 95)
          · have hw := Lib.hid (word_bar h4)
            go_wp2_with (first | (go_at_call 30; go_fit (small_any _ _); rintro e w' ⟨rfl, rfl⟩) | (go_at_call 31; go_fit (digit_any _ _); rintro e w' ⟨rfl, rfl⟩))
            go_round
            case rel => exact ⟨k + 1, by omega, by omega, by go_num, N.out hw.out⟩
            case measure => simp [intOf]; omega
          · have hw := Lib.hid (word_no h2 h3 h4)
            go_wp2_with (first | (go_at_call 30; go_fit (small_any _ _); rintro e w' ⟨rfl, rfl⟩) | (go_at_call 31; go_fit (digit_any _ _); rintro e w' ⟨rfl, rfl⟩))
            go_ret
            exact ⟨ret_bool (goodName_bad (bl s) k hk1 hlt hw.out).symm, rfl⟩
        · have hw := Lib.hid (word_digit h3)
          go_wp2_with (first | (go_at_call 30; go_fit (small_any _ _); rintro e w' ⟨rfl, rfl⟩) | (go_at_call 31; go_fit (digit_any _ _); rintro e w' ⟨rfl, rfl⟩))
          go_round
          case rel => exact ⟨k + 1, by omega, by omega, by go_num, N.out hw.out⟩
          case measure => simp [intOf]; omega
      · have hw := Lib.hid (word_small h2)
        go_wp2_with (first | (go_at_call 30; go_fit (small_any _ _); rintro e w' ⟨rfl, rfl⟩) | (go_at_call 31; go_fit (digit_any _ _); rintro e w' ⟨rfl, rfl⟩))
        go_round
        case rel => exact ⟨k + 1, by omega, by omega, by go_num, N.out hw.out⟩
        case measure => simp [intOf]; omega
    · go_wp2
      go_ret
      exact ⟨ret_bool (goodName_ok (bl s) (show 0 < s.size by omega) (show s.size ≤ 16 by omega) (by show (!isSmall s[0]) = false; rw [hsm]; rfl) (fun j h h1 => H.out j h h1 (by have : j < s.size := h; omega))).symm, rfl⟩

theorem index_none (a : Option Addr) (cap : Nat) (v : ByteArray) (w : World) :
    Calls Try.prog 32 #[.slice a 0 cap, .string v] w fun e w' => e = .returned (.int .i64 (-1)) ∧ w = w' := by
  go_enter Try.func32, Try.ntmps32
  go_wp2
  refine wp_loop_rounds 1 ?_
  rw [rounds_succ]
  go_wp2
  go_ret
  exact ⟨rfl, rfl⟩
theorem index_any (b off n cap : Nat) (ss : List ByteArray) (v : ByteArray) (w : World) (hn : ss.length = n) (hz : n * 16 ≤ 140737488351232)
    (hc : ∀ (i : Nat) (x : ByteArray), ss[i]? = some x → w.cell? ⟨b, off + i, none⟩ = some (.string x)) :
    Calls Try.prog 32 #[.slice (some ⟨b, off, none⟩) n cap, .string v] w fun e w' => e = .returned (.int .i64 (idx (ss.map bl) (bl v))) ∧ w = w' := by
  have HC := Lib.hid hc; clear hc
  have HN := Lib.hid hn; clear hn
  go_enter Try.func32, Try.ntmps32
  go_wp2
  go_loop [8] (fun i => ∃ k : Nat, k ≤ n ∧ i = .int .i64 k ∧ ∀ (j : Nat) (y : List UInt8), j < k → (ss.map bl)[j]? = some y → y ≠ bl v) (fun i => n - (intOf i).toNat)
  case atStart => exact ⟨0, Nat.zero_le _, rfl, fun j x h => by omega⟩
  case round =>
    obtain ⟨k, hk, rfl, hall⟩ := hrel
    have H := Lib.hid hall; clear hall
    by_cases hlt : k < n
    · obtain ⟨x, hx⟩ : ∃ x, ss[k]? = some x := ⟨_, List.getElem?_eq_getElem (by rw [HN.out]; exact hlt)⟩
      have hcx := HC.out k x hx
      have hx' : (ss.map bl)[k]? = some (bl x) := by simp [hx]
      have HX := Lib.hid hx'; clear hx hx'
      cases hq : (v.toList == x.toList)
      · have hne : bl x ≠ bl v := fun e => by rw [Lib.toList_data, Lib.toList_data, show v.data.toList = x.data.toList from e.symm] at hq; simp at hq
        have HQ := Lib.hid hne; clear hne
        go_wp2
        go_round
        case rel =>
          refine ⟨k + 1, by omega, by go_num, fun j y h1 h2 => ?_⟩
          by_cases e : j = k
          · subst e; rw [HX.out] at h2; cases h2; exact HQ.out
          · exact H.out j y (by omega) h2
        case measure => simp [intOf]; omega
      · have he : bl x = bl v := by rw [Lib.toList_data, Lib.toList_data] at hq; exact (by simpa using hq : v.data.toList = x.data.toList).symm
        have HQ := Lib.hid he; clear he
        go_wp2
        go_ret
        exact ⟨ret_int (idx_hit (by rw [HX.out, HQ.out]) H.out).symm, rfl⟩
    · go_wp2
      go_ret
      refine ⟨ret_int (idx_miss fun j y h => H.out j y ?_ h).symm, rfl⟩
      have := (List.getElem?_eq_some_iff.1 h).1
      have := HN.out
      simp at *; omega

/-- slices.Contains, of an empty slice. -/
theorem contains_none (a : Option Addr) (cap : Nat) (v : ByteArray) (w : World) :
    Calls Try.prog 24 #[.slice a 0 cap, .string v] w fun e w' => e = .returned (.bool false) ∧ w = w' := by
  go_enter Try.func24, Try.ntmps24
  go_wp2_with (go_at_call 32; go_fit (index_none _ _ _ _); rintro e w' ⟨rfl, rfl⟩)
  go_ret
  exact ⟨rfl, rfl⟩
theorem contains_any (b off n cap : Nat) (ss : List ByteArray) (v : ByteArray) (w : World) (hn : ss.length = n) (hz : n * 16 ≤ 140737488351232)
    (hc : ∀ (i : Nat) (x : ByteArray), ss[i]? = some x → w.cell? ⟨b, off + i, none⟩ = some (.string x)) :
    Calls Try.prog 24 #[.slice (some ⟨b, off, none⟩) n cap, .string v] w fun e w' => e = .returned (.bool ((ss.map bl).contains (bl v))) ∧ w = w' := by
  have HC := Lib.hid hc; clear hc
  have HN := Lib.hid hn; clear hn
  rw [← idx_contains]
  have hg := idx_ge (ss.map bl) (bl v)
  go_enter Try.func24, Try.ntmps24
  go_wp2_with (go_at_call 32; go_fit (index_any _ _ _ _ _ _ _ HN.out hz HC.out); rintro e w' ⟨rfl, rfl⟩)
  go_ret
  exact ⟨ret_bool (by simp), rfl⟩

/-- label.Good, of an empty slice. -/
theorem good_none (a : Option Addr) (cap : Nat) (w : World) :
    Calls Try.prog 8 #[.slice a 0 cap] w fun e w' => e = .returned (.bool false) ∧ w = w' := by
  go_enter Try.func8, Try.ntmps8
  go_wp2
  go_ret
  exact ⟨rfl, rfl⟩
set_option maxHeartbeats 400000 in
theorem good_some (b off n cap : Nat) (ss : List ByteArray) (w : World) (hn : ss.length = n) (hcap : n ≤ cap) (hz : n * 16 ≤ 140737488351232) (hs : ∀ s ∈ ss, s.size ≤ 140737488351232)
    (hc : ∀ (i : Nat) (x : ByteArray), ss[i]? = some x → w.cell? ⟨b, off + i, none⟩ = some (.string x)) :
    Calls Try.prog 8 #[.slice (some ⟨b, off, none⟩) n cap] w fun e w' => e = .returned (.bool (goodNames (ss.map bl))) ∧ w = w' := by
  have HC := Lib.hid hc; clear hc
  have HS := Lib.hid hs; clear hs
  have HN := Lib.hid (show (ss.map bl).length = n by simpa using hn); clear hn
  by_cases h0 : n < 1
  · go_enter Try.func8, Try.ntmps8
    go_wp2
    go_ret
    exact ⟨ret_bool (goodNames_none (by rw [HN.out]; exact h0)).symm, rfl⟩
  by_cases h1 : 64 < n
  · go_enter Try.func8, Try.ntmps8
    go_wp2
    go_ret
    exact ⟨ret_bool (goodNames_many (by rw [HN.out]; exact h1)).symm, rfl⟩
  go_enter Try.func8, Try.ntmps8
  go_wp2
  go_loop [15] (fun i => ∃ k : Nat, k ≤ n ∧ i = .int .i64 k ∧ ∀ j, j < k → okAt (ss.map bl) j = true) (fun i => n - (intOf i).toNat)
  case atStart => exact ⟨0, Nat.zero_le _, rfl, fun j h => by omega⟩
  case round =>
    obtain ⟨k, hk, rfl, hall⟩ := hrel
    have H := Lib.hid hall; clear hall
    by_cases hlt : k < n
    · obtain ⟨x, hx⟩ : ∃ x, ss[k]? = some x := ⟨_, List.getElem?_eq_getElem (by have := HN.out; simp at this; omega)⟩
      have hcx := HC.out k x hx
      have hsx := HS.out x (List.mem_of_getElem? hx)
      have hok : okAt (ss.map bl) k = (goodName (bl x) && !((ss.take k).map bl).contains (bl x)) := by simp [okAt, hx, List.map_take]
      have HX := Lib.hid hok; clear hok hx
      have hlen : (ss.take k).length = k := by have := HN.out; simp at this ⊢; omega
      have HL := Lib.hid hlen; clear hlen
      have hct : ∀ (i : Nat) (x : ByteArray), (ss.take k)[i]? = some x → w.cell? ⟨b, off + i, none⟩ = some (.string x) := fun i y h => HC.out i y (by
        rw [List.getElem?_take] at h; split at h
        · exact h
        · cases h)
      have HT := Lib.hid hct; clear hct
      cases h2 : goodName (bl x)
      · have hbad := Lib.hid (show okAt (ss.map bl) k = false by rw [HX.out, h2]; rfl)
        go_wp2_with (first | (go_at_call 23; go_fit (goodName_any _ _ hsx); rintro e w' ⟨rfl, rfl⟩) | (go_at_call 24; go_fit (contains_any _ _ _ _ _ _ _ HL.out (by omega) HT.out); rintro e w' ⟨rfl, rfl⟩))
        go_ret
        exact ⟨ret_bool (goodNames_bad (by rw [HN.out]; exact hlt) hbad.out).symm, rfl⟩
      · cases h3 : ((ss.take k).map bl).contains (bl x)
        · have hok := Lib.hid (show okAt (ss.map bl) k = true by rw [HX.out, h2, h3]; rfl)
          have h3' := Lib.hid h3; clear h3
          go_wp2_with (first | (go_at_call 23; go_fit (goodName_any _ _ hsx); rintro e w' ⟨rfl, rfl⟩) | ((go_at_call 24; go_fit (contains_any _ _ _ _ _ _ _ HL.out (by omega) HT.out); rintro e w' ⟨rfl, rfl⟩); rw [h3'.out]))
          go_round
          case rel =>
            refine ⟨k + 1, by omega, by go_num, fun j h => ?_⟩
            by_cases e : j = k
            · subst e; exact hok.out
            · exact H.out j (by omega)
          case measure => simp [intOf]; omega
        · have hbad := Lib.hid (show okAt (ss.map bl) k = false by rw [HX.out, h2, h3]; rfl)
          have h3' := Lib.hid h3; clear h3
          go_wp2_with (first | (go_at_call 23; go_fit (goodName_any _ _ hsx); rintro e w' ⟨rfl, rfl⟩) | ((go_at_call 24; go_fit (contains_any _ _ _ _ _ _ _ HL.out (by omega) HT.out); rintro e w' ⟨rfl, rfl⟩); rw [h3'.out]))
          go_ret
          exact ⟨ret_bool (goodNames_bad (by rw [HN.out]; exact hlt) hbad.out).symm, rfl⟩
    · go_wp2
      go_ret
      exact ⟨ret_bool (goodNames_ok (by rw [HN.out]; omega) (by rw [HN.out]; omega) (fun j h => H.out j (by rw [HN.out] at h; omega))).symm, rfl⟩
theorem good_any {v : Value} {ss : List ByteArray} {w : World} (h : Strs w v ss) :
    Calls Try.prog 8 #[v] w fun e w' => e = .returned (.bool (goodNames (ss.map bl))) ∧ w = w' := by
  obtain ⟨a, cap, rfl, hl, hm, hz, hs, rfl | ⟨b, off, rfl, hb, hc⟩⟩ := h
  · exact (good_none a cap w).mono fun e w' ⟨h1, h2⟩ => ⟨by rw [h1]; exact ret_bool rfl, h2⟩
  · exact good_some b off _ cap ss w rfl hl hz hs hc
end Go.Proofs.Ytpmjpnapokhkaaa
