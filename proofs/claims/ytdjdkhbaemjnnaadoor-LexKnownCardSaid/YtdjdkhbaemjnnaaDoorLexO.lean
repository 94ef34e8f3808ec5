/- Package lex: Quote. -/
import Derived.Test.YtdjdkhbaemjnnaaDoorLexM
namespace Go.Proofs.YtdjdkhbaemjnnaaDoor
open Go.RowKit
set_option linter.unusedVariables false

theorem short_is : ∀ c, (match shortB c with | some d => mayQ c && (escQ c == [92, d]) | none => if shownB c then mayQ c && (escQ c == [c]) else !mayQ c) = true := u8_all (g := fun _ => true) (by decide +kernel)
theorem short_yes {c d : UInt8} (h : shortB c = some d) : mayQ c = true ∧ escQ c = [92, d] := by
  have := short_is c
  rw [h] at this
  simp only [Bool.and_eq_true, beq_iff_eq] at this
  exact this
theorem short_plain {c : UInt8} (h : shortB c = none) (hs : shownB c = true) : mayQ c = true ∧ escQ c = [c] := by
  have := short_is c
  rw [h] at this
  simp only [hs, if_true, Bool.and_eq_true, beq_iff_eq] at this
  exact this
theorem short_ill {c : UInt8} (h : shortB c = none) (hs : shownB c = false) : mayQ c = false := by
  have := short_is c
  rw [h] at this
  simp only [hs] at this
  simpa using this
theorem cell_new (w : World) (cs : Array Value) (ty : TypeId) (j : Nat) (u : Value) (h : cs.toList[j]? = some u) : (w.alloc (.cells cs ty)).cell? ((⟨w.heap.size, 0, none⟩ : Addr).add j) = some u := by
  have h1 := heap_alloc_new w (.cells cs ty)
  rw [add_plain, Nat.zero_add, World.cell?, h1]
  simpa using h
theorem RowB.join {w : World} {base : Nat} {v : Value} {l : List UInt8} {n : Nat} (m : List UInt8) (hn : n = l.length + m.length) (h : w.ownsRow base 5 1 v n (bytesV l ++ bytesV m)) : RowB w base v (l ++ m) := by
  subst hn
  unfold RowB
  rw [List.length_append]
  unfold bytesV at h ⊢
  rw [List.map_append]
  exact h
theorem bytesV_one (m : List UInt8) : ∀ u ∈ bytesV m, u.oneCell' = true := by
  intro u hu
  obtain ⟨c, _, rfl⟩ := List.mem_map.1 hu
  rfl
theorem esc_len (l : List UInt8) : (l.flatMap escQ).length ≤ 2 * l.length := by
  induction l with
  | nil => simp
  | cons c r ih =>
    rw [List.flatMap_cons, List.length_append, List.length_cons]
    have : (escQ c).length ≤ 2 := by
      unfold escQ
      split
      · simp
      split
      · simp
      split
      · simp
      split
      · simp
      · simp
    omega
theorem quote_long {l : List UInt8} (h : 64 < l.length) : quoteB l = [] := by
  unfold quoteB
  rw [if_neg, if_neg]
  · intro e
    simp only [Bool.and_eq_true, decide_eq_true_eq] at e
    omega
  · intro e
    have := plain_short e
    omega
set_option maxHeartbeats 4000000 in
theorem quote_any (s : ByteArray) (w : World) (he : Err w) (hs : s.size ≤ 140737488351232) : Calls Tryd.prog 10 #[.string s] w fun e w' => e = .returned (.string ⟨(quoteB (bl s)).toArray⟩) ∧ Below w.heap.size w w' := by
  by_cases hbig : 64 < s.size
  · rw [quote_long (show 64 < (bl s).length from hbig)]
    go_enter Tryd.func10, Tryd.ntmps10
    go_wp2
    go_ret
    exact ⟨rfl, Below.refl _ _⟩
  have P := fun w h => plain_any s w h hs
  cases hp : plainB (bl s)
  · rw [hp] at P
    have hQ : quoteB (bl s) = if (bl s).all mayQ then 39 :: ((bl s).flatMap escQ ++ [39]) else [] := by
      unfold quoteB
      rw [if_neg (by rw [hp]; simp)]
      have : decide ((bl s).length ≤ 64) = true := decide_eq_true (show s.size ≤ 64 by omega)
      rw [this, Bool.true_and]
    generalize quoteB (bl s) = Q at hQ
    have HQ := Lib.hid hQ
    clear hp hQ
    obtain ⟨i0, hi0, hz0, hs0, hb0⟩ := info_parts infoU8
    have hini := fun (w1 : World) (h : w.heap.size ≤ w1.heap.size) => World.ownsRow_lit (e := 5) (size := 1) (base := w.heap.size) w1 #[.int .u8 39] 1 h (by unfold maxLen; omega) rfl
    have HINI := Lib.hid hini
    clear hini
    go_enter Tryd.func10, Tryd.ntmps10
    (go_wp2_with fail; go_fit (P _ he); rintro e w1 ⟨rfl, b1⟩)
    have B1 := Lib.hid b1
    clear b1
    go_wp2_with fail
    go_loopw [3, 17] (fun o v wr => ∃ (k : Nat) (ao : Option Addr) (n cv : Nat) (l : List UInt8), k ≤ s.size ∧ v = .int .i64 k ∧ o = .slice ao n cv ∧ n = l.length ∧ n ≤ 2 * k + 1 ∧ Hid (RowB wr w.heap.size o l) ∧ Hid (Below w.heap.size w wr) ∧
        Hid (l = 39 :: ((bl s).take k).flatMap escQ ∧ ((bl s).take k).all mayQ = true)) (fun _ v _ => s.size - (intOf v).toNat)
    case atStart =>
      exact ⟨0, _, 1, 1, [39], Nat.zero_le _, rfl, rfl, rfl, by omega, Lib.hid (HINI.out w1 B1.out.size), Lib.hid (B1.out.alloc B1.out.size _), Lib.hid ⟨rfl, rfl⟩⟩
    case round =>
      obtain ⟨k, ao, n, cv, l, hk, rfl, rfl, hnl, hn2, HR, HB, HL⟩ := hrel
      have HNL := Lib.hid hnl
      clear hnl
      have hwr : w.heap.size ≤ wr.heap.size := HB.out.size
      by_cases hlt : k < s.size
      · have htk : (bl s).take (k + 1) = (bl s).take k ++ [s[k]] := by
          rw [List.take_add_one, List.getElem?_eq_getElem (show k < (bl s).length from hlt)]
          rfl
        have HTK := Lib.hid htk
        clear htk
        cases hsh : shortB s[k] with
        | some d =>
          obtain ⟨hm, hq⟩ := short_yes hsh
          have SH := fun w => short_some s[k] d w hsh
          have HN : Hid (l ++ [92, d] = 39 :: ((bl s).take (k + 1)).flatMap escQ ∧ ((bl s).take (k + 1)).all mayQ = true) := Lib.hid ⟨by
            rw [HTK.out, List.flatMap_append, List.flatMap_singleton, hq, HL.out.1, List.cons_append], by rw [HTK.out, List.all_append, HL.out.2]; simp [hm]⟩
          have HRR : Hid (wr.ownsRow w.heap.size 5 1 (.slice ao n cv) n (bytesV l)) := Lib.hid (by have := HR.out; rw [HNL.out] at this ⊢; exact this)
          clear hsh hm hq HL HTK
          go_wp2_with (first
            | (go_at_call 14; go_fit (SH _); rintro e w' ⟨rfl, rfl⟩)
            | (at_builtin; refine wpList_append_k rfl _ _ 37 rfl w.heap.size 5 i0 (.int .u8 0) 1 1 Tryd.underlying37 hi0 hz0 hs0 (by decide) hb0 rfl (.slice ao n cv) n (bytesV l) rfl (HRR.out.alloc _) _ 2 2 (bytesV [92, d]) rfl rfl (Or.inr ⟨_, rfl, fun j u hu => cell_new _ _ _ j u hu⟩) (bytesV_one _) (by unfold maxLen; omega) (by omega) (by simp; omega) (n + 2) (bytesV l ++ bytesV [92, d]) rfl rfl ?_; intro a4 c4 w4 hown4 hgrow4 hat4))
          go_roundw
          case rel =>
            exact ⟨k + 1, a4, n + 2, c4, l ++ [92, d], by omega, by go_num, rfl, by rw [List.length_append, HNL.out]; rfl, by omega, Lib.hid (RowB.join [92, d] (by rw [HNL.out]; rfl) hown4), Lib.hid ((HB.out.alloc hwr _).grown hgrow4 (by simp; omega) (fun q hq => (HRR.out.lt q hq).1)), HN⟩
          case measure => simp [intOf]; omega
        | none =>
          have SH := fun w => short_none s[k] w hsh
          have SW := fun w => shown_any s[k] w
          cases hsw : shownB s[k]
          · have hm := short_ill hsh hsw
            rw [hsw] at SW
            have HF : Hid ((bl s).all mayQ = false) := Lib.hid (by
              rw [List.all_eq_false]
              exact ⟨(bl s)[k]'hlt, List.getElem_mem _, by show ¬ mayQ s[k] = true; rw [hm]; simp⟩)
            clear hsh hsw hm HL HTK
            go_wp2_with (first | (go_at_call 14; go_fit (SH _); rintro e w' ⟨rfl, rfl⟩) | (go_at_call 15; go_fit (SW _); rintro e w' ⟨rfl, rfl⟩))
            go_ret
            exact ⟨by rw [HQ.out, HF.out]; rfl, HB.out⟩
          · obtain ⟨hm, hq⟩ := short_plain hsh hsw
            rw [hsw] at SW
            have HN : Hid (l ++ [s[k]] = 39 :: ((bl s).take (k + 1)).flatMap escQ ∧ ((bl s).take (k + 1)).all mayQ = true) := Lib.hid ⟨by
              rw [HTK.out, List.flatMap_append, List.flatMap_singleton, hq, HL.out.1, List.cons_append], by rw [HTK.out, List.all_append, HL.out.2]; simp [hm]⟩
            have HRR : Hid (wr.ownsRow w.heap.size 5 1 (.slice ao n cv) n (bytesV l)) := Lib.hid (by have := HR.out; rw [HNL.out] at this ⊢; exact this)
            clear hsh hsw hm hq HL HTK
            go_wp2_with (first
              | (go_at_call 14; go_fit (SH _); rintro e w' ⟨rfl, rfl⟩)
              | (go_at_call 15; go_fit (SW _); rintro e w' ⟨rfl, rfl⟩)
              | (at_builtin; refine wpList_append_k rfl _ _ 37 rfl w.heap.size 5 i0 (.int .u8 0) 1 1 Tryd.underlying37 hi0 hz0 hs0 (by decide) hb0 rfl (.slice ao n cv) n (bytesV l) rfl (HRR.out.alloc _) _ 1 1 (bytesV [s[k]]) rfl rfl (Or.inr ⟨_, rfl, fun j u hu => cell_new _ _ _ j u hu⟩) (bytesV_one _) (by unfold maxLen; omega) (by omega) (by simp; omega) (n + 1) (bytesV l ++ bytesV [s[k]]) rfl rfl ?_; intro a4 c4 w4 hown4 hgrow4 hat4))
            go_roundw
            case rel =>
              exact ⟨k + 1, a4, n + 1, c4, l ++ [s[k]], by omega, by go_num, rfl, by rw [List.length_append, HNL.out]; rfl, by omega, Lib.hid (RowB.join [s[k]] (by rw [HNL.out]; rfl) hown4), Lib.hid ((HB.out.alloc hwr _).grown hgrow4 (by simp; omega) (fun q hq => (HRR.out.lt q hq).1)), HN⟩
            case measure => simp [intOf]; omega
      · have hkn : k = s.size := by omega
        have HF : Hid ((if (bl s).all mayQ then 39 :: ((bl s).flatMap escQ ++ [39]) else []) = l ++ [39]) := Lib.hid (by
          have h := HL.out
          rw [hkn, List.take_of_length_le (by rw [bl_len]; omega)] at h
          rw [h.2, h.1]
          rfl)
        have HRR : Hid (wr.ownsRow w.heap.size 5 1 (.slice ao n cv) n (bytesV l)) := Lib.hid (by have := HR.out; rw [HNL.out] at this ⊢; exact this)
        clear hkn HL
        go_wp2_with (at_builtin; refine wpList_append_k rfl _ _ 37 rfl w.heap.size 5 i0 (.int .u8 0) 1 1 Tryd.underlying37 hi0 hz0 hs0 (by decide) hb0 rfl (.slice ao n cv) n (bytesV l) rfl (HRR.out.alloc _) _ 1 1 (bytesV [39]) rfl rfl (Or.inr ⟨_, rfl, fun j u hu => cell_new _ _ _ j u hu⟩) (bytesV_one _) (by unfold maxLen; omega) (by omega) (by simp; omega) (n + 1) (bytesV l ++ bytesV [39]) rfl rfl ?_; intro a4 c4 w4 hown4 hgrow4 hat4; have CV := conv_row (RowB.join [39] (by rw [HNL.out]; rfl) hown4))
        go_ret
        exact ⟨by rw [HQ.out, HF.out]; rfl, (HB.out.alloc hwr _).grown hgrow4 (by simp; omega) (fun q hq => (HRR.out.lt q hq).1)⟩
  · rw [hp] at P
    have hQ : quoteB (bl s) = bl s := by
      unfold quoteB
      rw [if_pos hp]
    rw [hQ]
    clear hp hQ
    go_enter Tryd.func10, Tryd.ntmps10
    (go_wp2_with fail; go_fit (P _ he); rintro e w1 ⟨rfl, b1⟩)
    go_wp2
    go_ret
    exact ⟨rfl, b1⟩
end Go.Proofs.YtdjdkhbaemjnnaaDoor
